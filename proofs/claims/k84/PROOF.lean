import PyProof.Rows.All
import OpenK.KLine
import Wide.FinOn
import KE.BitLaws
import KE.IntTextLaws
import KE.KDictList
import KE.KDictOf
import KE.KDictSum
import KE.KEqDict
import KE.KFromBytes
import KE.KIntText
import KE.KIsAll
import KE.KItem
import KE.KPairComp
import KE.KRevIter
import KE.KTryMore
import KE.KxBytes
import KE.LcSums
import OpenK.KRaise
import PyProof.EqAt
import PyProof.EqKinds
import PyProof.TupleCall
import PyProof.StationsW
import PyProof.ExcBaseAll.ValueError
import PyProof.ExcInit
import PyProof.InstStoreFacts
import PyProof.NsDelKeeps
import PyProof.TupleIter
import PyProof.Draws
import PyProof.EnumMake
import PyProof.Rows.CallKwBuiltin
import PyProof.StrLawsReplace
import PyProof.StrLawsTight
import PyProof.StrReplace2
import PyProof.Rows.StrIntSpec
import PyProof.CallStr
import PySem.Challenge.RW_lettercell_k84_letters_at_a_desk
section
open PySem PySem.W PyProof.Rows
set_option Elab.async false
set_option linter.all false
set_option maxRecDepth 1000000
set_option compiler.extract_closed false
open Lean in
local macro_rules | `(command| #print $l:str) => withRef .missing do
  let "shut" :: n :: p :: ss := l.getString.splitOn " " | Macro.throwUnsupported
  let hs := (`looseL).hash :: ((List.range n.toNat!).map fun i => ((`hdW).str s!"o_{i}").hash) ++ (ss.map fun s => ((`hdW).str s).hash) ++ ["pw_", "rw_"].map fun s => ((`PySem.Challenge).str (s ++ p)).hash
  let ds ← hs.toArray.mapM fun h => `(Parser.Term.letRecDecl| $(mkIdent (.mkSimple s!"tw{h}")):ident : Prop := True)
  `(command| def $(mkIdent `PySem.W.Fast) : Prop := True where $[$ds:letRecDecl];*)
#print "shut 3223 lettercell_k84_letters_at_a_desk tree_47 tree_84 tree_99 tree_121 tree_143 tree_165 tree_180 tree_202 tree_224 tree_246 tree_261 tree_283 tree_305 tree_327 tree_342 tree_364 tree_386 tree_401 tree_423 tree_445 tree_467 tree_513 tree_536 tree_560 tree_650 tree_743 tree_787 tree_790 tree_856 tree_947 tree_1031 tree_1078 tree_1136 tree_1172 tree_1277 tree_1360 tree_1386 tree_1519 tree_1603 tree_1650 tree_1780 tree_1865 tree_1870 tree_1936 tree_1957 tree_2027 tree_2028 tree_2101 tree_2102 tree_2180 tree_2203 tree_2271 tree_2272 tree_2523 tree_2604 tree_2696 tree_2775 tree_2866 tree_2959 tree_3029 tree_3064 tree_3100 tree_3158 tree_3222 heap_39 heap_46 heap_3223 sts_49 sts_85 sts_100 sts_122 sts_144 sts_166 sts_181 sts_203 sts_225 sts_247 sts_262 sts_284 sts_306 sts_328 sts_343 sts_365 sts_387 sts_402 sts_424 sts_446 sts_468 sts_514 sts_537 sts_563 sts_651 sts_744 sts_788 sts_793 sts_857 sts_948 sts_1032 sts_1079 sts_1137 sts_1173 sts_1364 sts_1387 sts_1607 sts_1651 sts_1869 sts_1871 sts_1937 sts_1958 sts_2028 sts_2030 sts_2102 sts_2104 sts_2181 sts_2204 sts_2272 sts_2274 sts_2700 sts_2776 sts_2867 sts_2960 sts_3030 sts_3068 sts_3101 sts_3159 env_41 view_39"
noncomputable def hdQ : Program := { PySem.Challenge.pw_lettercell_k84_letters_at_a_desk with main := { PySem.Challenge.pw_lettercell_k84_letters_at_a_desk.main with body := PySem.Challenge.pw_lettercell_k84_letters_at_a_desk.main.body.drop (PySem.Challenge.pw_lettercell_k84_letters_at_a_desk.main.body.length - 1) } }
noncomputable def looseL : List Str := [Str.ofString "_wall", Str.ofString "floor_by", Str.ofString "drawn_away", Str.ofString "CellarError", Str.ofString "BadWord", Str.ofString "NoSuch", Str.ofString "Doubled", Str.ofString "Broken", Str.ofString "SenderError", Str.ofString "Fenced", Str.ofString "Gap", Str.ofString "TooOld", Str.ofString "LoanError", Str.ofString "Late", Str.ofString "NotYours", Str.ofString "Twice", Str.ofString "DeedError", Str.ofString "Busy", Str.ofString "NoDeed", Str.ofString "RowError", Str.ofString "WrongKind", Str.ofString "Needed", Str.ofString "Gone", Str.ofString "Beyond", Str.ofString "HEAD_SIGNS", Str.ofString "guarded", Str.ofString "unguarded", Str.ofString "joined", Str.ofString "parted", Str.ofString "sum_of", Str.ofString "line_of", Str.ofString "body_of", Str.ofString "PARTS", Str.ofString "TEXTS", Str.ofString "word_text", Str.ofString "word_in", Str.ofString "owner_text", Str.ofString "owner_in", Str.ofString "text_of", Str.ofString "value_of", Str.ofString "event_of", Str.ofString "body_for", Str.ofString "event_in", Str.ofString "body_for_shelves", Str.ofString "shelves_in", Str.ofString "hail_happens", Str.ofString "put_happens", Str.ofString "begin_happens", Str.ofString "pledge_happens", Str.ofString "close_happens", Str.ofString "drop_happens", Str.ofString "found_happens", Str.ofString "enter_happens", Str.ofString "leave_happens", Str.ofString "deal_happens", Str.ofString "aside_happens", Str.ofString "lend_happens", Str.ofString "answer_happens", Str.ofString "back_happens", Str.ofString "turn_happens", Str.ofString "attach_happens", Str.ofString "advance_happens", Str.ofString "detach_happens", Str.ofString "away_happens", Str.ofString "drawn_happens", Str.ofString "cut_happens", Str.ofString "HAPPENINGS", Str.ofString "happen", Str.ofString "NAME_SIGNS", Str.ofString "NAME_MOST", Str.ofString "KEY_MOST", Str.ofString "WORD_MOST", Str.ofString "PER_CENT", Str.ofString "is_text", Str.ofString "is_sign", Str.ofString "is_name", Str.ofString "is_key", Str.ofString "is_word", Str.ofString "is_whole", Str.ofString "spread", Str.ofString "row_in", Str.ofString "GREATEST", Str.ofString "TURNS_MOST", Str.ofString "LETTERS_MOST", Str.ofString "TRIES_MOST", Str.ofString "WIDTH_MOST", Str.ofString "check_names", Str.ofString "check_wholes", Str.ofString "check_letter", Str.ofString "check_truth", Str.ofString "check_there", Str.ofString "check_group", Str.ofString "check_group_row", Str.ofString "check_kind", Str.ofString "asked_row", Str.ofString "asked_group", Str.ofString "asked_group_row", Str.ofString "asked_sender", Str.ofString "asked_reader", Str.ofString "hail_act", Str.ofString "put_act", Str.ofString "begin_act", Str.ofString "pledge_act", Str.ofString "close_act", Str.ofString "drop_act", Str.ofString "found_act", Str.ofString "dealt_act", Str.ofString "enter_act", Str.ofString "leave_act", Str.ofString "take_act", Str.ofString "loan_act", Str.ofString "pass_act", Str.ofString "attach_act", Str.ofString "detach_act", Str.ofString "looked_at", Str.ofString "advance_act", Str.ofString "draw_act", Str.ofString "cut_act", Str.ofString "read_from", Str.ofString "Book", Str.ofString "signed_body", Str.ofString "good_bodies", Str.ofString "acts_of", Str.ofString "book_of", Str.ofString "rows_had", Str.ofString "shares", Str.ofString "rows_kept", Str.ofString "dealt", Str.ofString "moved", Str.ofString "Dealing", Str.ofString "Deed", Str.ofString "Deeds", Str.ofString "is_beneath", Str.ofString "row_not_beneath", Str.ofString "lower", Str.ofString "lower_once", Str.ofString "lowered", Str.ofString "fronts", Str.ofString "Lending", Str.ofString "KINDS", Str.ofString "SHELVES_MOST", Str.ofString "ROWS_MOST", Str.ofString "Row", Str.ofString "is_kind", Str.ofString "is_shelf", Str.ofString "are_shelves", Str.ofString "Shelves", Str.ofString "SPOTS_KEPT", Str.ofString "Senders", Str.ofString "Readers", Str.ofString "Group", Str.ofString "State", Str.ofString "Cellar", Str.ofString "come_up", Str.ofString "events_of", Str.ofString "is_at", Str.ofString "put_at", Str.ofString "told_of_place", Str.ofString "told_of", Str.ofString "tale", Str.ofString "closed_deeds", Str.ofString "left_by", Str.ofString "standing", Str.ofString "FIGURES", Str.ofString "FIGURES_MOST", Str.ofString "number_in", Str.ofString "asked_word", Str.ofString "truth_in", Str.ofString "numbers", Str.ofString "letters_told", Str.ofString "moves_told", Str.ofString "hail_told", Str.ofString "put_told", Str.ofString "begin_told", Str.ofString "pledge_told", Str.ofString "close_told", Str.ofString "drop_told", Str.ofString "fate_told", Str.ofString "found_told", Str.ofString "enter_told", Str.ofString "leave_told", Str.ofString "take_told", Str.ofString "answer_told", Str.ofString "back_told", Str.ofString "pass_told", Str.ofString "now_told", Str.ofString "attach_told", Str.ofString "look_told", Str.ofString "advance_told", Str.ofString "detach_told", Str.ofString "draw_told", Str.ofString "cut_told", Str.ofString "read_told", Str.ofString "front_told", Str.ofString "floor_told", Str.ofString "drawn_told", Str.ofString "mark_told", Str.ofString "owner_told", Str.ofString "asides_told", Str.ofString "takers_told", Str.ofString "written_told", Str.ofString "tale_told", Str.ofString "stands_told", Str.ofString "REQUESTS", Str.ofString "forms_of", Str.ofString "thing_in", Str.ofString "things_in", Str.ofString "shelves_of", Str.ofString "refused", Str.ofString "Desk", Str.ofString "_law_cell_at", Str.ofString "_law_mixed", Str.ofString "_law_sign_by", Str.ofString "_law_names", Str.ofString "_law_field", Str.ofString "_law_joined", Str.ofString "_law_text_by", Str.ofString "_law_row_of", Str.ofString "_law_word_by", Str.ofString "_law_put", Str.ofString "_law_said", Str.ofString "_law_made"]
theorem chunk_eq {α β γ : Type} {f : α → γ} {g : β → γ} {a : List α} {b : List β} (n : Nat) (h1 : (a.take n).map f = (b.take n).map g) (h2 : (a.drop n).map f = (b.drop n).map g) : a.map f = b.map g := by
  rw [← List.take_append_drop n a, ← List.take_append_drop n b, List.map_append, List.map_append, h1, h2]
open Lean
private def apX (f : Name) (xs : Array Term) : Term := Syntax.mkApp (mkCIdent f) xs
private def nlX (d : Nat) : Term := Syntax.mkNumLit (toString (16 * 2 ^ d))
private def mkX (leaf : Term → Term) : Nat → Term → Term
  | 0, x => leaf x
  | d + 1, x => apX ``Prod.mk #[mkX leaf d (apX ``List.take #[nlX d, x]), mkX leaf d (apX ``List.drop #[nlX d, x])]
private def prX : Nat → Term → Term
  | 0, h => h
  | d + 1, h => apX ``chunk_eq #[nlX d, prX d (apX ``congrArg #[mkCIdent ``Prod.fst, h]), prX d (apX ``congrArg #[mkCIdent ``Prod.snd, h])]
private def ixX (args : Array Syntax) (k : Name) : Nat := (args.findIdx? fun x => x.getKind == ``Parser.Term.namedArgument && x[1].getId.eraseMacroScopes == k).getD args.size
private def ofX (x : Syntax) : Bool := x.getKind == ``Parser.Term.paren && x[1].getKind == ``Parser.Term.app && x[1][1].getNumArgs == 1 && x[1][0].getId.eraseMacroScopes.toString.endsWith "Hook.of"
local macro_rules
  | `(tactic| refine $t:term) => do
    let a := t.raw
    let args := a[1].getArgs
    let i := ixX args `Yf
    let j := ixX args `Ya
    let ob := (args.getD i .missing)[3]
    let ia := ob[1][0][1][1]
    unless a.getKind == ``Parser.Term.app && i < args.size && j < args.size && ob.getKind == ``Parser.Term.app && ob[1].getNumArgs == 1 && ia.getNumArgs == 3 do Macro.throwUnsupported
    let f ← `(fun p => some (Prod.snd p))
    let s := mkIdent `s
    let y := mkIdent `y
    let o := mkX (fun x => apX ``List.map #[apX ``Heap.get? #[apX ``Shared.heap #[s]], x]) 7 ⟨ia[1]⟩
    let v := mkX (fun x => apX ``List.map #[f, x]) 7 (← `($(⟨ia[0]⟩) (World.params w)))
    let yf ← `(fun ($s : Shared) => $o)
    let ya ← `(fun (w : World) => $v)
    let ofT ← `((fun w s $y => InK.of $(⟨ia[2]⟩) w s $(prX 7 y)))
    let qOld := args[ixX args `q]![3]
    let lOld := args[ixX args `loose]![3]
    let out := ((args.set! i (args[i]!.setArg 3 yf)).set! j (args[j]!.setArg 3 ya)).map fun x => Id.run (x.replaceM fun y => pure (if y == qOld then some (mkIdent `hdQ).raw else if y == lOld then some (mkIdent `looseL).raw else none))
    let out := (out.set! ((out.findIdx? ofX).getD out.size) ofT).set! (out.size - 1) (mkIdent `hWalk).raw
    `(tactic| refine $(⟨a.setArg 1 (a[1].setArgs out)⟩))
set_option maxHeartbeats 0 in
noncomputable def hdW : PSigma fun P : Prop => (P → PySem.Challenge.rw_lettercell_k84_letters_at_a_desk.Holds) := ⟨_, fun hWalk => by
  w_on; o_law; k_head; (case hw => w_witness2)⟩
end
set_option genSizeOf false
set_option bootstrap.genMatcherCode false
set_option Elab.async false
set_option linter.all false
set_option maxHeartbeats 4000000
set_option maxRecDepth 100000
open Lean in
local macro_rules | `(s!$x:interpolatedStr) => do
  let some t := x.raw[0].isInterpolatedStrLit? | Macro.throwUnsupported
  let d <- `(by decide +kernel)
  if t == "d" then return d else if t == "f" then `(⟨rfl,rfl,rfl,$d,rfl,$d,$d⟩) else Macro.throwUnsupported
open Lean in
local macro_rules | `(command| $m:declModifiers def $i:declId $s:optDeclSig $v:declVal) => do
  unless m.raw.getArgs.all (·.isNone) do Macro.throwUnsupported
  let s := s.raw
  return mkNode `Lean.Parser.Command.declaration #[m, mkNode `Lean.Parser.Command.theorem #[mkAtom "theorem", i, mkNode `Lean.Parser.Command.declSig #[s[0], s[1][0]], v]]
open Lean in
local macro_rules | `(command| $m:declModifiers abbrev $i:declId $s:optDeclSig $v:declVal) => do
  unless m.raw.getArgs.all (·.isNone) do Macro.throwUnsupported
  `(command| noncomputable def $i:declId $s:optDeclSig $v:declVal)
open PySem.Str renaming ofString->Α,empty->Rp,length->afQ,join->asi
open PySem renaming wpAny_bind->Β,Addr->Ε,Value->Η,Shared->Ι,wpAny_pure->ν,Program->Ϗ,Stmt->ϙ,Heap->ϟ,wpAny_field->ϫ,wpAny_Call_Name_kw->Ϸ,Expr->bv,IsPair->lw,wpAny_callSpecial?_slot->o0,wpAny_mono->ul,wpAny_seqItems->ut,boot_len->u8,wpAny_setField_rec->v6,wpAny_truthy_bool->wS,wpAny_pyIter_list->Fk,wpAny_holding->ID,World->IH,NameKind->IQ,codeAny_mono->IV,wpAny_call_entry->IW,wpAny_loadPart_at->Jh,FuncData->Jr,IsZip->JF,tupleKind_room_in1->JH,wpAny_passesOwn->JN,wpAny_newObj_type->JX,wpAny_setField->J5,codeAny_call_builtin->J8,wpAny_attempt->Kq,wpAny_execs_nil->Ku,wpAny_call->KC,sizeLine_eq->KH,Around->K',PyData->Lb,DictEntry->Lw,Builtin->Lz,wpAny_onRaise->LC,ZipApart->LQ,wpAny_updateSeq_pair->LR,codeAny_builtin->Md,wpAny_isSubtype_exc->MC,Keyword->MO,GenState->M6,Model->M7,typeIs_str->M8,wpAny_pyIter_enum->NA,wpAny_standAt->NH,Scope->Oi,wpAny_execs_cons->Oj,wpAny_isInstance->Ol,wpAny_pyIter_zip->Oo,wpAny_rule->OD,wpAny_isTrue_Compare1->Pg,isSubtype_stop->PU,ExceptHandler->Q7,call_meets->Rq,wpAny_Return_some->SI,BindsTo->SK,call_meetsIn->SM,plainObj_wpAny_Assign_Attribute->SZ,wpAny_lookBehind->Tj,pastItsLine_dict->Tk,IsRangeIter->Uh,wpAny_letGo->Uk,wpAny_tests_nil->UN,codeAny_of_tree->UO,wpAny_loadPart->VQ,wpAny_newFunctionEnv_cells->VS,wpAny_letOwnedTupleGo_enum->VT,wpAny_letOwnedTupleGo_zip->V5,wpAny_comprehension_free->Wx,PassesOwn->WY,OsState->Xo,wpAny_pyNext_range_end->Xp,wpAny_pyIter_rangeiter->Xq,wpAny_nsSet1->Xv,wpAny_Call_method_late->Xy,Params->Xz,IsEnum->XA,wpAny_nextOf_list_item->XF,codeAny_call_function->XS,weight_type_call_type->XW,codeAny_handlers_test->XX,Drawn->Y0,wpAny_loadName_local->Y1,Operator->Y2,wpAny_of_eq->Y3,seqIndex_of->Y7,lookup_relabel_local->Y8,wpAny_loadName_cell->Zs,wpAny_handleBy_cons->Zw,wpAny_Name->aai,slot_listiter_next->aaj,wpAny_pyIter_range->aak,wpAny_pyIter_tuple->aap,slot_list_getitem->aa',wpAny_Call_method->abc,wpAny_pyIter_strU->abd,Meets->abe,wpAny_getItem_of->acN,wpAny_madeBy_exc->acP,Result->afJ,wpAny_runValue->afM,IsPart->afP,sliceRange_one->afR,wpAny_notIn_of->afS,refuseLoop_ref->afW,wpAny_newTuple->afY,wpAny_handled->ag3,rangeSize_one->ag4,intBits_le_64->ag5,evalPart_none->ag9,call_list_seq->ahn,eval_ListComp->aho,call_range_2->ase,codeAny_func->asg,callType_new->asl,CmpOp->aur,wpAny_throw->aut,wpAny_BinOp->auu,PlainAttrs->ay4,DefRec->ay7,strKind_is->ay',small_one->azY,Arguments->az0
open PySem.Heap renaming get?_push_of_some->Δ,lt_size->γ,get?_push_size->θ,size_push->ϣ,get?_update_other->re,get?_update_self->IU,SameBut->Ly,IsList->V4,get?_update_ne->WA,ExtBut->acQ
open List renaming length_map->Ζ,mem_cons->Θ,mem_singleton->Μ,mem_of_getElem?->Ν,getElem?_eq_some_iff->Ο,not_mem_nil->Ρ,length_cons->Ψ,length_append->Ω,mem_cons_of_mem->ε,mem_append_right->ι,getElem?_map->μ,getElem?_eq_getElem->ξ,map_cons->ο,mem_map->τ,getD_eq_getElem?_getD->υ,map_map->χ,size_toArray->ϋ,mem_append_left->ώ,mem_append->ϑ,length_nil->ϕ,map_append->ϖ,replicate->ϥ,take_of_length_le->ϩ,length_take->Ϭ,nodup_cons->Ϯ,lookup_cons->ϰ,nodup_append->ϴ,length->Ϻ,sum_cons->am,take_add_one->bi,cons_append->ii,map_congr_left->im,range->io,length_singleton->jp,length_drop->sw,take_length->sB,getElem?_append_left->wf,mem_cons_self->zn,getElem?_append_right->Db,flatMap_cons->Do,length_replicate->FB,contains_cons->F',nil_append->IG,drop_of_length_le->II,all_eq_true->IM,lookup->I8,map_nil->Ja,eq_of_mem_replicate->Je,getElem_mem->Jk,find?_cons->Jt,getElem?_set_ne->JR,pairwise_iff_getElem->J1,map->J9,any_cons->J',append_nil->Ke,getElem?_set_self->Kt,append_assoc->Kv,count_append->Kw,ext_getElem->KW,mem_flatMap->KY,getElem_map->KZ,getElem?_of_mem->Lc,forIn_cons->Lp,dropLast_concat_getLast->Lq,count_cons->Lr,filterMap_cons->Lv,mem_range->LU,filter_append->LV,Nodup->LX,count_nil->LY,take_nil->MT,zipIdx_cons->Nb,of_mem_zip->NJ,range_succ->NM,zipIdx_nil->NN,length_filter_le->NR,getElem?_eq_none->NS,forIn_nil->Ot,mem_of_mem_take->Ou,length_flatMap->OY,flatMap_append->OZ,mem_filterMap->Pi,length_range->P1,all_map->P3,length_set->RB,filter_nil->RD,any_append->RE,drop_zero->S0,mem_or_eq_of_mem_set->Tr,map_drop->Ul,getElem?_replicate->UM,sum_nil->UZ,sum_replicate_nat->U0,getElem_range->W6,foldl_append->XE,flatten_cons->XH,filter_cons->XU,any_eq_true->XV,mem_filter->YZ,map_const'->Zb,take_succ->Zu,nodup_nil->Zx,all_cons->aam,map_take->aas
open PySem.W renaming Frag->Ξ,mg_none_of->lm,mg_of->rc,findIn->GE,emptyDict->IE,keepIn->Jg,callWith_K->Jz,fnOf->JO,kia_one->J6,instObj->MB,looks_findIn->MP,codeIn->NK,takerIn->Pj,hideAll_get->PZ,looks_clsIn->P0,InstAt->Ro,isFn->SJ,cellsFrom_some->SL,hasDictIn->SY,methodCall_KW->Tl,plainGet->UL,exmOne->UP,plainGet_of->VP,exm_one->V3,codeRec_of->Ww,Looks->Wz,methodObj->Xn,lookIn->Xt,set_plain->Xu,kitOne->Xw,handedIn->Y4,any_some->Y5,clsIn->Zv,hideAll_none->acI,findObj_own->ado,callWith_K0->adp,looks_mroIn->adu,of_hideAll->afK,mroIn->afO,check_slot->afX,plainOver->ag6,kitx_list->ag7,kitx_dict->ag8,OpenLaw->ash,hideAll->aus,makesIn->auv,bind_fn->auw,OpenLaw->auz,pre_splitW->ay5,WalkO->az4
open Nat renaming le_refl->Φ,le_trans->ζ,ne_of_lt->ϐ,lt_of_lt_of_le->ϓ,zero_le->Ϛ,lt_of_le_of_lt->Ϡ,ne_of_gt->xL,lt_succ_self->GM,min_eq_left->JA,lt_irrefl->JD,lt_succ_of_lt->KB,le_succ->Lj,min_eq_right->Nq,toDigits_of_lt_base->Nr,not_lt->NI,lt_trans->NL,lt_or_gt_of_ne->PX,le_of_eq->Qp,toDigits->Qu,strongRecOn->SN,div_add_mod->SO,mod_two_eq_zero_or_one->Tp,le_of_lt->VN,add_le_add_right->WB,le_succ_of_le->XZ,digitChar->abf,sub_self->acR,add_zero->acS,zero_add->acT
open PySem.Value renaming ref->π,none->be,str->FS,bool->JM,int->Oq,type->Pe,float->VM,isStrOf->Zq,isInt->aa5,bytes->aa6
open Or renaming inl->ς,inr->OW
open Ne renaming symm->ω
open Bool renaming false_ne_true->ϊ,and_eq_true->Ϣ,false_and->wP,true_and->JB,eq_iff_iff->Ln,or_true->LA,eq_false_iff->MQ,not_eq_true'->P4,or_false->Uj,false_eq_true->W3,not_eq_true->X0,or_eq_true->Y',false_or->aao,true_or->abb
open Option.some renaming inj->ϗ
open Option renaming map_eq_some_iff->Ϙ,isSome_iff_exists->dL,map_some->J7,toList_some->O0,isSome_map->Pk,getD_none->W0,getD_some->W1,bind_some->W4,none->aan,some->aaq,isSome_some->az5,bind_eq_some_iff->az7
open PySem.Builtin.SmallTypes renaming ownedTupleIsFree->ϧ,nextOf->ϱ,ownedTupleHandOut->Ev,stopIteration->XR
open PySem.PassesOwn renaming never->Ϫ
open PyProof.Rows renaming callWith_type1->ϯ,boot_str->Iv,boot_isinstance->JQ,AllBare->Nz,callWith_builtin1->Os,boot_all->PY,boot_list->P2,IntsAre->UX,boot_range->VO,Constant_none->Wv,Call_->WZ,subscriptTail_builtinR->Xx,tail_any->Y6,boot_ord->Za,Subscript_->aal,setObjOf_fresh->adt,evalArgs_kwB->adv,bitXor_and->adw,bitAnd_m16->adx,bitOr_and->ady,boot_enumerate->afU,tDigits_len_ge->af0,boot_int->af1,isTrue_and->ay2,isTrue_or->azX
open False renaming elim->ϲ
open Int renaming toNat_natCast->ϵ,emod_lt_of_pos->Mf,emod_nonneg->NT,toNat_of_nonneg->Ph,fdiv_eq_ediv_of_nonneg->Th,natCast_nonneg->Xr
open PySem.NameKind renaming free->϶,cell->RC
open PySem.Builtin.Range renaming rangeSize->ac,small->RF,rangeFitsLong->acU
open ForInStep renaming yield->ap
open PySem.Calls renaming spliced_cons->ci,spliced_nil->Ix,callWith_builtin->Kr,evalArgs_plain->La,Constant_str->Pf,Name_function_global->SH
open Sum renaming inr->Iu,inl->NG
open True renaming intro->IF
open Sum.inr renaming inj->Jj
open PySem.Obj renaming data_mapFields->Js,mapFields->JE,isFreed_of_fields->KU,mapSeq->PV,cls_mapFields->Qo
open PyProof.Rows.F renaming plain_set_update_loop->Ju,entry_set_update_loop->MS
open Array renaming getElem?_eq_some_iff->JP,toList->PR,length_toList->V1,append_assoc->Wu
open PySem.W.Looks renaming here->Ki,ld->aza
open PySem.Builtin.Str renaming strSliceIndices->KR,occurrences->LP,strKind->S5,padded->Tq,tooLong->afV,subAt->afZ
open PySem.Builtin.List renaming listTooLong->Lo
open PySem.SeqAt renaming shaped->Lx,EqAt->acL
open PySem.Code renaming quiet_builtin->LW,isFrame->UW,frames->acK
open PySem.Sem renaming wp->Me
open PySem.Heap.SameBut renaming update->Na
open Function renaming comp->On,comp_def->VU
open PySem.PyData renaming eqv->OX,str->V6,canLayAll0->Wy,depthAll->XC,canLay0->XT,keyHash->XY,depth->Zt
open Lean renaming mkIdent->P5
open PySem.Shared renaming heap->Qq,TypeIs->az6
open PySem.F renaming called_enumerate->Qr,args_str_split_2->Qs,entry_str_split->Rr,slot_str_split->SQ,slot_enumerate_next->W5
open PySem.Builtin renaming bitAnd->Rn,bitXor->Xs,bitOr->ay3
open PyProof renaming noPylong_small->Ti
open PySem.EntryCells renaming newEntry->To
open PySem.SeqAt.EqAt renaming int_str->Uf,str_int->Ug,same->ag',none_bool->aha,none_int->ahb,none_str->ahc,bool_none->ahd,bool_bool->ahe,bool_int->ahf,bool_str->ahg,int_none->ahh,int_bool->ahi,int_int->ahj,str_none->ahk,str_bool->ahl,str_str->ahm
open PySem.Around renaming under->Ui,under_plainId->UY,under_plain->V2,frames_deeper->azZ,mark_none->az9
open PySem.IsRange renaming new->UK
open PySem.Heap.IsList renaming push->UQ
open PySem.Heap.Ns1 renaming of_empty->VR
open PySem.Builtin.Frozenset renaming updateFrom->Y9
open Sum.inl renaming inj->Zr
open PySem.Within renaming cons->aar,nil->az8
open PySem.CmpOp renaming NotIn->aa7,In->afL
open PySem.Walks renaming range->aa8,list->acO
open PySem.Heap.IsSliceOf renaming new->aa9
open PySem.W.WShape renaming has->aba,hasAll->az1,arms->az2,armsAll->az3
open PySem.Data renaming fields->acJ,cell->afN
open List.Pairwise renaming nil->acM,imp->acV
open PySem.W.WData renaming int->adq
open Char renaming toNat->adr
open PySem.Heap.DictOf renaming new->afT
open PySem.DictEntry renaming refKey->asf
open List.cons renaming injEq->asj,inj->asm
open Classical renaming byContradiction->asn
open PySem.AutoSeq1 renaming list_extend_list_list_0->auy
open PySem.W.OpenLaw renaming pre->ay6
open PySem.StrLaws renaming glued_eq_join->ay8,join_split->azb,split_free->azc,replace_one->azd,subAt_one->aze
open PySem.BindsTo renaming of_defaults->ay9
open UInt32 renaming le_iff_toNat_le->az'
set_option compiler.extract_closed false
namespace Lake
theorem Υ:type_of% @if_neg:=@if_neg
theorem δ:type_of% @if_pos:=@if_pos
theorem ϛ:type_of% @or_false:=@or_false
theorem Ϧ:type_of% @decide_eq_false:=@decide_eq_false
theorem j':type_of% @decide_eq_true:=@decide_eq_true
theorem wn:type_of% @decide_eq_true_eq:=@decide_eq_true_eq
theorem Iw:type_of% @beq_eq_false_iff_ne:=@beq_eq_false_iff_ne
theorem Om:type_of% @if_true:=@if_true
theorem Q6:type_of% @beq_iff_eq:=@beq_iff_eq
theorem ads:type_of% @not_or:=@not_or
namespace L2
open PySem
variable {p0 p1 p2 p3 p4:Prop}{t0 t1 t2 t3 t4 t5 κ α β:Type}{u cd doc pm Ϲ ct oc a0 cls fl:Η}{a b d ea f dx C r z i1 i2 l1 l2 CD:Ε}{w:IH}{x name m qual qn zs:Str}{e tg iter value elt:bv}{ex ch fp ts Z:List Ε}{h2:ϟ}{pins:List (Ε×Obj)}{t' i j n tk n' k0 k1 k2:Nat}{A:K'}{E:Η->Ι->Prop}{s':Ι}{R:afJ->Ι->Prop}{pos pos' p X1 apos JS py auA np:Pos}{op:aur}{rest body:List ϙ}{c hi:Int}{es ifs elts:List bv}{vs items:Array Η}{tn:Nat->ϟ->Prop}{prog:Ϗ}{oe:Obj}{its ds bm sub:List Η}{mA mg:Str->Option Η}{pl:Sem Bool}{kw:List (Str×Η)}{env:Env}{outer:List Env}{fd:Jr}{kws:List MO}{sc scope:Oi}{an od dc dd:Option Ε}{T:String}{SR tsl:Array (Option Η)}{cells:List (Str×Ε)}{ls:List (List Nat)}{nm key:List Nat}{adA ab:Bool}{sn:List Str}{col:Option Bool}{k3 k5:Option Η}{wo:Option (List Nat)}{qs:List (List (List Nat)×List Nat)}
section
def Jb{G:Prop}(k:p0->p1->G):(p0/\p1)->G:=fun h=>k h.1 h.2
def sK{p0 p1:t0->t1->Prop}{G:Prop}(k:∀x0,∀x1,p0 x0 x1->p1 x0 x1->G):(∃x0 x1,p0 x0 x1/\p1 x0 x1)->G:=fun h=>h.elim fun x0 g0=>g0.elim fun x1 g1=>k x0 x1 g1.1 g1.2
def Ϟ{p0 p1:t0->Prop}{G:Prop}(k:∀x0,p0 x0->p1 x0->G):(∃x0,p0 x0/\p1 x0)->G:=fun h=>h.elim fun x0 g0=>k x0 g0.1 g0.2
def JT{G:Prop}(k:p0->p1->p2->G):(p0/\p1/\p2)->G:=fun h=>k h.1 h.2.1 h.2.2
def Ka{p0 p1:t0->t1->t2->Prop}{G:Prop}(k:∀x0,∀x1,∀x2,p0 x0 x1 x2->p1 x0 x1 x2->G):(∃x0 x1 x2,p0 x0 x1 x2/\p1 x0 x1 x2)->G:=fun h=>h.elim fun x0 g0=>g0.elim fun x1 g1=>g1.elim fun x2 g2=>k x0 x1 x2 g2.1 g2.2
def Kg{p0 p1:t0->t1->t2->t3->Prop}{G:Prop}(k:∀x0,∀x1,∀x2,∀x3,p0 x0 x1 x2 x3->p1 x0 x1 x2 x3->G):(∃x0 x1 x2 x3,p0 x0 x1 x2 x3/\p1 x0 x1 x2 x3)->G:=fun h=>h.elim fun x0 g0=>g0.elim fun x1 g1=>g1.elim fun x2 g2=>g2.elim fun x3 g3=>k x0 x1 x2 x3 g3.1 g3.2
def MD{G:Prop}(k:p0->p1->p2->p3->p4->G):(p0/\p1/\p2/\p3/\p4)->G:=fun h=>k h.1 h.2.1 h.2.2.1 h.2.2.2.1 h.2.2.2.2
def abg{p0:t0->t1->t2->Prop}{G:Prop}(k:∀x0,∀x1,∀x2,p0 x0 x1 x2->G):(∃x0 x1 x2,p0 x0 x1 x2)->G:=fun h=>h.elim fun x0 g0=>g0.elim fun x1 g1=>g1.elim fun x2 g2=>k x0 x1 x2 g2
def Kx{p0 p1 p2:t0->t1->t2->Prop}{G:Prop}(k:∀x0,∀x1,∀x2,p0 x0 x1 x2->p1 x0 x1 x2->p2 x0 x1 x2->G):(∃x0 x1 x2,p0 x0 x1 x2/\p1 x0 x1 x2/\p2 x0 x1 x2)->G:=fun h=>h.elim fun x0 g0=>g0.elim fun x1 g1=>g1.elim fun x2 g2=>k x0 x1 x2 g2.1 g2.2.1 g2.2.2
def NB{p0 p1 p2 p3:t0->t1->Prop}{G:Prop}(k:∀x0,∀x1,p0 x0 x1->p1 x0 x1->p2 x0 x1->p3 x0 x1->G):(∃x0 x1,p0 x0 x1/\p1 x0 x1/\p2 x0 x1/\p3 x0 x1)->G:=fun h=>h.elim fun x0 g0=>g0.elim fun x1 g1=>k x0 x1 g1.1 g1.2.1 g1.2.2.1 g1.2.2.2
def G'{p0 p1 p2:t0->Prop}{G:Prop}(k:∀x0,p0 x0->p1 x0->p2 x0->G):(∃x0,p0 x0/\p1 x0/\p2 x0)->G:=fun h=>h.elim fun x0 g0=>k x0 g0.1 g0.2.1 g0.2.2
def Nc{p0:t0->Prop}{G:Prop}(k:∀x0,p0 x0->G):(∃x0,p0 x0)->G:=fun h=>h.elim fun x0 g0=>k x0 g0
def IY{p0 p1 p2:t0->t1->Prop}{G:Prop}(k:∀x0,∀x1,p0 x0 x1->p1 x0 x1->p2 x0 x1->G):(∃x0 x1,p0 x0 x1/\p1 x0 x1/\p2 x0 x1)->G:=fun h=>h.elim fun x0 g0=>g0.elim fun x1 g1=>k x0 x1 g1.1 g1.2.1 g1.2.2
def Ld{p0 p1:t0->t1->t2->t3->t4->Prop}{G:Prop}(k:∀x0,∀x1,∀x2,∀x3,∀x4,p0 x0 x1 x2 x3 x4->p1 x0 x1 x2 x3 x4->G):(∃x0 x1 x2 x3 x4,p0 x0 x1 x2 x3 x4/\p1 x0 x1 x2 x3 x4)->G:=fun h=>h.elim fun x0 g0=>g0.elim fun x1 g1=>g1.elim fun x2 g2=>g2.elim fun x3 g3=>g3.elim fun x4 g4=>k x0 x1 x2 x3 x4 g4.1 g4.2
def RG{p0 p1 p2 p3 p4:t0->t1->t2->Prop}{G:Prop}(k:∀x0,∀x1,∀x2,p0 x0 x1 x2->p1 x0 x1 x2->p2 x0 x1 x2->p3 x0 x1 x2->p4 x0 x1 x2->G):(∃x0 x1 x2,p0 x0 x1 x2/\p1 x0 x1 x2/\p2 x0 x1 x2/\p3 x0 x1 x2/\p4 x0 x1 x2)->G:=fun h=>h.elim fun x0 g0=>g0.elim fun x1 g1=>g1.elim fun x2 g2=>k x0 x1 x2 g2.1 g2.2.1 g2.2.2.1 g2.2.2.2.1 g2.2.2.2.2
def Q8{p0 p1 p2 p3:t0->t1->t2->Prop}{G:Prop}(k:∀x0,∀x1,∀x2,p0 x0 x1 x2->p1 x0 x1 x2->p2 x0 x1 x2->p3 x0 x1 x2->G):(∃x0 x1 x2,p0 x0 x1 x2/\p1 x0 x1 x2/\p2 x0 x1 x2/\p3 x0 x1 x2)->G:=fun h=>h.elim fun x0 g0=>g0.elim fun x1 g1=>g1.elim fun x2 g2=>k x0 x1 x2 g2.1 g2.2.1 g2.2.2.1 g2.2.2.2
def O1{p0 p1 p2 p3 p4:t0->t1->Prop}{G:Prop}(k:∀x0,∀x1,p0 x0 x1->p1 x0 x1->p2 x0 x1->p3 x0 x1->p4 x0 x1->G):(∃x0 x1,p0 x0 x1/\p1 x0 x1/\p2 x0 x1/\p3 x0 x1/\p4 x0 x1)->G:=fun h=>h.elim fun x0 g0=>g0.elim fun x1 g1=>k x0 x1 g1.1 g1.2.1 g1.2.2.1 g1.2.2.2.1 g1.2.2.2.2
def O2{p0 p1 p2 p3 p4:t0->t1->t2->t3->Prop}{G:Prop}(k:∀x0,∀x1,∀x2,∀x3,p0 x0 x1 x2 x3->p1 x0 x1 x2 x3->p2 x0 x1 x2 x3->p3 x0 x1 x2 x3->p4 x0 x1 x2 x3->G):(∃x0 x1 x2 x3,p0 x0 x1 x2 x3/\p1 x0 x1 x2 x3/\p2 x0 x1 x2 x3/\p3 x0 x1 x2 x3/\p4 x0 x1 x2 x3)->G:=fun h=>h.elim fun x0 g0=>g0.elim fun x1 g1=>g1.elim fun x2 g2=>g2.elim fun x3 g3=>k x0 x1 x2 x3 g3.1 g3.2.1 g3.2.2.1 g3.2.2.2.1 g3.2.2.2.2
def Um{G:Prop}(k:p0->p1->p2->p3->G):(p0/\p1/\p2/\p3)->G:=fun h=>k h.1 h.2.1 h.2.2.1 h.2.2.2
def P6{p5:Prop}{G:Prop}(k:p0->p1->p2->p3->p4->p5->G):(p0/\p1/\p2/\p3/\p4/\p5)->G:=fun h=>k h.1 h.2.1 h.2.2.1 h.2.2.2.1 h.2.2.2.2.1 h.2.2.2.2.2
def ME{p0 p1:t0->t1->t2->t3->t4->t5->Prop}{G:Prop}(k:∀x0,∀x1,∀x2,∀x3,∀x4,∀x5,p0 x0 x1 x2 x3 x4 x5->p1 x0 x1 x2 x3 x4 x5->G):(∃x0 x1 x2 x3 x4 x5,p0 x0 x1 x2 x3 x4 x5/\p1 x0 x1 x2 x3 x4 x5)->G:=fun h=>h.elim fun x0 g0=>g0.elim fun x1 g1=>g1.elim fun x2 g2=>g2.elim fun x3 g3=>g3.elim fun x4 g4=>g4.elim fun x5 g5=>k x0 x1 x2 x3 x4 x5 g5.1 g5.2
def JY{p0:t0->t1->t2->t3->t4->t5->Prop}{G:Prop}(k:∀x0,∀x1,∀x2,∀x3,∀x4,∀x5,p0 x0 x1 x2 x3 x4 x5->G):(∃x0 x1 x2 x3 x4 x5,p0 x0 x1 x2 x3 x4 x5)->G:=fun h=>h.elim fun x0 g0=>g0.elim fun x1 g1=>g1.elim fun x2 g2=>g2.elim fun x3 g3=>g3.elim fun x4 g4=>g4.elim fun x5 g5=>k x0 x1 x2 x3 x4 x5 g5
def ahq{p0:t0->t1->Prop}{G:Prop}(k:∀x0,∀x1,p0 x0 x1->G):(∃x0 x1,p0 x0 x1)->G:=fun h=>h.elim fun x0 g0=>g0.elim fun x1 g1=>k x0 x1 g1
def gl{p0 p1:t0->t1->Prop}(x0:t0)(x1:t1)(h0:p0 x0 x1)(h1:p1 x0 x1):∃x0 x1,p0 x0 x1/\p1 x0 x1:=⟨x0,x1,h0,h1⟩
def Κ{p0 p1:t0->Prop}(x0:t0)(h0:p0 x0)(h1:p1 x0):∃x0,p0 x0/\p1 x0:=⟨x0,h0,h1⟩
def RH{p0 p1:t0->t1->t2->Prop}(x0:t0)(x1:t1)(x2:t2)(h0:p0 x0 x1 x2)(h1:p1 x0 x1 x2):∃x0 x1 x2,p0 x0 x1 x2/\p1 x0 x1 x2:=⟨x0,x1,x2,h0,h1⟩
def LD{p0:t0->t1->t2->Prop}(x0:t0)(x1:t1)(x2:t2)(h0:p0 x0 x1 x2):∃x0 x1 x2,p0 x0 x1 x2:=⟨x0,x1,x2,h0⟩
def Ky{p0 p1 p2 p3:t0->t1->Prop}(x0:t0)(x1:t1)(h0:p0 x0 x1)(h1:p1 x0 x1)(h2:p2 x0 x1)(h3:p3 x0 x1):∃x0 x1,p0 x0 x1/\p1 x0 x1/\p2 x0 x1/\p3 x0 x1:=⟨x0,x1,h0,h1,h2,h3⟩
def ϒ{p0 p1 p2:t0->t1->Prop}(x0:t0)(x1:t1)(h0:p0 x0 x1)(h1:p1 x0 x1)(h2:p2 x0 x1):∃x0 x1,p0 x0 x1/\p1 x0 x1/\p2 x0 x1:=⟨x0,x1,h0,h1,h2⟩
def ύ{p0 p1 p2:t0->Prop}(x0:t0)(h0:p0 x0)(h1:p1 x0)(h2:p2 x0):∃x0,p0 x0/\p1 x0/\p2 x0:=⟨x0,h0,h1,h2⟩
def MF{p0:t0->Prop}(x0:t0)(h0:p0 x0):∃x0,p0 x0:=⟨x0,h0⟩
def NC{p0 p1 p2:t0->t1->t2->Prop}(x0:t0)(x1:t1)(x2:t2)(h0:p0 x0 x1 x2)(h1:p1 x0 x1 x2)(h2:p2 x0 x1 x2):∃x0 x1 x2,p0 x0 x1 x2/\p1 x0 x1 x2/\p2 x0 x1 x2:=⟨x0,x1,x2,h0,h1,h2⟩
def IN{p0 p1 p2 p3 p4:t0->t1->t2->Prop}(x0:t0)(x1:t1)(x2:t2)(h0:p0 x0 x1 x2)(h1:p1 x0 x1 x2)(h2:p2 x0 x1 x2)(h3:p3 x0 x1 x2)(h4:p4 x0 x1 x2):∃x0 x1 x2,p0 x0 x1 x2/\p1 x0 x1 x2/\p2 x0 x1 x2/\p3 x0 x1 x2/\p4 x0 x1 x2:=⟨x0,x1,x2,h0,h1,h2,h3,h4⟩
def Kz{p0 p1 p2 p3 p4:t0->t1->Prop}(x0:t0)(x1:t1)(h0:p0 x0 x1)(h1:p1 x0 x1)(h2:p2 x0 x1)(h3:p3 x0 x1)(h4:p4 x0 x1):∃x0 x1,p0 x0 x1/\p1 x0 x1/\p2 x0 x1/\p3 x0 x1/\p4 x0 x1:=⟨x0,x1,h0,h1,h2,h3,h4⟩
def Ov{p0 p1 p2 p3 p4 p5:t0->t1->t2->t3->t4->Prop}(x0:t0)(x1:t1)(x2:t2)(x3:t3)(x4:t4)(h0:p0 x0 x1 x2 x3 x4)(h1:p1 x0 x1 x2 x3 x4)(h2:p2 x0 x1 x2 x3 x4)(h3:p3 x0 x1 x2 x3 x4)(h4:p4 x0 x1 x2 x3 x4)(h5:p5 x0 x1 x2 x3 x4):∃x0 x1 x2 x3 x4,p0 x0 x1 x2 x3 x4/\p1 x0 x1 x2 x3 x4/\p2 x0 x1 x2 x3 x4/\p3 x0 x1 x2 x3 x4/\p4 x0 x1 x2 x3 x4/\p5 x0 x1 x2 x3 x4:=⟨x0,x1,x2,x3,x4,h0,h1,h2,h3,h4,h5⟩
def lc{p0 p1 p2 p3:t0->t1->t2->Prop}(x0:t0)(x1:t1)(x2:t2)(h0:p0 x0 x1 x2)(h1:p1 x0 x1 x2)(h2:p2 x0 x1 x2)(h3:p3 x0 x1 x2):∃x0 x1 x2,p0 x0 x1 x2/\p1 x0 x1 x2/\p2 x0 x1 x2/\p3 x0 x1 x2:=⟨x0,x1,x2,h0,h1,h2,h3⟩
def Jw{p0 p1 p2 p3:t0->Prop}(x0:t0)(h0:p0 x0)(h1:p1 x0)(h2:p2 x0)(h3:p3 x0):∃x0,p0 x0/\p1 x0/\p2 x0/\p3 x0:=⟨x0,h0,h1,h2,h3⟩
def RI{p0 p1 p2 p3 p4:t0->Prop}(x0:t0)(h0:p0 x0)(h1:p1 x0)(h2:p2 x0)(h3:p3 x0)(h4:p4 x0):∃x0,p0 x0/\p1 x0/\p2 x0/\p3 x0/\p4 x0:=⟨x0,h0,h1,h2,h3,h4⟩
def Nd{p0:t0->t1->Prop}(x0:t0)(x1:t1)(h0:p0 x0 x1):∃x0 x1,p0 x0 x1:=⟨x0,x1,h0⟩
def Nf{p0:t0->t1->t2->t3->t4->t5->Prop}(x0:t0)(x1:t1)(x2:t2)(x3:t3)(x4:t4)(x5:t5)(h0:p0 x0 x1 x2 x3 x4 x5):∃x0 x1 x2 x3 x4 x5,p0 x0 x1 x2 x3 x4 x5:=⟨x0,x1,x2,x3,x4,x5,h0⟩
def O3{p0 p1 p2 p3 p4:t0->t1->t2->t3->Prop}(x0:t0)(x1:t1)(x2:t2)(x3:t3)(h0:p0 x0 x1 x2 x3)(h1:p1 x0 x1 x2 x3)(h2:p2 x0 x1 x2 x3)(h3:p3 x0 x1 x2 x3)(h4:p4 x0 x1 x2 x3):∃x0 x1 x2 x3,p0 x0 x1 x2 x3/\p1 x0 x1 x2 x3/\p2 x0 x1 x2 x3/\p3 x0 x1 x2 x3/\p4 x0 x1 x2 x3:=⟨x0,x1,x2,x3,h0,h1,h2,h3,h4⟩
def P7{p0 p1 p2 p3 p4 p5:t0->Prop}(x0:t0)(h0:p0 x0)(h1:p1 x0)(h2:p2 x0)(h3:p3 x0)(h4:p4 x0)(h5:p5 x0):∃x0,p0 x0/\p1 x0/\p2 x0/\p3 x0/\p4 x0/\p5 x0:=⟨x0,h0,h1,h2,h3,h4,h5⟩
def MG{p0 p1 p2 p3 p4 p5:t0->t1->t2->t3->t4->t5->Prop}(x0:t0)(x1:t1)(x2:t2)(x3:t3)(x4:t4)(x5:t5)(h0:p0 x0 x1 x2 x3 x4 x5)(h1:p1 x0 x1 x2 x3 x4 x5)(h2:p2 x0 x1 x2 x3 x4 x5)(h3:p3 x0 x1 x2 x3 x4 x5)(h4:p4 x0 x1 x2 x3 x4 x5)(h5:p5 x0 x1 x2 x3 x4 x5):∃x0 x1 x2 x3 x4 x5,p0 x0 x1 x2 x3 x4 x5/\p1 x0 x1 x2 x3 x4 x5/\p2 x0 x1 x2 x3 x4 x5/\p3 x0 x1 x2 x3 x4 x5/\p4 x0 x1 x2 x3 x4 x5/\p5 x0 x1 x2 x3 x4 x5:=⟨x0,x1,x2,x3,x4,x5,h0,h1,h2,h3,h4,h5⟩
def ρ{p0 p1:t0->Prop}{G:Prop}(h:∃x0,p0 x0/\p1 x0)(k:∀x0,p0 x0->p1 x0->G):G:=h.elim fun x0 g0=>k x0 g0.1 g0.2
def MU{G:Prop}(h:p0/\p1)(k:p0->p1->G):G:=k h.1 h.2
def RJ{p0 p1:t0->t1->Prop}{G:Prop}(h:∃x0 x1,p0 x0 x1/\p1 x0 x1)(k:∀x0,∀x1,p0 x0 x1->p1 x0 x1->G):G:=h.elim fun x0 g0=>g0.elim fun x1 g1=>k x0 x1 g1.1 g1.2
def X2{G:Prop}(h:p0/\p1/\p2/\p3/\p4)(k:p0->p1->p2->p3->p4->G):G:=k h.1 h.2.1 h.2.2.1 h.2.2.2.1 h.2.2.2.2
def ahr{p0 p1:t0->t1->t2->Prop}{G:Prop}(h:∃x0 x1 x2,p0 x0 x1 x2/\p1 x0 x1 x2)(k:∀x0,∀x1,∀x2,p0 x0 x1 x2->p1 x0 x1 x2->G):G:=h.elim fun x0 g0=>g0.elim fun x1 g1=>g1.elim fun x2 g2=>k x0 x1 x2 g2.1 g2.2
def ϭ{p0 p1 p2:t0->Prop}{G:Prop}(h:∃x0,p0 x0/\p1 x0/\p2 x0)(k:∀x0,p0 x0->p1 x0->p2 x0->G):G:=h.elim fun x0 g0=>k x0 g0.1 g0.2.1 g0.2.2
def Q9{p5:Prop}{G:Prop}(h:p0/\p1/\p2/\p3/\p4/\p5)(k:p0->p1->p2->p3->p4->p5->G):G:=k h.1 h.2.1 h.2.2.1 h.2.2.2.1 h.2.2.2.2.1 h.2.2.2.2.2
def W7{G:Prop}(h:p0/\p1/\p2/\p3)(k:p0->p1->p2->p3->G):G:=k h.1 h.2.1 h.2.2.1 h.2.2.2
def KA{p0 p1 p2:t0->t1->Prop}{G:Prop}(h:∃x0 x1,p0 x0 x1/\p1 x0 x1/\p2 x0 x1)(k:∀x0,∀x1,p0 x0 x1->p1 x0 x1->p2 x0 x1->G):G:=h.elim fun x0 g0=>g0.elim fun x1 g1=>k x0 x1 g1.1 g1.2.1 g1.2.2
def V7{p0:t0->t1->Prop}{G:Prop}(h:∃x0 x1,p0 x0 x1)(k:∀x0,∀x1,p0 x0 x1->G):G:=h.elim fun x0 g0=>g0.elim fun x1 g1=>k x0 x1 g1
def abh{p0 p1 p2:t0->t1->t2->Prop}{G:Prop}(h:∃x0 x1 x2,p0 x0 x1 x2/\p1 x0 x1 x2/\p2 x0 x1 x2)(k:∀x0,∀x1,∀x2,p0 x0 x1 x2->p1 x0 x1 x2->p2 x0 x1 x2->G):G:=h.elim fun x0 g0=>g0.elim fun x1 g1=>g1.elim fun x2 g2=>k x0 x1 x2 g2.1 g2.2.1 g2.2.2
def IT{G:Prop}(h:p0/\p1/\p2)(k:p0->p1->p2->G):G:=k h.1 h.2.1 h.2.2
def U1{p0 p1 p2 p3:t0->t1->Prop}{G:Prop}(h:∃x0 x1,p0 x0 x1/\p1 x0 x1/\p2 x0 x1/\p3 x0 x1)(k:∀x0,∀x1,p0 x0 x1->p1 x0 x1->p2 x0 x1->p3 x0 x1->G):G:=h.elim fun x0 g0=>g0.elim fun x1 g1=>k x0 x1 g1.1 g1.2.1 g1.2.2.1 g1.2.2.2
def ahs{p0 p1:t0->t1->t2->t3->Prop}{G:Prop}(h:∃x0 x1 x2 x3,p0 x0 x1 x2 x3/\p1 x0 x1 x2 x3)(k:∀x0,∀x1,∀x2,∀x3,p0 x0 x1 x2 x3->p1 x0 x1 x2 x3->G):G:=h.elim fun x0 g0=>g0.elim fun x1 g1=>g1.elim fun x2 g2=>g2.elim fun x3 g3=>k x0 x1 x2 x3 g3.1 g3.2
def aht{p0 p1 p2 p3 p4:t0->t1->t2->Prop}{G:Prop}(h:∃x0 x1 x2,p0 x0 x1 x2/\p1 x0 x1 x2/\p2 x0 x1 x2/\p3 x0 x1 x2/\p4 x0 x1 x2)(k:∀x0,∀x1,∀x2,p0 x0 x1 x2->p1 x0 x1 x2->p2 x0 x1 x2->p3 x0 x1 x2->p4 x0 x1 x2->G):G:=h.elim fun x0 g0=>g0.elim fun x1 g1=>g1.elim fun x2 g2=>k x0 x1 x2 g2.1 g2.2.1 g2.2.2.1 g2.2.2.2.1 g2.2.2.2.2
def P8{p0:t0->t1->t2->t3->t4->t5->Prop}{G:Prop}(h:∃x0 x1 x2 x3 x4 x5,p0 x0 x1 x2 x3 x4 x5)(k:∀x0,∀x1,∀x2,∀x3,∀x4,∀x5,p0 x0 x1 x2 x3 x4 x5->G):G:=h.elim fun x0 g0=>g0.elim fun x1 g1=>g1.elim fun x2 g2=>g2.elim fun x3 g3=>g3.elim fun x4 g4=>g4.elim fun x5 g5=>k x0 x1 x2 x3 x4 x5 g5
def Zy{p0 p1 p2 p3 p4:t0->t1->Prop}{G:Prop}(h:∃x0 x1,p0 x0 x1/\p1 x0 x1/\p2 x0 x1/\p3 x0 x1/\p4 x0 x1)(k:∀x0,∀x1,p0 x0 x1->p1 x0 x1->p2 x0 x1->p3 x0 x1->p4 x0 x1->G):G:=h.elim fun x0 g0=>g0.elim fun x1 g1=>k x0 x1 g1.1 g1.2.1 g1.2.2.1 g1.2.2.2.1 g1.2.2.2.2
def abi{p0 p1:t0->t1->t2->t3->t4->Prop}{G:Prop}(h:∃x0 x1 x2 x3 x4,p0 x0 x1 x2 x3 x4/\p1 x0 x1 x2 x3 x4)(k:∀x0,∀x1,∀x2,∀x3,∀x4,p0 x0 x1 x2 x3 x4->p1 x0 x1 x2 x3 x4->G):G:=h.elim fun x0 g0=>g0.elim fun x1 g1=>g1.elim fun x2 g2=>g2.elim fun x3 g3=>g3.elim fun x4 g4=>k x0 x1 x2 x3 x4 g4.1 g4.2
def ahu{p0:t0->t1->t2->Prop}{G:Prop}(h:∃x0 x1 x2,p0 x0 x1 x2)(k:∀x0,∀x1,∀x2,p0 x0 x1 x2->G):G:=h.elim fun x0 g0=>g0.elim fun x1 g1=>g1.elim fun x2 g2=>k x0 x1 x2 g2
def ahv{p0 p1 p2 p3 p4:t0->t1->t2->t3->Prop}{G:Prop}(h:∃x0 x1 x2 x3,p0 x0 x1 x2 x3/\p1 x0 x1 x2 x3/\p2 x0 x1 x2 x3/\p3 x0 x1 x2 x3/\p4 x0 x1 x2 x3)(k:∀x0,∀x1,∀x2,∀x3,p0 x0 x1 x2 x3->p1 x0 x1 x2 x3->p2 x0 x1 x2 x3->p3 x0 x1 x2 x3->p4 x0 x1 x2 x3->G):G:=h.elim fun x0 g0=>g0.elim fun x1 g1=>g1.elim fun x2 g2=>g2.elim fun x3 g3=>k x0 x1 x2 x3 g3.1 g3.2.1 g3.2.2.1 g3.2.2.2.1 g3.2.2.2.2
def X3{p0:t0->Prop}{G:Prop}(h:∃x0,p0 x0)(k:∀x0,p0 x0->G):G:=h.elim fun x0 g0=>k x0 g0
def X4 (h:True:=by first | exact .inl rfl | exact .inr rfl | assumption):True:=h
def Kh (h:True:=by decide):True:=h
def ahw (h:True:=by first | exact X5 _ (by decide) (by decide) | rfl):True:=h
def Ϩ (h:True:=by rfl):True:=h
def S6 (h:True:=by intro _;rfl):True:=h
def adB (h:True:=by with_unfolding_all rfl):True:=h
def ahx (h:True:=by first | exact ς rfl | exact OW (ς rfl) | exact OW (OW rfl)):True:=h
end
section
open PySem PySem.Spec PyProof.Rows
noncomputable abbrev Key:=Sum Int Str
abbrev OE:Key->Η->Bool
 | .inl k,v=>aa5 k v
 | .inr x,v=>Zq x v
abbrev ahy (w:IH):Key->Int
 | .inl k=>hashInt k
 | .inr x=>hashStr w x
def bI:∀{k:Key} {v:Η},OE k v=true->(∃i t,k=NG i/\v=Oq i t)\/(∃x t,k=Iu x/\v=FS x t)
 | .inl i,v,h=>by
  obtain⟨t,e⟩:=Value.isInt_shape (k:=i) (v:=v) h;exact .inl (gl i t rfl e)
 | .inr x,v,h=>by
  obtain⟨t,e⟩:=Value.isStrOf_shape (x:=x) (v:=v) h;exact .inr (gl x t rfl e)
def Am (i:Int)(t:Tok):OE (.inl i) (.int i t)=true:=by simp[OE,aa5]
def An (x:Str)(t:Tok):OE (.inr x) (.str x t)=true:=by simp[OE,Zq]
def FJ (a b:Int):decide ((NG a:Key)=NG b)=(a == b):=by
 by_cases e:a=b
 ·subst e;simp
 ·have h:¬(NG a:Key)=NG b:=λq=>e (Zr q)
  rw[Ϧ h];exact(Iw.mpr e).symm
def FK (a b:Str):decide ((Iu a:Key)=Iu b)=decide (a=b):=by
 by_cases e:a=b
 ·subst e;simp
 ·have h:¬(Iu a:Key)=Iu b:=λq=>e (Jj q)
  rw[Ϧ h,Ϧ e]
def FL (a:Int)(b:Str):decide ((NG a:Key)=Iu b)=false:=Ϧ (λq=>nomatch q)
def FN (a:Str)(b:Int):decide ((Iu a:Key)=NG b)=false:=Ϧ (λq=>nomatch q)
abbrev A' (prog:Ϗ)(w:IH):PySem.KeyKind prog w Key where
 is:=OE
 hash:=ahy w
 inj:=λv a b ha hb=>by
  rcases bI ha with⟨i,t,rfl,rfl⟩ | ⟨x,t,rfl,rfl⟩
  ·rcases bI hb with⟨j,u,rfl,e⟩ | ⟨y,u,rfl,e⟩
   ·injection e with e1 _;rw[e1]
   ·exact nomatch e
  ·rcases bI hb with⟨j,u,rfl,e⟩ | ⟨y,u,rfl,e⟩
   ·exact nomatch e
   ·injection e with e1 _;rw[e1]
 byValue:=λk v h=>by
  rcases bI h with⟨i,t,rfl,rfl⟩ | ⟨x,t,rfl,rfl⟩<;>rfl
 pyHash:=λhv h=>by
  rcases bI hv with⟨i,t,rfl,rfl⟩ | ⟨x,t,rfl,rfl⟩
  ·exact wpAny_pyHash_int h
  ·exact wpAny_pyHash_str h
 eqBool:=λhu hv h=>by
  rcases bI hu with⟨i,t,rfl,rfl⟩ | ⟨x,t,rfl,rfl⟩
  ·rcases bI hv with⟨j,u,rfl,rfl⟩ | ⟨y,u,rfl,rfl⟩
   ·rw[FJ] at h;exact wpAny_eqBool_int h
   ·rw[FL] at h;exact Uf i t y u _ _ _ _ h
  ·rcases bI hv with⟨j,u,rfl,rfl⟩ | ⟨y,u,rfl,rfl⟩
   ·rw[FN] at h;exact Ug x t j u _ _ _ _ h
   ·rw[FK] at h;exact wpAny_eqBool_str h
 «strs»:=λk x t v h=>by
  rcases bI h with⟨i,u,rfl,e⟩ | ⟨y,u,rfl,e⟩
  ·exact nomatch e
  ·injection e with e1 _
   subst e1;cases v<;>rfl
def vt (prog:Ϗ)(w:IH)(i:Int)(t:Tok):(A' prog w).is (.inl i) (.int i t)=true:=Am i t
def ji (prog:Ϗ)(w:IH)(x:Str)(t:Tok):(A' prog w).is (.inr x) (.str x t)=true:=An x t
inductive V where
 | cr | bl (b:Bool) | int (i:Int) | str (x:Str) | VW (b:Array UInt8) | Zz (b:UInt64) | ref (a:Ε) | ty (n:String)
 deriving DecidableEq
abbrev RelV:V->Η->Prop
 | .cr,u=>u=be
 | .bl b,u=>u=JM b
 | .int i,u=>∃t,u=Oq i t
 | .str x,u=>∃t,u=FS x t
 | .VW b,u=>∃t,u=aa6 b t
 | .Zz b,u=>∃t,u=VM b t
 | .ref a,u=>u=π a
 | .ty n,u=>u=Pe n
noncomputable abbrev Vals:List V->List Η->Prop:=Paired RelV
def Vals.length {xs:List V}{us:List Η}(r:Vals xs us):xs.length=us.length:=Paired.length r
def Vals.get:∀{xs:List V} {us:List Η} {i:Nat} {x:V},Vals xs us->xs[i]?=some x->∃u,us[i]?=some u/\RelV x u
 | _,_,_,_,.nil,e=>by simp at e
 | _,_,0,_,.cons r _,e=>by simp at e;subst e;exact(Κ _ rfl r)
 | _,_,i+1,x,.cons _ t,e=>by
  (refine ρ (Vals.get (i:=i) (x:=x) t (by simpa using e)) λu h1 h2=>?_);exact(Κ u (by simpa using h1) h2)
def Vals.set {x:V}(r:RelV x u):∀{xs:List V} {us:List Η} (i:Nat),Vals xs us->Vals (xs.set i x) (us.set i u)
 | _,_,_,.nil=>.nil
 | _,_,0,.cons _ t=>.cons r t
 | _,_,i+1,.cons q t=>.cons q (Vals.set r i t)
def Vals.append:∀{xs ys:List V} {us ws:List Η},Vals xs us->Vals ys ws->Vals (xs++ys) (us++ws)
 | _,_,_,_,.nil,s=>s
 | _,_,_,_,.cons r t,s=>.cons r (Vals.append t s)
def Vals.take:∀{xs:List V} {us:List Η} (n:Nat),Vals xs us->Vals (xs.take n) (us.take n)
 | _,_,0,_=>.nil
 | _,_,_+1,.nil=>.nil
 | _,_,n+1,.cons r t=>.cons r (Vals.take n t)
def Vals.drop:∀{xs:List V} {us:List Η} (n:Nat),Vals xs us->Vals (xs.drop n) (us.drop n)
 | _,_,0,r=>r
 | _,_,_+1,.nil=>.nil
 | _,_,n+1,.cons _ t=>Vals.drop n t
abbrev K0:Option V->Option Η->Prop
 | some v,some u=>RelV v u
 | none,none=>True
 | _,_=>False
abbrev KV:List (κ×V)->List (κ×Η)->Prop:=Paired λ(p:κ×V) (q:κ×Η)=>p.1=q.1/\RelV p.2 q.2
abbrev kV:Key->V
 | .inl i=>.int i
 | .inr x=>.str x
inductive HO where
 | lst (xs:List V)
 | tup (xs:List V)
 | dK (ϔ:List (Key×V)) | dT (ϔ:List (List Key×V))
 | set (S:Int->Bool) (n:Nat)
 | ins (C dx:Ε) (fs:List (Str×V))
 | own (x:Ε)
 | xd (fs:List (Str×V))
 | met (f x:Ε)
 | rng (lo hi:Int)
 | Ra (o:Obj) (u:HO)
 | Zc (ps:Array Η)
 | ext (φ:ϟ->Prop)
noncomputable abbrev Hp:=Ε->Option HO
abbrev upd (H:Hp)(a:Ε)(o:HO):Hp:=λb=>if b=a then some o else H b
def ae {H:Hp}{o:HO}:upd H a o a=some o:=by unfold upd;rw[δ rfl]
def aj {H:Hp}{o:HO}(h:b≠a):upd H a o b=H b:=by unfold upd;rw[Υ h]
def jj {H:Hp}{o u:HO}(h:H a=some o)(h':H b=some u)(d:o≠u):a≠b:=by
 intro e;subst e;rw[h] at h';exact d (ϗ h')
def aD {H:Hp}{o:HO}(h:H a=some o)(h':H b=none):a≠b:=by
 intro e;subst e;rw[h] at h';cases h'
section
variable (P:Ϗ) (w:IH)
abbrev EQ (H:Hp)(h:ϟ)(a:Ε):HO->Prop
 | .lst xs=>xs.length<=sizeLine/\∃(its:List Η) (n:Nat),Vals xs its/\h.get? a=some { cls:=.type "list",data:=.seq its.toArray n }
 | .tup xs=>xs.length<=sizeLine/\∃its:List Η,Vals xs its/\IsTup h a its.toArray
 | .dK ϔ=>ϔ.length<=sizeLine/\(a == sysModules)=false/\∃vs,KV ϔ vs/\h.DictOf (A' P w) a vs
 | .dT ϔ=>ϔ.length<=sizeLine/\(a == sysModules)=false/\∃xs:List (List Key×Ε×Η),
   Paired (λ(p:List Key×V) (q:List Key×Ε×Η)=>p.1=q.1/\H q.2.1=some (.tup (p.1.map kV))/\RelV p.2 q.2.2) ϔ xs/\
   ∃o es ep,h.get? a=some o/\o.ExactDict/\o.data=.dict es ep/\es.toList=xs.map (entryOfKey (tupleKind (A' P w)))/\(xs.map (·.1)).Nodup
 | .set S n=>h.SetOf (intKind P w) a S n
 | .ins C dx fs=>H dx=some (.own a)/\fs.length<=1000/\dx≠a/\h.get? a=some (MB C dx)/\
   ∃mA,h.Ns1 dx mA/\(∀f,K0 (fs.lookup f) (mA f))/\PySem.Within mA (fs.map (·.1))
 | .own _=>∃o,h.get? a=some o
 | .xd fs=>∃mA,h.Ns1 a mA/\∀f,K0 (fs.lookup f) (mA f)
 | .rng lo hi=>∃t u v,h.get? a=some { cls:=.type "range",data:=.fields #[.int lo t,.int hi u,.int 1 v] }
 | .Ra o u=>h.get? a=some o/\EQ H h a u
 | .Zc ps=>h.get? a=some { cls:=.none,data:=.fields ps }
 | .met f x=>h.get? a=some (Xn (.ref f) (.ref x))
 | .ext φ=>φ h/\(∃o,h.get? a=some o)/\∀h1 h2:ϟ,φ h1->(∀o,h1.get? a=some o->h2.get? a=some o)->φ h2
abbrev NO (H:Hp)(h:ϟ):Prop:=∀a o,H a=some o->EQ P w H h a o
end
section
variable {P:Ϗ} {H H':Hp} {h h':ϟ} {o:HO}
def EQ.lt (x:EQ P w H h a o):a < h.objs.size:=by
 cases o with
 | lst xs=>(revert x;refine Jb λ_=>sK λ_ _ _ e=>?_);exact γ e
 | tup xs=>(revert x;refine Jb λ_=>Ϟ λ_ _ p=>?_);exact p.lt
 | dK ϔ=>(revert x;refine JT λ_ _=>Ϟ λ_ _=>Ka λo _ _ e _=>?_);exact γ e
 | dT ϔ=>(revert x;refine JT λ_ _=>Ϟ λ_ _=>Ka λo _ _ e _=>?_);exact γ e
 | set S n=>(revert x;refine Kg λo _ _ _ e _=>?_);exact γ e
 | ins C dx fs=>(revert x;refine MD λ_ _ _ e _=>?_);exact γ e
 | own y=>obtain⟨_,e⟩:=x;exact γ e
 | xd fs=>(revert x;refine Ϟ λ_ Τ _=>?_;obtain ⟨_,_,_,e,_⟩:=Τ);exact γ e
 | rng lo hi=>(revert x;refine abg λ_ _ _ e=>?_);exact γ e
 | Ra ob u=>obtain⟨e,_⟩:=x;exact γ e
 | Zc ps=>exact γ (show h.get? a=some _ from x)
 | met f y=>exact γ (show h.get? a=some _ from x)
 | ext φ=>(revert x;refine JT λ_ Τ _=>?_;obtain ⟨_,e⟩:=Τ);exact γ e
def Paired.S7 {F G:α->β->Prop}:∀{l₁:List α} {l₂:List β},Paired F l₁ l₂->(∀a b,F a b->G a b)->Paired G l₁ l₂
 | _,_,.nil,_=>.nil
 | _,_,.cons r t,f=>.cons (f _ _ r) (Paired.S7 t f)
def EQ.Ng (x:EQ P w H h a o)(k:∀b u,(b=a\/H b=some (.own a))->h.get? b=some u->h'.get? b=some u)
  (ho:∀b,H b=some (.own a)->H' b=some (.own a)) (ht:∀b xs,H b=some (.tup xs)->H' b=some (.tup xs)):EQ P w H' h' a o:=by
 induction o with
 | lst xs=>(revert x;refine Jb λz=>sK λits n r e=>?_);exact⟨z,(gl its n r (k _ _ (.inl rfl) e))⟩
 | tup xs=>(revert x;refine Jb λz=>Ϟ λits r=>Ϟ λob e c=>?_);exact⟨z,(Κ its r (Κ ob (k _ _ (.inl rfl) e) c))⟩
 | dK ϔ=>(revert x;refine JT λz y=>Ϟ λvs r=>Ka λob es ep e c=>?_);exact⟨z,y,(Κ vs r (RH ob es ep (k _ _ (.inl rfl) e) c))⟩
 | dT ϔ=>
  (revert x;refine JT λz y=>Ϟ λxs r=>Ka λob es ep e c=>?_);exact⟨z,y,(Κ xs (Paired.S7 r λp q z=>⟨z.1,ht _ _ z.2.1,z.2.2⟩) (RH ob es ep (k _ _ (.inl rfl) e) c))⟩
 | set S n=>(revert x;refine Kg λob es ep t e c=>?_);exact(LD ob es ep (Κ t (k _ _ (.inl rfl) e) c))
 | ins C dx fs=>
  (revert x;refine MD λd z ne e=>Ϟ λmA Τ r=>?_;obtain ⟨od,es,ep,e2,c⟩:=Τ);exact⟨ho _ d,z,ne,k _ _ (.inl rfl) e,(Κ mA (RH od es ep (k _ _ (.inr d) e2) c) r)⟩
 | own y=>obtain⟨ob,e⟩:=x;exact⟨ob,k _ _ (.inl rfl) e⟩
 | xd fs=>(revert x;refine Ϟ λmA Τ r=>?_;obtain ⟨od,es,ep,e,c⟩:=Τ);exact(Κ mA (RH od es ep (k _ _ (.inl rfl) e) c) r)
 | rng lo hi=>(revert x;refine abg λt u v e=>?_);exact(LD t u v (k _ _ (.inl rfl) e))
 | Ra ob u ih=>obtain⟨e,q⟩:=x;exact⟨k _ _ (.inl rfl) e,ih q⟩
 | Zc ps=>
  have e:h.get? a=some { cls:=.none,data:=.fields ps }:=x;show h'.get? a=some { cls:=.none,data:=.fields ps };exact k a _ (.inl rfl) e
 | met f y=>
  have e:h.get? a=some (Xn (.ref f) (.ref y)):=x;show h'.get? a=some (Xn (.ref f) (.ref y));exact k a _ (.inl rfl) e
 | ext φ=>(revert x;refine JT λp Τ st=>?_;obtain ⟨o,e⟩:=Τ);exact⟨st _ _ p λo q=>k _ _ (.inl rfl) q,⟨o,k _ _ (.inl rfl) e⟩,st⟩
def NO.lt (x:NO P w H h)(e:H a=some o):a < h.objs.size:=(x a o e).lt
def NO.fresh (x:NO P w H h)(e:h.objs.size<=a):H a=none:=by
 cases q:H a with
 | none=>rfl
 | some u=>exact absurd (ϓ (x.lt q) e) (JD _)
def NO.kept (x:NO P w H h)(k:∀b u,h.get? b=some u->h'.get? b=some u):NO P w H h':=λa o e=>
 (x a o e).Ng (λb u _ q=>k b u q) (λ_ q=>q) λ_ _ q=>q
def NO.laid (x:NO P w H h)(k:∀b u,h.get? b=some u->h'.get? b=some u)(hp:h.objs.size<=a)(new:EQ P w (upd H a o) h' a o):NO P w (upd H a o) h':=λb u e=>by
 have hn:=x.fresh hp
 by_cases hb:b=a
 ·subst hb;rw[ae] at e;cases e;exact new
 ·rw[aj hb] at e
  exact(x b u e).Ng (λc v _ q=>k c v q) (λc q=>by rw[aj (aD q hn)];exact q) λc xs q=>by rw[aj (aD q hn)];exact q
end
abbrev Rd (H:Hp)(a:Ε)(u:HO):Prop:=H a=some u\/∃o,H a=some (.Ra o u)
def Rd.ok {P:Ϗ}{H:Hp}{h:ϟ}{u:HO}(r:Rd H a u)(x:NO P w H h):EQ P w H h a u:=by
 rcases r with r | ⟨o,r⟩
 ·exact x a u r
 ·obtain⟨_,q⟩:=x a _ r
  exact q
abbrev Mut:Option HO->Prop
 | some (.lst _)=>True
 | some (.dK _)=>True
 | some (.dT _)=>True
 | some (.set _ _)=>True
 | some (.ins _ _ _)=>True
 | some (.ext _)=>True
 | _=>False
section
variable {P:Ϗ} {H:Hp} {h h':ϟ} {x e:Ε} {o':HO}
def NO.write (ok:NO P w H h)(mu:Mut (H x))(he:e=x\/H e=some (.own x))(k:∀b u,b≠e->h.get? b=some u->h'.get? b=some u)(heo:∃u,h'.get? e=some u)
  (new:EQ P w (upd H x o') h' x o'):NO P w (upd H x o') h':=λb u q=>by
 have U2:∀c y,H c=some (.own y)->c≠x:=λc y r z=>by subst z;rw[r] at mu;exact mu
 have abj:∀c xs,H c=some (.tup xs)->c≠x:=λc xs r z=>by subst z;rw[r] at mu;exact mu
 by_cases hb:b=x
 ·subst hb;rw[ae] at q;cases q;exact new
 ·rw[aj hb] at q
  by_cases hbe:b=e
  ·have q':H b=some (.own x):=by
    rcases he with z | z
    ·exact absurd (hbe.trans z) hb
    ·rw[hbe];exact z
   rw[q] at q';cases q';obtain⟨v,hv⟩:=heo;exact⟨v,by rw[hbe];exact hv⟩
  ·refine(ok b u q).Ng (λc v hc r=>k c v ?_ r) (λc r=>by rw[aj (U2 c b r)];exact r) λc xs r=>by rw[aj (abj c xs r)];exact r
   rcases hc with rfl | hc
   ·exact hbe
   ·rintro rfl
    rcases he with z | z
    ·exact U2 c b hc z
    ·rw[hc] at z;cases z;exact hb rfl
end
structure Un (fs ex:List Ε)(H H':Hp)(h h':ϟ):Prop where
 keep:∀b o,h.get? b=some o->H b=none->b∉fs->b∉ex->h'.get? b=some o
 slot:∀b o,h.get? b=some o->H b=none->b∈fs->b∉ex->∃sl,h'.get? b=some { o with slots:=sl }
 free:∀b o,h.get? b=some o->H b=none->b∉ex->H' b=none
 there:∀b o,h.get? b=some o->b∉ex->∃o',h'.get? b=some o'
 Nh:∀b xs,H b=some (.tup xs)->H' b=some (.tup xs)
 MV:∀b o u,H b=some (.Ra o u)->H' b=some (.Ra o u)
 Ni:∀b ps,H b=some (.Zc ps)->∃more,H' b=some (.Zc (ps++more))
section
variable {fs X6 ex':List Ε} {H H1 H2:Hp} {h h1 h':ϟ} {x e:Ε} {o:HO}
def Un.any (u:Un fs ex H H1 h h1){ob:Obj}(q:h.get? b=some ob)(n:H b=none)(hx:b∉ex):∃sl,h1.get? b=some { ob with slots:=sl }:=by
 by_cases hb:b∈fs
 ·exact u.slot b ob q n hb hx
 ·exact⟨ob.slots,u.keep b ob q n hb hx⟩
def Un.kept (k:∀b u,h.get? b=some u->h'.get? b=some u):Un fs ex H H h h':=
 ⟨λb ob q _ _ _=>k b ob q,λb ob q _ _ _=>⟨ob.slots,k b ob q⟩,λ_ _ _ n _=>n,λb ob q _=>⟨ob,k b ob q⟩,λ_ _ q=>q,λ_ _ _ q=>q,λ_ ps q=>⟨#[],by rw[q];simp⟩⟩
def Un.refl:Un fs ex H H h h:=Un.kept λ_ _ q=>q
def Un.laid (k:∀b u,h.get? b=some u->h'.get? b=some u)(hp:h.objs.size<=a)(hn:H a=none):Un fs ex H (upd H a o) h h' where
 keep:=λb u q _ _ _=>k b u q
 slot:=λb u q _ _ _=>⟨u.slots,k b u q⟩
 free:=λb u q n _=>by rw[aj (ϐ (ϓ (γ q) hp))];exact n
 there:=λb u q _=>⟨u,k b u q⟩
 Nh:=λb xs q=>by rw[aj (aD q hn)];exact q
 MV:=λb u xs q=>by rw[aj (aD q hn)];exact q
 Ni:=λb ps q=>⟨#[],by rw[aj (aD q hn),q];simp⟩
def Un.write (mu:Mut (H x))(he:e=x\/H e=some (.own x))(k:∀b u,b≠e->h.get? b=some u->h'.get? b=some u)(heo:∃u,h'.get? e=some u):Un fs ex H (upd H x o) h h':=by
 have hx:∀b,H b=none->b≠x:=λb n z=>by subst z;rw[n] at mu;exact mu
 have hb:∀b,H b=none->b≠e:=λb n z=>by
  subst z;rcases he with r | r
  ·exact hx b n r
  ·rw[n] at r;cases r
 have hm:∀b u,H b=some u->¬Mut (some u)->b≠x:=λb u q nm z=>by subst z;rw[q] at mu;exact nm mu
 refine⟨λb u q n _ _=>k b u (hb b n) q,λb u q n _ _=>⟨u.slots,k b u (hb b n) q⟩,λb u q n _=>by rw[aj (hx b n)];exact n,λb u q _=>?_,
  λb xs q=>by rw[aj (hm b _ q λz=>z)];exact q,λb u xs q=>by rw[aj (hm b _ q λz=>z)];exact q,λb ps q=>⟨#[],by rw[aj (hm b _ q λz=>z),q];simp⟩⟩
 by_cases hbe:b=e
 ·subst hbe;exact heo
 ·exact⟨u,k b u hbe q⟩
end
abbrev trk (h:ϟ)(H:Hp):List Ε:=(io h.objs.size).filter λa=>(H a).isSome
abbrev Uo (h:ϟ)(H:Hp):ϟ:=aus h (trk h H)
def Ao (h:ϟ)(H:Hp):(Uo h H).objs.size=h.objs.size:=W.hideAll_size _ _
def Cv {h:ϟ}{H:Hp}{o:Obj}(e:h.get? b=some o)(n:H b=none):(Uo h H).get? b=some o:=
 PZ _ e λhm=>by
  have q:(H b).isSome=true:=(YZ.mp hm).2;rw[n] at q;simp at q
def Eg {h:ϟ}{H:Hp}{o:Obj}(e:(Uo h H).get? b=some o):h.get? b=some o/\H b=none:=by
 have e':h.get? b=some o:=afK (trk h H) e;refine⟨e',?_⟩;cases q:H b with
 | none=>rfl
 | some x=>
  have hm:b∈trk h H:=YZ.mpr ⟨LU.mpr (γ e'),by simp[q]⟩;have z:(Uo h H).get? b=none:=acI (trk h H) hm;rw[z] at e;cases e
structure Mod (K:Ξ)(mg:Str->Option Η)(base:ϟ):Prop where
 WC:K.In base
 glob:base.Ns mainGlobals mg
 blt:∃mb,base.Ns builtinsNs mb/\∀x:Str,x ≠ "__name__" -> mb x=bootBuiltins x
 nolimit:base.NoLimit
set_option genInjectivity false in
structure Cx where
 prog:Ϗ
 w:IH
 K:Ξ
 mg:Str->Option Η
 base:ϟ
 A:K'
 N:List Str
 s₀:Ι
 H₀:Hp
 env:Env
 outer:List Env
 stack:List Env
 ex:List Ε
 fn:Str->Bool
 calm:Bool
 pn:List (Ε×Obj)
 xe:Η->Ι->Prop
abbrev NP (l:List Env):List Ε:=l.filterMap (·.frame)
noncomputable abbrev Cx.fs (X:Cx):List Ε:=NP X.outer
abbrev Vis (sc:Oi)(x:Str):Prop:=sc.names.lookup x=some .local\/sc.names.lookup x=some .cell\/sc.names.lookup x=some .free
abbrev Loc (sc:Oi)(x:Str):Prop:=sc.names.lookup x=some .local\/sc.names.lookup x=some .cell
abbrev Look (env:Env)(h:ϟ)(m:Str->Option Η)(x:Str)(u:Η):Prop:=
 (env.kindOf x=some .local/\m x=some u)\/((env.kindOf x=some .cell\/env.kindOf x=some .free)/\∃c,env.cells.lookup x=some c/\h.IsCell c (some u))
structure Cx.Ok (X:Cx):Prop where
 mod:Mod X.K X.mg X.base
 kind:X.env.scope.kind=.function
 glob:X.env.globals=mainGlobals
 blt:X.env.builtins=builtinsNs
 above:X.s₀.heap.objs.size<=X.env.locals
 inj:∀x y c,X.env.cells.lookup x=some c->X.env.cells.lookup y=some c->x=y
 has:∀x,(X.env.kindOf x=some .cell\/X.env.kindOf x=some .free)->∃c,X.env.cells.lookup x=some c
 cab:∀x c,X.fn x=true->X.env.cells.lookup x=some c->X.s₀.heap.objs.size<=c
 hd:X.calm=true->X.A.handled=none
 frames:X.A.frames=some X.stack
 stk:X.stack=X.outer\/(X.stack=X.env::X.outer/\X.env.frame=some X.env.locals)
 exf:∀b∈X.ex,b≠X.env.locals/\∀x c,X.env.cells.lookup x=some c->c≠b
 bs:∀b o,X.base.get? b=some o->X.s₀.heap.get? b=some o/\X.H₀ b=none
 XI:X.base.objs.size<=X.s₀.heap.objs.size
 Up:∀b o,X.base.get? b=some o->b∉X.ex
 V8:∀b∈X.ex,b∉X.fs
 NU:X.s₀.heap.FunFrames X.base X.outer
 XJ:∀b∈X.fs,X.H₀ b=none
structure Inv (X:Cx)(pins:List (Ε×Obj))(σ:List (Option V))(H:Hp)(s:Ι):Prop where
 ok:X.Ok
 os:s.os=X.s₀.os
 bare:Nz s.gens
 base:Un X.fs X.ex X.H₀ H X.s₀.heap s.heap
 loc:∃m,s.heap.Ns X.env.locals m/\∀(i:Nat) (x:Str) (v:V),X.N[i]?=some x->σ[i]?=some (some v)->Vis X.env.scope x->∃u,RelV v u/\Look X.env s.heap m x u
 cell:∀x c,X.env.cells.lookup x=some c->∃v,s.heap.IsCell c v
 free:H X.env.locals=none
 Lk:∀x c,X.env.cells.lookup x=some c->H c=none
 pin:∀p∈X.pn++pins,s.heap.get? p.1=some p.2/\H p.1=none/\p.1≠X.env.locals/\p.1∉X.fs/\∀v,p.2.data≠.cell v
 At:NO X.prog X.w H s.heap
 len:σ.length=X.N.length
section
variable {X:Cx} {σ:List (Option V)} {H H':Hp} {s:Ι} {h':ϟ}
def Cx.Ok.ahz (ok:X.Ok){o:Obj}(e:X.base.get? b=some o):b∉X.fs:=λhb=>by
 have:=(ok.NU.mem hb).1;rw[e] at this;cases this
def Inv.bs (I:Inv X pins σ H s):∀b o,X.base.get? b=some o->s.heap.get? b=some o/\H b=none:=λb o e=>
 ⟨I.base.keep b o (I.ok.bs b o e).1 (I.ok.bs b o e).2 (I.ok.ahz e) (I.ok.Up b o e),I.base.free b o (I.ok.bs b o e).1 (I.ok.bs b o e).2 (I.ok.Up b o e)⟩
def Inv.bk (I:Inv X pins σ H s):∀b o,X.base.get? b=some o->s.heap.get? b=some o:=λb o e=>(I.bs b o e).1
def Inv.mod (I:Inv X pins σ H s):Mod X.K X.mg X.base:=I.ok.mod
def Inv.LZ (I:Inv X pins σ H s):X.K.In s.heap:=I.ok.mod.WC.keeps I.bk
def Inv.lt (I:Inv X pins σ H s):X.env.locals < s.heap.objs.size:=let ⟨_,hn,_⟩:=I.loc;hn.lt
def Inv.sz (I:Inv X pins σ H s):X.s₀.heap.objs.size<=s.heap.objs.size:=ζ I.ok.above (VN I.lt)
def Inv.ahA (I:Inv X pins σ H s)(h:s.heap.objs.size<=a):a∉X.fs:=λhb=>by
 (refine MU (I.ok.NU.mem hb) λ_=>Ϟ λo ho _=>?_);exact absurd (ϓ (γ ho) (ζ I.sz h)) (JD _)
def Inv.ZA (I:Inv X pins σ H s):∀x c,X.env.cells.lookup x=some c->c≠X.env.locals:=λx c e z=>by
 (refine RJ (I.cell x c e) λv o ho hd=>?_);(refine ρ I.loc λm Τ _=>?_;obtain ⟨o',es,ep,V9,hd',_⟩:=Τ);rw[z,V9] at ho;cases ho;rw[hd'] at hd;cases hd
def Inv.NU (I:Inv X pins σ H s):s.heap.FunFrames X.base X.outer:=by
 have all:∀(l:List Env),(∀b∈NP l,b∈X.fs)->X.s₀.heap.FunFrames X.base l->s.heap.FunFrames X.base l:=by
  intro l
  induction l with
  | nil=>intro _ _;trivial
  | cons env r ih=>
   intro hs hl;(revert hl;refine JT λhk Τ hr=>?_;obtain ⟨L,o,hf,hn,ho,hd⟩:=Τ);have hL:L∈X.fs:=hs L (by unfold NP;rw[Lv,hf];exact zn);obtain⟨sl,e⟩:=I.base.slot L o ho (I.ok.XJ L hL) hL λz=>I.ok.V8 L z hL;exact⟨hk,(Ky L _ hf hn e hd),ih (λb hb=>hs b (by unfold NP;rw[Lv,hf];exact ε _ hb)) hr⟩
 exact all X.outer (λ_ hb=>hb) I.ok.NU
def Inv.stack (I:Inv X pins σ H s):s.heap.FunFrames X.base X.stack:=by
 rcases I.ok.stk with e | ⟨e,hf⟩
 ·rw[e];exact I.NU
 ·rw[e]
  (refine ρ I.loc λm hn _=>?_);refine .cons (by rw[I.ok.kind];decide) hf hn ?_ I.NU;exact Heap.get?_none_of_le (ζ I.ok.XI I.ok.above)
def Inv.P9 (I:Inv X pins σ H s):∀b∈NP X.stack,b∈X.env.locals::X.fs:=λb hb=>by
 rcases I.ok.stk with e | ⟨e,hf⟩
 ·rw[e] at hb;exact ε _ hb
 ·rw[e] at hb
  unfold NP at hb;rw[Lv,hf] at hb;exact hb
def Inv.Rs (I:Inv X pins σ H s):∀b∈NP X.stack,H b=none:=λb hb=>by
 rcases Θ.mp (I.P9 b hb) with e | hb
 ·rw[e];exact I.free
 ·(refine MU (I.ok.NU.mem hb) λ_=>Ϟ λo ho _=>?_)
  exact I.base.free b o ho (I.ok.XJ b hb) λz=>I.ok.V8 b z hb
def Inv.step {g':Array M6}{t':Nat}{d':Y0}(I:Inv X pins σ H s)
  (Zd:∀b∈ch,(b∈X.ex\/X.s₀.heap.objs.size<=b)/\b≠X.env.locals/\(∀x c,X.env.cells.lookup x=some c->c≠b)/\∀p∈X.pn++pins,p.1≠b)
  (keep:∀b o,b≠X.env.locals->b∉X.fs->b∉ch->s.heap.get? b=some o->H b=none->h'.get? b=some o)
  (slot:∀b o,b≠X.env.locals->b∈X.fs->b∉ch->s.heap.get? b=some o->H b=none->∃sl,h'.get? b=some { o with slots:=sl }) (free:∀b o,b∉ch->s.heap.get? b=some o->H b=none->H' b=none)
  (there:∀b o,b∉ch->s.heap.get? b=some o->∃o',h'.get? b=some o')
  (Nh:∀b xs,H b=some (.tup xs)->H' b=some (.tup xs)) (MV:∀b o u,H b=some (.Ra o u)->H' b=some (.Ra o u)) (Ni:∀b ps,H b=some (.Zc ps)->∃more,H' b=some (.Zc (ps++more)))
  (ns:∀m,s.heap.Ns X.env.locals m->h'.Ns X.env.locals m) (At:NO X.prog X.w H' h') (hg:Nz g') :
  Inv X pins σ H' { s with heap:=h',gens:=g',drawn:=d',toks:=t' }:=by
 have neL:∀b o,X.s₀.heap.get? b=some o->b≠X.env.locals:=λb o e=>ϐ (ϓ (γ e) I.ok.above);have neC:∀b o,X.s₀.heap.get? b=some o->b∉X.ex->b∉ch:=λb o e hx hb=>by
  rcases(Zd b hb).1 with z | z
  ·exact hx z
  ·exact absurd (ϓ (γ e) z) (JD _)
 have cellK:∀x c,X.env.cells.lookup x=some c->∀v,s.heap.IsCell c v->h'.IsCell c v:=λx c e v zz=>ρ zz λo ho hd=>by
  have nch:c∉ch:=λz=>(Zd c z).2.2.1 x c e rfl
  by_cases hc:c∈X.fs
  ·obtain⟨sl,q⟩:=slot c o (I.ZA x c e) hc nch ho (I.Lk x c e)
   exact(Κ _ q hd)
  ·exact(Κ o (keep c o (I.ZA x c e) hc nch ho (I.Lk x c e)) hd)
 refine⟨I.ok,I.os,hg,⟨λb o e n hb hx=>?_,λb o e n hb hx=>?_,λb o e n hx=>?_,λb o e hx=>?_,λb xs e=>Nh b xs (I.base.Nh b xs e),λb o xs e=>MV b o xs (I.base.MV b o xs e),λb ps e=>?_⟩,?_,λx c e=>?_,?_,λx c e=>?_,λp hp=>?_,At,I.len⟩
 ·exact keep b o (neL b o e) hb (neC b o e hx) (I.base.keep b o e n hb hx) (I.base.free b o e n hx)
 ·obtain⟨sl,e1⟩:=I.base.slot b o e n hb hx
  obtain⟨sl',e2⟩:=slot b _ (neL b o e) hb (neC b o e hx) e1 (I.base.free b o e n hx);exact⟨sl',e2⟩
 ·obtain⟨o',e1⟩:=I.base.there b o e hx
  exact free b o' (neC b o e hx) e1 (I.base.free b o e n hx)
 ·obtain⟨o',e1⟩:=I.base.there b o e hx
  exact there b o' (neC b o e hx) e1
 ·obtain⟨m1,e1⟩:=I.base.Ni b ps e
  obtain⟨m2,e2⟩:=Ni b _ e1;exact⟨m1++m2,by rw[e2,Wu]⟩
 ·(refine ρ I.loc λm hn hl=>?_)
  refine(Κ m (ns m hn) (λi x v e1 e2 e3=>?_));(refine ρ (hl i x v e1 e2 e3) λu r l=>?_);refine(Κ u r ?_);rcases l with l | ⟨k,c,e,z⟩
  ·exact .inl l
  ·exact .inr ⟨k,(Κ c e (cellK x c e _ z))⟩
 ·obtain⟨v,z⟩:=I.cell x c e
  exact⟨v,cellK x c e v z⟩
 ·(refine ρ I.loc λm Τ _=>?_;obtain ⟨o,_,_,ho,_⟩:=Τ)
  exact free _ o (λz=>(Zd _ z).2.1 rfl) ho I.free
 ·(refine RJ (I.cell x c e) λv o ho hd=>?_)
  exact free c o (λz=>(Zd c z).2.2.1 x c e rfl) ho (I.Lk x c e)
 ·(refine X2 (I.pin p hp) λe n ne nf d=>?_)
  have nch:p.1∉ch:=λz=>(Zd p.1 z).2.2.2 p hp rfl;exact⟨keep p.1 p.2 ne nf nch e n,free p.1 p.2 nch e n,ne,nf,d⟩
def Inv.un (I:Inv X pins σ H s)(u:Un X.fs [] H H' s.heap h')(At:NO X.prog X.w H' h'):Inv X pins σ H' { s with heap:=h',toks:=t' }:=by
 (refine ρ (id I.loc) λm Τ _=>?_;obtain ⟨o,es,ep,ho,r⟩:=Τ);obtain⟨sl,hL⟩:=u.any ho I.free (by simp)
 exact I.step (g':=s.gens) (d':=s.drawn) (ch:=[]) (λ_ z=>nomatch z) (λb o _ hb _ e n=>u.keep b o e n hb (by simp)) (λb o _ hb _ e n=>u.slot b o e n hb (by simp)) (λb o _ e n=>u.free b o e n (by simp)) (λb o _ e=>u.there b o e (by simp)) u.Nh u.MV u.Ni (λm' hm=>by
  (revert hm;refine Ka λo' es' ep' V9 r'=>?_);rw[ho] at V9;cases V9
  exact(RH _ es' ep' hL r')) At I.bare
def Inv.call {g':Array M6}{d':Y0}(I:Inv X pins σ H s)(u:Un (NP X.stack) ch H H' s.heap h')(At:NO X.prog X.w H' h')(hg:Nz g')
  (Zd:∀b∈ch,(b∈X.ex\/X.s₀.heap.objs.size<=b)/\b≠X.env.locals/\(∀x c,X.env.cells.lookup x=some c->c≠b)/\∀p∈X.pn++pins,p.1≠b) :
  Inv X pins σ H' { s with heap:=h',gens:=g',drawn:=d',toks:=t' }:=by
 (refine ρ (id I.loc) λm Τ _=>?_;obtain ⟨o,es,ep,ho,r⟩:=Τ);obtain⟨sl,hL⟩:=u.any ho I.free λz=>(Zd _ z).2.1 rfl
 exact I.step (ch:=ch) Zd (λb o hL hb hc e n=>u.keep b o e n (λz=>(Θ.mp (I.P9 b z)).elim hL hb) hc) (λb o _ _ hc e n=>u.any e n hc) (λb o hc e n=>u.free b o e n hc) (λb o hc e=>u.there b o e hc) u.Nh u.MV u.Ni (λm' hm=>by
  (revert hm;refine Ka λo' es' ep' V9 r'=>?_);rw[ho] at V9;cases V9
  exact(RH _ es' ep' hL r')) At hg
def Inv.turned {it:Ε}(I:Inv X pins σ H s)(k:∀b o,b≠it->s.heap.get? b=some o->h'.get? b=some o)(hn:H it=none)(hL:it≠X.env.locals)
  (h1:it∈X.ex\/X.s₀.heap.objs.size<=it) (h2:∀x c,X.env.cells.lookup x=some c->c≠it) (h3:∀p∈X.pn++pins,p.1≠it):Inv X pins σ H { s with heap:=h',toks:=t' }:=by
 have nit:∀b u,H b=some u->b≠it:=λb u e z=>by rw[z,hn] at e;cases e
 refine I.step (g':=s.gens) (d':=s.drawn) (ch:=[it]) (λb hb=>?_) (λb o _ _ hc e _=>k b o (λz=>hc (by simp[z])) e) (λb o _ _ hc e _=>⟨o.slots,k b o (λz=>hc (by simp[z])) e⟩) (λ_ _ _ _ n=>n)
  (λb o hc e=>⟨o,k b o (λz=>hc (by simp[z])) e⟩) (λ_ _ e=>e) (λ_ _ _ e=>e) (λb ps e=>⟨#[],by rw[e];simp⟩) (λm hm=>?_) (λb u e=>?_) I.bare
 ·have e:b=it:=by simpa using hb
  subst e;exact⟨h1,hL,h2,h3⟩
 ·(revert hm;refine Ka λo es ep ho r=>?_)
  exact(RH o es ep (k _ o (ω hL) ho) r)
 ·refine(I.At b u e).Ng (λc v hc q=>k c v ?_ q) (λ_ q=>q) λ_ _ q=>q
  rcases hc with z | z
  ·rw[z];exact nit b u e
  ·exact nit c _ z
def Inv.tok (I:Inv X pins σ H s)(t:Nat):Inv X pins σ H { s with toks:=t }:=I.un (h':=s.heap) (t':=t) Un.refl I.At
def Inv.kept (I:Inv X pins σ H s)(k:∀b u,s.heap.get? b=some u->h'.get? b=some u):Inv X pins σ H { s with heap:=h',toks:=t' }:=I.un (Un.kept k) (I.At.kept k)
def Inv.laid {o:HO}(I:Inv X pins σ H s)(k:∀b u,s.heap.get? b=some u->h'.get? b=some u)(hp:s.heap.objs.size<=a)(new:EQ X.prog X.w (upd H a o) h' a o) :
  Inv X pins σ (upd H a o) { s with heap:=h',toks:=t' }:=I.un (Un.laid k hp (I.At.fresh hp)) (I.At.laid k hp new)
def Inv.write {x e:Ε}{o:HO}(I:Inv X pins σ H s)(mu:Mut (H x))(he:e=x\/H e=some (.own x))(k:∀b u,b≠e->s.heap.get? b=some u->h'.get? b=some u)(heo:∃u,h'.get? e=some u)
  (new:EQ X.prog X.w (upd H x o) h' x o):Inv X pins σ (upd H x o) { s with heap:=h',toks:=t' }:=I.un (Un.write mu he k heo) (I.At.write mu he k heo new)
def Inv.zq {aaw:List (Ε×Obj)}(I:Inv X pins σ H s)(h:∀p∈aaw,s.heap.get? p.1=some p.2/\H p.1=none/\p.1≠X.env.locals/\p.1∉X.fs/\∀v,p.2.data≠.cell v):Inv X aaw σ H s:=
 ⟨I.ok,I.os,I.bare,I.base,I.loc,I.cell,I.free,I.Lk,λp hp=>(ϑ.mp hp).elim (λz=>I.pin p (ώ _ z)) (h p),I.At,I.len⟩
def pS {N:List Str}(hN:N.Nodup)(a:N[i]?=some x)(b:N[j]?=some x):i=j:=by
 obtain⟨h1,e1⟩:=Ο.mp a;obtain⟨h2,e2⟩:=Ο.mp b;exact(List.getElem_inj hN).mp (e1.trans e2.symm)
def Ap {M:M7}{v:V}{Q:Unit->Ι->Prop}(I:Inv X pins σ H s)(hN:X.N.Nodup)(hi:X.N[i]?=some x)(hx:Loc X.env.scope x)(r:RelV v u)
  (h:∀s',Inv X pins (σ.set i (some v)) H s'->(∃a,Ly a s.heap s'.heap/\(a=X.env.locals\/X.env.cells.lookup x=some a))->Q () s') (hf:autoParam (X.fn x=true\/X.env.scope.names.lookup x=some .local) L2.X4._auto_1):wpAny M A (storeName X.env x u) Q E s:=by
 (refine ρ (id I.loc) λm hn hl=>?_);have abl:(X.env.scope.kind == .class || (X.env.scope.kind == .module && X.env.locals != X.env.globals))=false:=by rw[I.ok.kind];rfl
 have asp:i < σ.length:=by rw[I.len];exact(Ο.mp hi).1
 have ZA:=I.ZA;have tracked:∀{a:Ε} {h':ϟ},(∃o,s.heap.get? a=some o/\H a=none)->Ly a s.heap h'->NO X.prog X.w H h':=λ{a h'} ha hs b ob e=>by
  (revert ha;refine Ϟ λ_ _ Qv=>?_);refine(I.At b ob e).Ng (λc w' hc q=>(hs.2 c ?_).trans q) (λ_ q=>q) λ_ _ q=>q
  rintro rfl
  rcases hc with rfl | hc
  ·rw[Qv] at e;cases e
  ·rw[Qv] at hc;cases hc
 rcases hx with hk | hk
 ·refine wpAny_storeName_local hk hn (λh' hn' hs=>?_) abl
  (refine ahr (id hn) λoL _ _ hoL _=>?_);refine h _ ⟨I.ok,I.os,I.bare,⟨λb o e n hb hx=>?_,λb o e n hb hx=>?_,I.base.free,λb o e hx=>?_,I.base.Nh,I.base.MV,I.base.Ni⟩,(Κ _ hn' (λj y v' e1 e2 e3=>?_)),λy c e=>?_,I.free,I.Lk,λp hp=>?_,tracked (Κ oL hoL I.free) hs,by simpa using I.len⟩ (Κ _ hs (.inl rfl))
  ·exact(hs.2 b (ϐ (ϓ (γ e) I.ok.above))).trans (I.base.keep b o e n hb hx)
  ·obtain⟨sl,e1⟩:=I.base.slot b o e n hb hx
   exact⟨sl,(hs.2 b (ϐ (ϓ (γ e) I.ok.above))).trans e1⟩
  ·obtain⟨o',e1⟩:=I.base.there b o e hx
   exact⟨o',(hs.2 b (ϐ (ϓ (γ e) I.ok.above))).trans e1⟩
  ·by_cases hj:j=i
   ·subst hj
    rw[hi] at e1;cases e1;rw[Kt asp] at e2;cases e2;exact(Κ u r (.inl ⟨hk,by simp⟩))
   ·rw[JR (ω hj)] at e2
    (refine ρ (hl j y v' e1 e2 e3) λu' r' q=>?_);refine(Κ u' r' ?_);rcases q with⟨k,e⟩ | ⟨k,c,e,z⟩
    ·refine .inl ⟨k,?_⟩
     have:y≠x:=λe=>hj (pS hN e1 (e▸hi));simp[this,e]
    ·exact .inr ⟨k,(Κ c e (z.sameBut hs (ZA y c e)))⟩
  ·obtain⟨w',z⟩:=I.cell y c e
   exact⟨w',z.sameBut hs (ZA y c e)⟩
  ·(refine X2 (I.pin p hp) λe n ne nf d=>?_)
   exact⟨(hs.2 p.1 ne).trans e,n,ne,nf,d⟩
 ·have hfn:X.fn x=true:=by
   rcases hf with z | z
   ·exact z
   ·rw[z] at hk;cases hk
  obtain⟨c,hc⟩:=I.ok.has x (.inl hk);obtain⟨w',z⟩:=I.cell x c hc;refine wpAny_storeName_cell I.ok.kind hk hc z (λh' SS hs=>?_);(refine ρ (id z) λoc hoc ahE=>?_);refine h { s with heap:=h' } ⟨I.ok,I.os,I.bare,⟨λb o e n hb hx=>?_,λb o e n hb hx=>?_,I.base.free,λb o e hx=>?_,I.base.Nh,I.base.MV,I.base.Ni⟩,(Κ m (hn.sameBut hs (ω (ZA x c hc))) (λj y v' e1 e2 e3=>?_)),λy c' e=>?_,I.free,I.Lk,λp hp=>?_,tracked (Κ oc hoc (I.Lk x c hc)) hs,by simpa using I.len⟩ (Κ c hs (.inr hc))
  ·exact(hs.2 b (ϐ (ϓ (γ e) (I.ok.cab x c hfn hc)))).trans (I.base.keep b o e n hb hx)
  ·obtain⟨sl,e1⟩:=I.base.slot b o e n hb hx
   exact⟨sl,(hs.2 b (ϐ (ϓ (γ e) (I.ok.cab x c hfn hc)))).trans e1⟩
  ·obtain⟨o',e1⟩:=I.base.there b o e hx
   exact⟨o',(hs.2 b (ϐ (ϓ (γ e) (I.ok.cab x c hfn hc)))).trans e1⟩
  ·by_cases hj:j=i
   ·subst hj
    rw[hi] at e1;cases e1;rw[Kt asp] at e2;cases e2;exact(Κ u r (.inr ⟨.inl hk,(Κ c hc SS)⟩))
   ·rw[JR (ω hj)] at e2
    (refine ρ (hl j y v' e1 e2 e3) λu' r' q=>?_);refine(Κ u' r' ?_);rcases q with q | ⟨k,c',e,z'⟩
    ·exact .inl q
    ·refine .inr ⟨k,(Κ c' e (z'.sameBut hs ?_))⟩
     rintro rfl
     exact hj (pS hN e1 (I.ok.inj _ _ _ e hc▸hi))
  ·by_cases hcc:c'=c
   ·subst hcc;exact⟨_,SS⟩
   ·obtain⟨w2,z2⟩:=I.cell y c' e
    exact⟨w2,z2.sameBut hs hcc⟩
  ·(refine X2 (I.pin p hp) λe n ne nf d=>?_)
   refine⟨(hs.2 p.1 ?_).trans e,n,ne,nf,d⟩;intro q;rw[q,hoc] at e;have q':oc=p.2:=ϗ e;exact d w' (by rw[<-q'];exact ahE)
def lO {M:M7}{v:V}{Q:Unit->Ι->Prop}(I:Inv X pins σ H s)(hN:X.N.Nodup)(hi:X.N[i]?=some x)(hx:Loc X.env.scope x)(r:RelV v u)
  (h:∀s',Inv X pins (σ.set i (some v)) H s'->Q () s') (hf:autoParam (X.fn x=true\/X.env.scope.names.lookup x=some .local) L2.X4._auto_1):wpAny M A (storeName X.env x u) Q E s:=
 Ap I hN hi hx r (λs' I' _=>h s' I') hf
def Inv.X7 (I:Inv X pins σ H s)(ho:s'.os=s.os)(u:Un (NP X.stack) ch H H' s.heap s'.heap)(At:NO X.prog X.w H' s'.heap)(hg:Nz s'.gens)
  (Zd:∀b∈ch,(b∈X.ex\/X.s₀.heap.objs.size<=b)/\b≠X.env.locals/\(∀x c,X.env.cells.lookup x=some c->c≠b)/\∀p∈X.pn++pins,p.1≠b):Inv X pins σ H' s':=by
 obtain⟨h',g',d',t',o'⟩:=s';have e:o'=s.os:=ho;subst e;exact I.call (g':=g') (t':=t') (d':=d') u At hg Zd
end
noncomputable abbrev XK:=Η->Option Ε->Hp->Prop
noncomputable abbrev St:=List (Option V)
noncomputable abbrev VK:=V->Hp->Prop
noncomputable abbrev TE:=St->Hp->VK->Prop
noncomputable abbrev TT:=St->Hp->(Bool->Hp->Prop)->Prop
noncomputable abbrev TA:=St->Hp->(List V->Hp->Prop)->Prop
set_option genInjectivity false in
structure Ends where
 nx:St->Hp->Prop
 rt:VK
 bk:St->Hp->Prop:=λ_ _=>False
 ct:St->Hp->Prop:=λ_ _=>False
noncomputable abbrev TS:=Ends->St->Hp->Prop
abbrev EP (X:Cx)(pins:List (Ε×Obj))(σ:St)(Q:VK)(u:Η)(s':Ι):Prop:=∃v H',Inv X pins σ H' s'/\RelV v u/\Q v H'
abbrev TP (X:Cx)(pins:List (Ε×Obj))(σ:St)(Q:Bool->Hp->Prop)(b:Bool)(s':Ι):Prop:=∃H',Inv X pins σ H' s'/\Q b H'
abbrev AP (X:Cx)(pins:List (Ε×Obj))(σ:St)(Q:List V->Hp->Prop)(us:List Η)(s':Ι):Prop:=∃vs H',Inv X pins σ H' s'/\Vals vs us/\Q vs H'
abbrev SP (X:Cx)(pins:List (Ε×Obj))(D:Ends)(f:Flow)(s':Ι):Prop:=
 match f with
 | .next=>∃σ' H',Inv X pins σ' H' s'/\D.nx σ' H'
 | .brk=>∃σ' H',Inv X pins σ' H' s'/\D.bk σ' H'
 | .cont=>∃σ' H',Inv X pins σ' H' s'/\D.ct σ' H'
 | .ret u=>∃v σ' H',Inv X pins σ' H' s'/\RelV v u/\D.rt v H'
abbrev PE (X:Cx)(e:bv)(t:TE):Prop:=
 ∀(pins:List (Ε×Obj)) (s:Ι) (σ:St) (H:Hp) (Q:VK),Inv X pins σ H s->t σ H Q->wpAny (model X.prog X.w) X.A (eval e X.env) (EP X pins σ Q) X.xe s
abbrev PT (X:Cx)(e:bv)(t:TT):Prop:=
 ∀(pins:List (Ε×Obj)) (s:Ι) (σ:St) (H:Hp) (Q:Bool->Hp->Prop),Inv X pins σ H s->t σ H Q->wpAny (model X.prog X.w) X.A (isTrue e X.env (eval e X.env)) (TP X pins σ Q) X.xe s
abbrev PW (X:Cx)(e:bv)(t:TT):Prop:=
 ∀(whole:Sem Η) (pins:List (Ε×Obj)) (s:Ι) (σ:St) (H:Hp) (Q:Bool->Hp->Prop),Inv X pins σ H s->t σ H Q->wpAny (model X.prog X.w) X.A (isTrue e X.env whole) (TP X pins σ Q) X.xe s
def PW.pt {X:Cx}{t:TT}(h:PW X e t):PT X e t:=h _
abbrev PA (X:Cx)(es:List bv)(t:TA):Prop:=
 ∀(pos:Pos) (pins:List (Ε×Obj)) (s:Ι) (σ:St) (H:Hp) (Q:List V->Hp->Prop),Inv X pins σ H s->t σ H Q->wpAny (model X.prog X.w) X.A (spliced (backTo pos (starEach es X.env))) (AP X pins σ Q) X.xe s
abbrev PS (X:Cx)(st:ϙ)(t:TS):Prop:=
 ∀(pins:List (Ε×Obj)) (s:Ι) (σ:St) (H:Hp) (D:Ends),Inv X pins σ H s->t D σ H->wpAny (model X.prog X.w) X.A (exec st X.env) (SP X pins D) X.xe s
abbrev Rt (X:Cx)(st:List ϙ)(t:TS):Prop:=
 ∀(pins:List (Ε×Obj)) (s:Ι) (σ:St) (H:Hp) (D:Ends),Inv X pins σ H s->t D σ H->wpAny (model X.prog X.w) X.A (execs st X.env) (SP X pins D) X.xe s
def J2 {t:Sem α}{Q Q':α->Ι->Prop}{M:M7}{s:Ι}(h:wpAny M A t Q E s)(hQ:∀a s,Q a s->Q' a s):wpAny M A t Q' E s:=ul h hQ λ_ _ x=>x
def IJ {t:Sem Η}{X:Cx}{σ:St}{Q:VK}{Q':Η->Ι->Prop}{M:M7}{s:Ι}(h:wpAny M A t (EP X pins σ Q) E s)(hQ:∀u s' v H',Inv X pins σ H' s'->RelV v u->Q v H'->Q' u s'):wpAny M A t Q' E s:=ul h (λu s' zz=>KA zz λv H' I r q=>hQ u s' v H' I r q) λ_ _ x=>x
def Ow {t:Sem (List Η)}{X:Cx}{σ:St}{Q:List V->Hp->Prop}{Q':List Η->Ι->Prop}{M:M7}{s:Ι}(h:wpAny M A t (AP X pins σ Q) E s)(hQ:∀u s' v H',Inv X pins σ H' s'->Vals v u->Q v H'->Q' u s'):wpAny M A t Q' E s:=ul h (λu s' zz=>KA zz λv H' I r q=>hQ u s' v H' I r q) λ_ _ x=>x
section
variable {X:Cx}
abbrev onR (x:V)(R:Ε->Prop):Prop:=match x with | .ref a=>R a | _=>False
def onRr {R:Ε->Prop}:onR (.ref a) R=R a:=rfl
def ahF {x:V}{R:Ε->Prop}:onR x R=∃a,x=.ref a/\R a:=by
 cases x<;>simp[onR]
def ua {x:V}{R:Ε->Prop}(h:onR x R):∃a,x=.ref a/\R a:=ahF▸h
abbrev onB (x:V)(R:Bool->Prop):Prop:=match x with | .bl a=>R a | _=>False
def onBb {a:Bool}{R:Bool->Prop}:onB (.bl a) R=R a:=rfl
def ahG {x:V}{R:Bool->Prop}:onB x R=∃a,x=.bl a/\R a:=by
 cases x<;>simp[onB]
def pT {x:V}{R:Bool->Prop}(h:onB x R):∃a,x=.bl a/\R a:=ahG▸h
def auE {α β:Type _}{f:α->β}{a:α}{l:List α}:J9 f (a::l)=f a::J9 f l:=rfl
def auF {α β:Type _}{f:α->β}:J9 f []=[]:=rfl
abbrev O4:Nat->St->Hp->VK->Prop
 | 0,some v::_,H,Q=>Q v H
 | 0,none::_,_,_=>False
 | n+1,_::r,H,Q=>O4 n r H Q
 | _,[],_,_=>False
def tV0 {v:V}{r:St}{H:Hp}{Q:VK}:O4 0 (some v::r) H Q=Q v H:=rfl
def tVs {x:Option V}{r:St}{H:Hp}{Q:VK}:O4 (n+1) (x::r) H Q=O4 n r H Q:=rfl
def zr:∀{i:Nat} {σ:St} {H:Hp} {Q:VK},O4 i σ H Q->∃v,σ[i]?=some (some v)/\Q v H
 | 0,some v::_,_,_,h=>(Κ v rfl h)
 | 0,none::_,_,_,h=>h.elim
 | n+1,_::r,_,_,h=>let ⟨v,e,q⟩:=zr (i:=n) (σ:=r) h;(Κ v (by simpa using e) q)
 | 0,[],_,_,h=>h.elim
 | _+1,[],_,_,h=>h.elim
abbrev tC (v:V):TE:=λ_ H Q=>Q v H
def FO (hN:X.N[i]?=some x)(hv:Vis X.env.scope x)(hd:autoParam ((x == ("__debug__":Str))=false) L2.Kh._auto_1)(SU:autoParam ((x == ("__classdict__":Str))=false) L2.Kh._auto_1):PE X (.Name x pos) (O4 i):=by
 intro pins s σ H Q I h;(refine ρ (zr h) λv e h=>?_);(refine ρ I.loc λm hn hl=>?_);(refine ρ (hl i x v hN e hv) λu r l=>?_);have fin:EP X pins σ Q u s:=(ϒ v H I r h)
 rcases l with⟨hk,hm⟩ | ⟨hk,c,hc,Ts⟩
 ·exact aai (Y1 I.ok.kind hk hn hm fin) hd
 ·rcases hk with hk | hk
  ·exact aai (Zs I.ok.kind hk hc Ts fin) hd
  ·exact aai (wpAny_loadName_free I.ok.kind hk hc Ts fin SU) hd
def ai {i j pos}:PE X (.Constant (.int i) j pos) (tC (.int i)):=λ_ _ _ H _ I h=>wpAny_Constant_int (ϒ (.int i) H (I.tok _) ⟨_,rfl⟩ h)
def eX {b j pos}:PE X (.Constant (.bool b) j pos) (tC (.bl b)):=λ_ _ _ H _ I h=>Constant_bool (ϒ (.bl b) H I rfl h)
def xJ {j pos}:PE X (.Constant .none j pos) (tC .cr):=λ_ _ _ H _ I h=>Wv (ϒ (.cr) H I rfl h)
def ao {x j pos}:PE X (.Constant (.str x) j pos) (tC (.str x)):=λ_ _ _ H _ I h=>Pf (ϒ (.str x) H (I.tok _) ⟨_,rfl⟩ h)
abbrev Gl (X:Cx)(x:Str):Prop:=X.env.kindOf x=some .globalImplicit
def dU {s:Ι}{σ:St}{H:Hp}{Q:Η->Ι->Prop}(I:Inv X pins σ H s)(hg:Gl X x)(hm:X.mg x=some u)(h:Q u s)
  (hd:autoParam ((x == ("__debug__":Str))=false) L2.Kh._auto_1):wpAny (model X.prog X.w) X.A (eval (.Name x pos) X.env) Q E s:=
 SH I.ok.kind hg (Calls.loadGlobal_global (by rw[I.ok.glob];exact I.mod.glob.keeps I.bk) hm h) hd
def cZ {s:Ι}{σ:St}{H:Hp}{Q:Η->Ι->Prop}(I:Inv X pins σ H s)(hg:Gl X x)(hm:X.mg x=none)(hv:bootBuiltins x=some u)(h:Q u s)
  (hn:autoParam (x ≠ "__name__") L2.Kh._auto_1) (hd:autoParam ((x == ("__debug__":Str))=false) L2.Kh._auto_1):wpAny (model X.prog X.w) X.A (eval (.Name x pos) X.env) Q E s:=by
 (refine ρ I.mod.blt λmb h1 h2=>?_);exact SH I.ok.kind hg (Calls.loadGlobal_builtin (by rw[I.ok.glob];exact I.mod.glob.keeps I.bk) hm (by rw[I.ok.blt];exact h1.keeps I.bk) ((h2 x hn).trans hv) h) hd
def pJ {v:V}(hg:Gl X x)(hm:X.mg x=some u)(r:RelV v u)(hd:autoParam ((x == ("__debug__":Str))=false) L2.Kh._auto_1):PE X (.Name x pos) (tC v):=
 λ_ _ _ H _ I h=>dU I hg hm (ϒ v H I r h) hd
def iq {v:V}(hg:Gl X x)(hm:X.mg x=none)(hv:bootBuiltins x=some u)(r:RelV v u)(hn:autoParam (x ≠ "__name__") L2.Kh._auto_1)(hd:autoParam ((x == ("__debug__":Str))=false) L2.Kh._auto_1):PE X (.Name x pos) (tC v):=
 λ_ _ _ H _ I h=>cZ I hg hm hv (ϒ v H I r h) hn hd
variable {a b:bv} {ta tb:TE} 
abbrev PC (X:Cx)(op:aur)(a b:bv)(t:TE):Prop:=
 ∀(pins:List (Ε×Obj)) (s:Ι) (σ:St) (H:Hp) (Q:VK),Inv X pins σ H s->t σ H Q->
  wpAny (model X.prog X.w) X.A (eval a X.env) (λv s₁=>wpAny (model X.prog X.w) X.A (eval b X.env) (λu s₂=>wpAny (model X.prog X.w) X.A (compareOp op v u) (EP X pins σ Q) X.xe s₂) X.xe s₁) X.xe s
def X5 (b:bv)(h:op≠.In)(h2:op≠.NotIn):behindInMarks op b=false:=by
 have e1:(op == afL)=false:=by cases op<;>first | rfl | exact absurd rfl h
 have e2:(op == aa7)=false:=by cases op<;>first | rfl | exact absurd rfl h2
 cases b<;>simp[behindInMarks,e1,e2]
abbrev ahH (ta:TE):TE:=λσ H Q=>ta σ H λx H1=>Q (.bl (decide (x=.cr))) H1
abbrev adI (ta:TE):TE:=λσ H Q=>ta σ H λx H1=>Q (.bl (!decide (x=.cr))) H1
def RelV.vv {x:V}{v:Η}(r:RelV x v):(v == be)=decide (x=.cr):=by
 cases x with
 | cr=>cases r;rfl
 | bl _=>cases r;rfl
 | int _=>obtain⟨t,rfl⟩:=r;rfl
 | str _=>obtain⟨t,rfl⟩:=r;rfl
 | VW _=>obtain⟨t,rfl⟩:=r;rfl
 | Zz _=>obtain⟨t,rfl⟩:=r;rfl
 | ref _=>cases r;rfl
 | ty _=>cases r;rfl
def ub {j pos'}(ha:PE X a ta):PC X .Is a (.Constant .none j pos') (ahH ta):=by
 intro pins s σ H Q I h;refine IJ (ha pins s σ H _ I h) λv s1 x H1 I1 r1 q1=>?_;exact Wv (is_none_gen (ϒ (.bl _) H1 I1 (by rw[r1.vv];rfl) q1))
def zt {j pos'}(ha:PE X a ta):PC X .IsNot a (.Constant .none j pos') (adI ta):=by
 intro pins s σ H Q I h;refine IJ (ha pins s σ H _ I h) λv s1 x H1 I1 r1 q1=>?_;exact Wv (isnot_none_gen (ϒ (.bl _) H1 I1 (by rw[r1.vv];rfl) q1))
abbrev tB (t:TE):TT:=λσ H Q=>t σ H λx H1=>∃c,x=.bl c/\Q c H1
def ny {t:TE}(h:PC X op a b t)(h1:autoParam (behindInMarks op b=false) L2.ahw._auto_1):PT X (.Compare a [op] [b] pos) (tB t):=by
 intro pins s σ H Q I hw;refine Pg (J2 (h pins s σ H _ I hw) λv s1 h1=>J2 h1 λu s2 h2=>J2 h2 λc s3 zz=>KA zz λx H1 I1 r1 q1=>?_) h1;(revert q1;refine Ϟ λd Τ q=>?_;subst Τ);cases r1;exact wS (Κ H1 I1 q)
variable {tA tB':TT} {rest:List bv}
abbrev ahI (t u:TT):TT:=λσ H Q=>t σ H λc H1=>if c=true then u σ H1 Q else Q false H1
abbrev tOr (t u:TT):TT:=λσ H Q=>t σ H λc H1=>if c=true then Q true H1 else u σ H1 Q
abbrev ZB (t:TT):TT:=λσ H Q=>t σ H λc H1=>Q (!c) H1
def iu (ha:PT X a tA):PW X (.BoolOp .And [a] pos) tA:=by
 intro wh pins s σ H Q I h;refine ay2 (J2 (ha pins s σ H Q I h) λc s1 e=>?_);cases c with
 | true=>exact isTrue_and_nil e
 | false=>exact e
def pU (ha:PT X a tA):PW X (.BoolOp .Or [a] pos) tA:=by
 intro wh pins s σ H Q I h;refine azX (J2 (ha pins s σ H Q I h) λc s1 e=>?_);cases c with
 | false=>exact isTrue_or_nil e
 | true=>exact e
def kU (ha:PT X a tA)(hb:PW X (.BoolOp .And (b::rest) pos) tB'):PW X (.BoolOp .And (a::b::rest) pos) (ahI tA tB'):=by
 intro wh pins s σ H Q I h;refine ay2 (J2 (ha pins s σ H _ I h) λc s1 zz=>ρ zz λH1 I1 q1=>?_);cases c with
 | true=>exact hb wh pins s1 σ H1 Q I1 q1
 | false=>exact(Κ H1 I1 q1)
def vw (ha:PT X a tA)(hb:PW X (.BoolOp .Or (b::rest) pos) tB'):PW X (.BoolOp .Or (a::b::rest) pos) (tOr tA tB'):=by
 intro wh pins s σ H Q I h;refine azX (J2 (ha pins s σ H _ I h) λc s1 zz=>ρ zz λH1 I1 q1=>?_);cases c with
 | true=>exact(Κ H1 I1 q1)
 | false=>exact hb wh pins s1 σ H1 Q I1 q1
def bH (ha:PT X a tA):PT X (.UnaryOp .Not a pos) (ZB tA):=by
 intro pins s σ H Q I h;exact isTrue_not (ha pins s σ H (λc H1=>Q (!c) H1) I h)
abbrev adK (ta tb:TE):TE:=λσ H Q=>ta σ H λx H1=>∃c,x=.bl c/\if c=true then tb σ H1 Q else Q (.bl false) H1
abbrev auG (ta tb:TE):TE:=λσ H Q=>ta σ H λx H1=>∃c,x=.bl c/\if c=true then Q (.bl true) H1 else tb σ H1 Q
abbrev adL (ta:TE):TE:=λσ H Q=>ta σ H λx H1=>∃c,x=.bl c/\Q (.bl (!c)) H1
def iw {op}{t:TE}(h:PE X a t):PE X (.BoolOp op [a] pos) t:=λpins s σ H Q I hw=>BoolOp_one (h pins s σ H Q I hw)
def eY (ha:PE X a ta)(hb:PE X (.BoolOp .And (b::rest) pos) tb):PE X (.BoolOp .And (a::b::rest) pos) (adK ta tb):=by
 intro pins s σ H Q I h;refine BoolOp_and (IJ (ha pins s σ H _ I h) λv s1 x H1 I1 r1 q1=>?_);(revert q1;refine Ϟ λc Τ q1=>?_;subst Τ);cases r1;refine wS ?_;cases c with
 | true=>exact hb pins s1 σ H1 Q I1 q1
 | false=>exact(ϒ (.bl false) H1 I1 rfl q1)
def FP (ha:PE X a ta):PE X (.UnaryOp .Not a pos) (adL ta):=by
 intro pins s σ H Q I h;refine UnaryOp_ (IJ (ha pins s σ H _ I h) λv s1 x H1 I1 r1 q1=>?_);(revert q1;refine Ϟ λc Τ q1=>?_;subst Τ);cases r1;exact not_of (wS (ϒ (.bl (!c)) H1 I1 rfl q1))
abbrev tIf (t:TT)(ta tb:TE):TE:=λσ H Q=>t σ H λc H1=>if c=true then ta σ H1 Q else tb σ H1 Q
def jk {c:bv}(hc:PT X c tA)(ha:PE X a ta)(hb:PE X b tb):PE X (.IfExp c a b pos) (tIf tA ta tb):=by
 intro pins s σ H Q I h;refine wpAny_IfExp (J2 (hc pins s σ H _ I h) λd s1 zz=>ρ zz λH1 I1 q1=>?_);cases d with
 | true=>exact ha pins s1 σ H1 Q I1 q1
 | false=>exact hb pins s1 σ H1 Q I1 q1
end
abbrev GT (K:Ξ)(H:Hp)(a:Ε)(xs:List V):Prop:=
 Rd H a (.lst xs)\/
  ∃(o:Obj) (its:Array Η) (n:Nat),K.lookup a=some o/\o.cls=.type "list" /\ o.dict=none/\o.data=.seq its n/\its.size<=sizeLine/\Vals xs its.toList
abbrev JZ (K:Ξ)(H:Hp)(a:Ε)(xs:List V):Prop:=
 Rd H a (.tup xs)\/
  ∃(o:Obj) (its:Array Η) (n:Nat),K.lookup a=some o/\o.cls=.type "tuple" /\ o.data=.seq its n/\its.size<=sizeLine/\Vals xs its.toList
abbrev ahJ:Η->Option V
 | .none=>some .cr
 | .bool b=>some (.bl b)
 | .int i _=>some (.int i)
 | .str x _=>some (.str x)
 | .bytes b _=>some (.VW b)
 | .float b _=>some (.Zz b)
 | .ref a=>some (.ref a)
 | .type n=>some (.ty n)
 | _=>none
def RelV.abs {x:V}(r:RelV x u):ahJ u=some x:=by
 cases x with
 | cr=>cases r;rfl
 | bl _=>cases r;rfl
 | int _=>obtain⟨t,rfl⟩:=r;rfl
 | str _=>obtain⟨t,rfl⟩:=r;rfl
 | VW _=>obtain⟨t,rfl⟩:=r;rfl
 | Zz _=>obtain⟨t,rfl⟩:=r;rfl
 | ref _=>cases r;rfl
 | ty _=>cases r;rfl
def RelV.inj {x y:V}(r:RelV x u)(q:RelV y u):x=y:=ϗ (r.abs.symm.trans q.abs)
def Vals.inj:∀{xs ys:List V} {us:List Η},Vals xs us->Vals ys us->xs=ys
 | _,_,_,.nil,.nil=>rfl
 | _,_,_,.cons r t,.cons r' t'=>by rw[r.inj r',Vals.inj t t']
section
variable {X:Cx} {σ:St} {H:Hp} {s:Ι} {xs ys:List V}
def JZ.of {K:Ξ}(h:H a=some (.tup xs)):JZ K H a xs:=.inl (.inl h)
def Inv.list (I:Inv X pins σ H s)(h:GT X.K H a xs):∃its:List Η,Vals xs its/\PlainL s.heap a its.toArray/\xs.length<=sizeLine:=by
 rcases h with h | ⟨o,its,n,hk,hc,hd,hs,hz,r⟩
 ·(refine MU (h.ok I.At) λz=>sK λits n r e=>?_)
  exact(ύ its r (Ky _ n e rfl rfl rfl) z)
 ·refine(ύ its.toList r (Ky o n (I.LZ a o hk) hc hd (by simpa using hs)) ?_)
  have e:=r.length;simp only[V1] at e;omega
def Inv.tuple (I:Inv X pins σ H s)(h:JZ X.K H a xs):∃its:List Η,Vals xs its/\IsTup s.heap a its.toArray/\xs.length<=sizeLine:=by
 rcases h with h | ⟨o,its,n,hk,hc,hs,hz,r⟩
 ·(refine MU (h.ok I.At) λz=>Ϟ λits r p=>?_)
  exact(ύ its r p z)
 ·refine(ύ its.toList r (ύ o (I.LZ a o hk) hc (MF n (by simpa using hs))) ?_)
  have e:=r.length;simp only[V1] at e;omega
def Inv.jl (I:Inv X pins σ H s)(h:GT X.K H a xs)(h':GT X.K H a ys):xs=ys:=by
 (refine ϭ (I.list h) λits r Τ _=>?_;obtain ⟨o,n,e,_,_,d⟩:=Τ);(refine ϭ (I.list h') λits' r' Τ _=>?_;obtain ⟨o',n',e',_,_,d'⟩:=Τ);rw[e] at e';cases e';rw[d] at d';injection d' with d1 _;have:its=its':=by simpa using congrArg PR d1
 subst this;exact r.inj r'
def Inv.sN (I:Inv X pins σ H s)(h:JZ X.K H a xs)(h':JZ X.K H a ys):xs=ys:=by
 (refine ϭ (I.tuple h) λits r Τ _=>?_;obtain ⟨o,e,_,n,d⟩:=Τ);(refine ϭ (I.tuple h') λits' r' Τ _=>?_;obtain ⟨o',e',_,n',d'⟩:=Τ);rw[e] at e';cases e';rw[d] at d';injection d' with d1 _;have:its=its':=by simpa using congrArg PR d1
 subst this;exact r.inj r'
end
noncomputable abbrev Cx.Nj (X:Cx)(E:Η->Ι->Prop):Cx:={ X with xe:=E }
noncomputable abbrev Cx.Kf (X:Cx):Cx:=X.Nj λ_ _=>False
def Cx.Ok.Nj {X:Cx}(ok:X.Ok)(E:Η->Ι->Prop):(X.Nj E).Ok:=
 ⟨ok.mod,ok.kind,ok.glob,ok.blt,ok.above,ok.inj,ok.has,ok.cab,ok.hd,ok.frames,ok.stk,ok.exf,ok.bs,ok.XI,ok.Up,ok.V8,ok.NU,ok.XJ⟩
def Cx.Ok.Iy {X:Cx}(ok:(X.Nj E).Ok):X.Ok:=
 ⟨ok.mod,ok.kind,ok.glob,ok.blt,ok.above,ok.inj,ok.has,ok.cab,ok.hd,ok.frames,ok.stk,ok.exf,ok.bs,ok.XI,ok.Up,ok.V8,ok.NU,ok.XJ⟩
section
variable {X:Cx} {σ:St} {H:Hp} {s:Ι} 
def Inv.Nj (I:Inv X pins σ H s)(E:Η->Ι->Prop):Inv (X.Nj E) pins σ H s:=⟨I.ok.Nj E,I.os,I.bare,I.base,I.loc,I.cell,I.free,I.Lk,I.pin,I.At,I.len⟩
def Inv.Iy (I:Inv (X.Nj E) pins σ H s):Inv X pins σ H s:=⟨I.ok.Iy,I.os,I.bare,I.base,I.loc,I.cell,I.free,I.Lk,I.pin,I.At,I.len⟩
def SP.Iy {D:Ends}{f:Flow}(h:SP (X.Nj E) pins D f s'):SP X pins D f s':=by
 cases f with
 | next=>(revert h;refine sK λσ' H' I q=>?_);exact(gl σ' H' I.Iy q)
 | brk=>(revert h;refine sK λσ' H' I q=>?_);exact(gl σ' H' I.Iy q)
 | cont=>(revert h;refine sK λσ' H' I q=>?_);exact(gl σ' H' I.Iy q)
 | ret u=>(revert h;refine Kx λv σ' H' I r q=>?_);exact(NC v σ' H' I.Iy r q)
def PT.Kf {t:TT}(h:PT X.Kf e t):PT X e t:=λpins s σ H Q I hw=>
 ul (h pins s σ H Q (I.Nj _) hw) (λ_ _ zz=>ρ zz λH' I' q=>(Κ H' I'.Iy q)) λ_ _ z=>ϲ z
def Rt.Kf {st:List ϙ}{t:TS}(h:Rt X.Kf st t):Rt X st t:=λpins s σ H D I hw=>
 ul (h pins s σ H D (I.Nj _) hw) (λ_ _ q=>q.Iy) λ_ _ z=>ϲ z
end
section
variable {X:Cx} {st:ϙ} {t u:TS} {te:TE} 
abbrev X8:TS:=λD σ H=>D.nx σ H
abbrev O5 (t u:TS):TS:=λD σ H=>t { D with nx:=u D } σ H
def aw:Rt X [] X8:=λ_ _ σ H _ I h=>Ku (gl σ H I h)
def ag (h1:PS X st t)(h2:Rt X rest u):Rt X (st::rest) (O5 t u):=by
 intro pins s σ H D I h;refine Oj (J2 (h1 pins s σ H { D with nx:=u D } I h) λf s1 q=>?_);cases f with
 | next=>
  (revert q;refine sK λσ' H' I' q=>?_);exact h2 pins s1 σ' H' D I' q
 | ret v=>exact q
 | brk=>exact q
 | cont=>exact q
def ah (h1:PS X st t):Rt X [st] t:=by
 intro pins s σ H D I h;refine Oj (J2 (h1 pins s σ H D I h) λf s1 q=>?_);cases f with
 | next=>exact Ku q
 | ret v=>exact q
 | brk=>exact q
 | cont=>exact q
abbrev abn:TS:=λD σ H=>D.bk σ H
abbrev ast:TS:=λD σ H=>D.ct σ H
def Cw:PS X (.Break pos) abn:=λ_ _ σ H _ I h=>wpAny_Break (gl σ H I h)
def Inv.quiet {σ:St}{H:Hp}{s:Ι}(I:Inv X pins σ H s):interactive X.env=false:=by simp[interactive,I.ok.kind]
abbrev adM (te:TE):TS:=λD σ H=>te σ H λ_ H1=>D.nx σ H1
def aN (he:PE X e te)(hs:autoParam (swapsWith e none pos.line X.env=pure false) L2.Ϩ._auto_1):PS X (.Expr e pos) (adM te):=by
 intro pins s σ H D I h;exact wpAny_Expr_any (IJ (he pins s σ H _ I h) λv s1 x H1 I1 r1 q1=>(gl σ H1 I1 q1)) I.quiet hs
abbrev X9 (te:TE):TS:=λD σ H=>te σ H D.rt
def ar (he:PE X e te):PS X (.Return (some e) pos) (X9 te):=by
 intro pins s σ H D I h;exact SI (IJ (he pins s σ H _ I h) λv s1 x H1 I1 r1 q1=>(NC x σ H1 I1 r1 q1))
abbrev asu:TS:=λD _ H=>D.rt .cr H
abbrev abo (c:TT)(t u:TS):TS:=λD σ H=>c σ H λb H1=>if b=true then t D σ H1 else u D σ H1
def aL {c:bv}{a b:List ϙ}{tc:TT}(hc:PT X c tc)(ha:Rt X a t)(hb:Rt X b u):PS X (.If c a b pos) (abo tc t u):=by
 intro pins s σ H D I h;refine wpAny_If (J2 (hc pins s σ H _ I h) λd s1 zz=>ρ zz λH1 I1 q1=>?_);cases d with
 | true=>exact ha pins s1 σ H1 D I1 q1
 | false=>exact hb pins s1 σ H1 D I1 q1
abbrev X':TS:=λ_ _ _=>False
def d5:PS X st X':=λ_ _ _ _ _ _ h=>h.elim
def aZ {sts:List ϙ}:Rt X sts X':=λ_ _ _ _ _ _ h=>h.elim
end
noncomputable abbrev TG:=V->St->Hp->(St->Hp->Prop)->Prop
noncomputable abbrev TGs:=List V->St->Hp->(St->Hp->Prop)->Prop
abbrev PG (X:Cx)(target:bv)(t:TG):Prop:=
 ∀(pins:List (Ε×Obj)) (s:Ι) (σ:St) (H:Hp) (v:V) (u:Η) (Q:St->Hp->Prop),Inv X pins σ H s->RelV v u->t v σ H Q->
  wpAny (model X.prog X.w) X.A (assign target X.env u) (λ_ s'=>∃σ' H',Inv X pins σ' H' s'/\Q σ' H') X.xe s
abbrev PGs (X:Cx)(ts:List bv)(t:TGs):Prop:=
 ∀(pins:List (Ε×Obj)) (s:Ι) (σ:St) (H:Hp) (vs:List V) (us:List Η) (Q:St->Hp->Prop),Inv X pins σ H s->Vals vs us->t vs σ H Q->
  wpAny (model X.prog X.w) X.A (assignInOrder ((assignEach ts X.env).map (·.2)) us) (λ_ s'=>∃σ' H',Inv X pins σ' H' s'/\Q σ' H') X.xe s
noncomputable abbrev abp:=V->V->V->Hp->(Hp->Prop)->Prop
abbrev abq (X:Cx)(t:abp):Prop:=
 ∀(pins:List (Ε×Obj)) (s:Ι) (σ:St) (H:Hp) (o i v:V) (ov iv u:Η) (Q:Hp->Prop),Inv X pins σ H s->RelV o ov->RelV i iv->RelV v u->t o i v H Q->
  wpAny (model X.prog X.w) X.A (setItem ov iv u) (λ_ s'=>∃H',Inv X pins σ H' s'/\Q H') X.xe s
noncomputable abbrev TIp:=V->V->Hp->VK->Prop
abbrev PIp (X:Cx)(op:Y2)(t:TIp):Prop:=
 ∀(pins:List (Ε×Obj)) (s:Ι) (σ:St) (H:Hp) (x y:V) (v u:Η) (Q:VK),Inv X pins σ H s->RelV x v->RelV y u->t x y H Q->
  wpAny (model X.prog X.w) X.A (inplaceOp op v u) (EP X pins σ Q) X.xe s
section
variable {X:Cx} 
abbrev Ya (i:Nat):TG:=λv σ H Q=>Q (σ.set i (some v)) H
def aT (hN:X.N.Nodup)(hi:X.N[i]?=some x)(hx:Loc X.env.scope x)(hf:autoParam (X.fn x=true\/X.env.scope.names.lookup x=some .local) L2.X4._auto_1):PG X (.Name x pos) (Ya i):=by
 intro pins s σ H v u Q I r h;exact wpAny_assign_Name (lO I hN hi hx r (λs' I'=>(gl _ H I' h)) hf)
abbrev ahL:TGs:=λvs σ H Q=>vs=[]/\Q σ H
abbrev adN (t:TG)(u:TGs):TGs:=λvs σ H Q=>∃v r,vs=v::r/\t v σ H λσ' H'=>u r σ' H' Q
def ix:PGs X [] ahL:=by
 intro pins s σ H vs us Q I r h;obtain⟨e,h⟩:=h;subst e;cases r;exact assignInOrder_nil (gl σ H I h)
def bt {t:TG}{u:TGs}(h1:PG X e t)(h2:PGs X es u)
  (hs:autoParam ((assignEach (e::es) X.env).map (·.2)=assign e X.env::(assignEach es X.env).map (·.2)) L2.Ϩ._auto_1):PGs X (e::es) (adN t u):=by
 intro pins s σ H vs us Q I r h;(revert h;refine sK λv vr e1 h=>?_);subst e1;cases r with
 | cons r rr=>
  rw[hs];refine assignInOrder_cons (J2 (h1 pins s σ H _ _ _ I r h) λ_ s1 zz=>RJ zz λσ1 H1 I1 q1=>?_);exact h2 pins s1 σ1 H1 _ _ Q I1 rr q1
abbrev adO (K:Ξ)(n:Nat)(t:TGs):TG:=λv σ H Q=>∃a xs,v=.ref a/\JZ K H a xs/\xs.length=n/\t xs σ H Q
def FQ {k:Nat}{t:TGs}(hc:X.calm=true)(h:PGs X es t)
  (hn:autoParam ((assignEach es X.env).length=n) L2.Ϩ._auto_1) (Nk:autoParam ((assignEach es X.env).findIdx? (·.1)=none) L2.Ϩ._auto_1):PG X (.Tuple es k pos) (adO X.K n t):=by
 intro pins s σ H v u Q I r hw;(revert hw;refine NB λa xs e1 hq hl hw=>?_);subst e1;cases r;(refine ϭ (I.tuple hq) λits rv ht hz=>?_);refine assign_Tuple_tuple (I.ok.hd hc) ht (by simp[hn,<-hl,rv.length]) Nk λh' hx=>?_;have I1:Inv X pins σ H { s with heap:=h' }:=I.kept (t':=s.toks) λb o e=>hx b o (ϐ (γ e)) e;exact h pins _ σ H xs _ Q I1 (by simpa using rv) hw
abbrev ahM (to ti:TE)(t:abp):TG:=λv σ H Q=>to σ H λo H1=>ti σ H1 λi H2=>t o i v H2 λH3=>Q σ H3
def iy {o i:bv}{to ti:TE}{t:abp}(ho:PE X o to)(hi:PE X i ti)(hs:abq X t)
  (ha:autoParam (∀v,assign (.Subscript o i pos) X.env v=(do
   let ov <-holding [v] (eval o X.env)
   let iv <-holding [v,ov] (eval i X.env)
   standAt pos
   holding [v,ov,iv] (setItem ov iv v)
   release [v,ov,iv] [])) L2.S6._auto_1):PG X (.Subscript o i pos) (ahM to ti t):=by
 intro pins s σ H v u Q I r h;rw[ha];refine Β (ID (IJ (ho pins s σ H _ I h) λov s1 x H1 I1 r1 q1=>?_));refine Β (ID (IJ (hi pins s1 σ H1 _ I1 q1) λiv s2 y H2 I2 r2 q2=>?_));refine Β (NH (Β (ID (J2 (hs pins s2 σ H2 x y v ov iv u _ I2 r1 r2 r q2) λ_ s3 zz=>ρ zz λH3 I3 q3=>?_))));exact wpAny_release (gl σ H3 I3 q3)
abbrev adP (te:TE)(g:TG):TS:=λD σ H=>te σ H λx H1=>g x σ H1 D.nx
def iz {te:TE}{g:TG}(he:PE X e te)(hg:PG X tg g)(hs:autoParam (swapsWithSole [tg] e pos.line X.env=pure false) L2.Ϩ._auto_1)(hw:autoParam (swappedStores [tg] e X.env=pure none) L2.Ϩ._auto_1)
  (h1:autoParam ((assignEach [tg] X.env).map (·.2)=[assign tg X.env]) L2.Ϩ._auto_1):PS X (.Assign [tg] e pos) (adP te g):=by
 intro pins s σ H D I h;refine wpAny_Assign_stores (IJ (he pins s σ H _ I h) λv s1 x H1 I1 r1 q1=>?_) hs hw;rw[h1];exact J2 (hg pins s1 σ H1 x v _ I1 r1 q1) λ_ s2 q=>q
def ax {te:TE}(hN:X.N.Nodup)(hi:X.N[i]?=some x)(hx:Loc X.env.scope x)(he:PE X e te)(hs:autoParam (swapsWith e (some (.Name x pos')) pos.line X.env=pure false) L2.Ϩ._auto_1)(hf:autoParam (X.fn x=true\/X.env.scope.names.lookup x=some .local) L2.X4._auto_1) :
  PS X (.Assign [.Name x pos'] e pos) (adP te (Ya i)):=by
 intro pins s σ H D I h;refine wpAny_Assign_Name (IJ (he pins s σ H _ I h) λv s1 y H1 I1 r1 q1=>?_) hs;exact lO I1 hN hi hx r1 (λs2 I2=>(gl _ H1 I2 q1)) hf
abbrev ahN (i:Nat)(te:TE)(ti:TIp):TS:=λD σ H=>∃x,σ[i]?=some (some x)/\te σ H λy H1=>ti x y H1 λz H2=>D.nx (σ.set i (some z)) H2
def Cy {te:TE}{op:Y2}{ti:TIp}(hN:X.N.Nodup)(hi:X.N[i]?=some x)(hx:Loc X.env.scope x)(he:PE X e te)(ho:PIp X op ti)(hf:autoParam (X.fn x=true\/X.env.scope.names.lookup x=some .local) L2.X4._auto_1) :
  PS X (.AugAssign (.Name x pos') op e pos) (ahN i te ti):=by
 intro pins s σ H D I h;(revert h;refine Ϟ λv e1 h=>?_);(refine ρ I.loc λm hn hl=>?_);have vis:Vis X.env.scope x:=by rcases hx with k | k;exact .inl k;exact .inr (.inl k)
 (refine ρ (hl i x v hi e1 vis) λu r l=>?_);refine wpAny_AugAssign_Name ?_;have go:wpAny (model X.prog X.w) X.A (eval e X.env) (λw s₂=>wpAny (model X.prog X.w) X.A (inplaceOp op u w) (λr s₃=>wpAny (model X.prog X.w) X.A (storeName X.env x r) (λ_=>SP X pins D .next) X.xe s₃) X.xe s₂) X.xe s:=by
  refine IJ (he pins s σ H _ I h) λw s1 y H1 I1 r1 q1=>?_;refine IJ (ho pins s1 σ H1 v y u w _ I1 r r1 q1) λz s2 zv H2 I2 r2 q2=>?_;exact lO I2 hN hi hx r2 (λs3 I3=>(gl _ H2 I3 q2)) hf
 rcases l with⟨hk,hm⟩ | ⟨hk,c,hc,Ts⟩
 ·exact Y1 I.ok.kind hk hn hm go
 ·rcases hk with hk | hk
  ·exact Zs I.ok.kind hk hc Ts go
  ·rcases hx with k | k
   ·have:X.env.scope.names.lookup x=some .free:=hk
    rw[k] at this;cases this
   ·have:X.env.scope.names.lookup x=some .free:=hk
    rw[k] at this;cases this
end
section
variable {X:Cx} 
abbrev abr (c:TT)(tb:TS):TS:=λD σ H=>∃W:Nat->St->Hp->Prop,(∃m,W m σ H)/\∀m σ H,W m σ H->
 c σ H λb H1=>if b=true then ∃N:St->Hp->Prop,(∀σ' H',N σ' H'->∃m',m' < m/\W m' σ' H')/\tb { D with nx:=N,ct:=N,bk:=D.nx } σ H1 else D.nx σ H1
def Cz {c:bv}{tc:TT}{tb:TS}(hp:WY (model X.prog X.w) X.A X.env X.xe)(hc:PT X c tc)(hb:Rt X body tb):PS X (.While c body [] pos) (abr tc tb):=by
 intro pins s σ H D I h;(revert h;refine Ϟ λW Τ turn=>?_;obtain ⟨m0,w0⟩:=Τ);refine wpAny_While (codeAny_whileLoop (λn s'=>∃σ' H',Inv X pins σ' H' s'/\W n σ' H') ?_ m0 (gl σ H I w0))
 rintro n s1 ⟨σ1,H1,I1,w1⟩
 refine JN hp (J2 (hc pins s1 σ1 H1 _ I1 (turn n σ1 H1 w1)) λb s2 zz=>ρ zz λH2 I2 q2=>?_);cases b with
 | true=>
  (revert q2;refine Ϟ λN hN q2=>?_);rw[δ rfl];refine JN hp (J2 (hb pins s2 σ1 H2 _ I2 q2) λf s3 q3=>?_);cases f with
  | next=>
   (revert q3;refine sK λσ3 H3 I3 n3=>?_);(refine ρ (hN σ3 H3 n3) λm' hm w3=>?_);exact(Κ m' hm (gl σ3 H3 I3 w3))
  | cont=>
   (revert q3;refine sK λσ3 H3 I3 n3=>?_);(refine ρ (hN σ3 H3 n3) λm' hm w3=>?_);exact(Κ m' hm (gl σ3 H3 I3 w3))
  | brk=>exact q3
  | ret v=>exact q3
 | false=>
  rw[Υ ϊ];exact Ku (gl σ1 H2 I2 q2)
end
set_option genInjectivity false in
structure It where
 go:Nat->Hp->Prop
 WD:Nat->Hp->V->Hp->Prop
 stop:Nat->Hp->Prop
abbrev K1 (X:Cx)(pins:List (Ε×Obj))(H:Hp)(b:Ε):Prop:=
 H b=none/\b≠X.env.locals/\b∉X.fs/\(b∈X.ex\/X.s₀.heap.objs.size<=b)/\(∀x c,X.env.cells.lookup x=some c->c≠b)/\∀p∈X.pn++pins,p.1≠b
def Inv.P' {X:Cx}{σ:St}{H H':Hp}{s:Ι}(I:Inv X pins σ H s)(hb:s.heap.objs.size<=b)(hn:H' b=none):K1 X pins H' b:=by
 refine⟨hn,xL (ϓ I.lt hb),I.ahA hb,.inr (ζ I.sz hb),λx c e z=>?_,λp hp z=>?_⟩
 ·obtain⟨v,q⟩:=I.cell x c e
  exact absurd (ϓ q.lt (by rw[z];exact hb)) (JD _)
 ·exact absurd (ϓ (γ (I.pin p hp).1) (by rw[z];exact hb)) (JD _)
structure Turn (P:Ϗ)(w:IH)(K:Ξ)(tg:bv)(J:It)(fp:List Ε)(it:Ε)(tn:Nat->ϟ->Prop)(c:Cx->Prop:=λX=>X.calm=true):Prop where
 mem:it∈fp
 obj:∀i h,tn i h->∀b∈fp,∃o,h.get? b=some o/\∀v,o.data≠.cell v
 keep:∀i h h',tn i h->(∀b∈fp,∀o,h.get? b=some o->h'.get? b=some o)->tn i h'
 item:∀(X:Cx),X.prog=P->X.w=w->X.K=K->c X->∀(i:Nat) (pins:List (Ε×Obj)) (s:Ι) (σ:St) (H:Hp) (E:Η->Ι->Prop),Inv X pins σ H s->(∀b∈fp,K1 X pins H b)->tn i s.heap->J.go i H->
  wpAny (model P w) X.A (pyNext (.ref it)) (λr s1=>∃u,r=some u/\
   wpAny (model P w) X.A (letOwnedTupleGo tg (.ref it) u) (λ_ s2=>∃x H',Inv X pins σ H' s2/\RelV x u/\J.WD i H x H'/\tn (i+1) s2.heap/\∀b∈fp,H' b=none) E s1) E s
 done:∀(X:Cx),X.prog=P->X.w=w->X.K=K->c X->∀(i:Nat) (pins:List (Ε×Obj)) (s:Ι) (σ:St) (H:Hp) (E:Η->Ι->Prop),Inv X pins σ H s->(∀b∈fp,K1 X pins H b)->tn i s.heap->J.stop i H->
  wpAny (model P w) X.A (pyNext (.ref it)) (λr s1=>r=none/\Inv X pins σ H s1) E s
 self:∀(A:K') (i:Nat) (s:Ι) (Q:Η->Ι->Prop) (E:Η->Ι->Prop),tn i s.heap->Q (.ref it) s->wpAny (model P w) A (pyIter (.ref it)) Q E s
noncomputable abbrev TI:=St->Hp->(It->Hp->Prop)->Prop
abbrev adQ (c:Cx->Prop)(X:Cx)(pins:List (Ε×Obj))(σ:St)(tg:bv)(R:It->Hp->Prop)(itv:Η)(s2:Ι):Prop:=
 ∃(it:Ε) (fp:List Ε) (tn:Nat->ϟ->Prop) (J:It) (H':Hp),itv=.ref it/\Inv X pins σ H' s2/\Turn X.prog X.w X.K tg J fp it tn c/\tn 0 s2.heap/\(∀b∈fp,K1 X pins H' b)/\R J H'
noncomputable abbrev PIE:=adQ λX=>X.calm=true
abbrev PIc (c:Cx->Prop)(X:Cx)(tg iter:bv)(wi:TI):Prop:=
 ∀(pins:List (Ε×Obj)) (s:Ι) (σ:St) (H:Hp) (R:It->Hp->Prop),Inv X pins σ H s->wi σ H R->
  wpAny (model X.prog X.w) X.A (eval iter X.env) (λv s1=>wpAny (model X.prog X.w) X.A (pyIter v) (adQ c X pins σ tg R) X.xe s1) X.xe s
noncomputable abbrev PI:=PIc λX=>X.calm=true
def vx {M:M7}{s:Ι}{it:Ε}{o:Obj}{n:String}{Q:Unit->Ι->Prop}(ho:s.heap.get? it=some o)(hc:o.cls=.type n)(hd:o.data=.fields vs)
  (hn:["enumerate","zip","dict_itemiterator","dict_reverseitemiterator","odict_iterator","itertools.zip_longest","itertools.pairwise"].contains n=false) (hQ:Q () s):wpAny M A (letOwnedTupleGo tg (.ref it) u) Q E s:=by
 unfold letOwnedTupleGo;cases tg<;>first
  | exact ν hQ
  | (cases u<;>first
    | exact ν hQ
    | (refine Β (wpAny_load ho ?_)
       rw[hc,hd];show wpAny M A (if (["enumerate","zip","dict_itemiterator","dict_reverseitemiterator","odict_iterator","itertools.zip_longest","itertools.pairwise"].contains n && vs[0]? == some (rawInt _))=true then _ else _) Q E s;rw[Υ (by intro h;rw[hn,wP] at h;cases h)]
       exact ν hQ))
abbrev HP (m:Option Η)(h:ϟ)(H:Hp)(l:List Ε)(ex:List Ε):Prop:=m=none\/∃eh o vs,m=some (.ref eh)/\h.get? eh=some o/\H eh=none/\eh∉l/\eh∉ex/\o.data=.fields vs/\vs[2]?=some .none
abbrev Cx.qt (X:Cx):Prop:=HP X.A.handled X.s₀.heap X.H₀ X.fs X.ex
def Inv.qt {X:Cx}{σ:St}{H:Hp}{s:Ι}(I:Inv X pins σ H s)(q:X.qt)(hf:∀b∈fp,K1 X pins H b):HP X.A.handled s.heap H (NP X.stack) fp:=by
 rcases q with q | ⟨eh,o,vs,h1,h2,h3,h4,h5,h6,h7⟩
 ·exact .inl q
 ·refine .inr (IN eh o vs h1 (I.base.keep eh o h2 h3 h4 h5) (I.base.free eh o h2 h3 h5) (λz=>?_) ⟨λhb=>?_,h6,h7⟩)
  ·rcases Θ.mp (I.P9 eh z) with r | r
   ·exact absurd (γ h2) (by rw[r];exact NI.mpr I.ok.above)
   ·exact h4 r
  ·rcases(hf eh hb).2.2.2.1 with z | z
   ·exact h5 z
   ·exact absurd (γ h2) (NI.mpr z)
def Turn.weak {P:Ϗ}{K:Ξ}{J:It}{it:Ε}{c c':Cx->Prop}(T:Turn P w K tg J fp it tn c)(h:∀X:Cx,X.Ok->c' X->c X):Turn P w K tg J fp it tn c':=
 ⟨T.mem,T.obj,T.keep,λX a b d e i pins s σ H E I=>T.item X a b d (h X I.ok e) i pins s σ H E I,λX a b d e i pins s σ H E I=>T.done X a b d (h X I.ok e) i pins s σ H E I,T.self⟩
open PySem.Calls in
def r6:entryFor table "proto.unchain"=some Lz.«proto.unchain»:=entryFor_of_tree (by kernel_rfl)
open PySem.Calls in
def uc {Q:α->Ι->Prop}{hp:ϟ}{g:Array M6}{d:Y0}{os:Xo}{eh:Ε}{oh:Obj}{vh ve:Array Η}
  (ha:A.handled=some (.ref eh)) (ne:eh≠ea) (gh:hp.get? eh=some oh) (dh:oh.data=.fields vh) (zh:vh[2]?=some .none)
  (ge:hp.get? ea=some oe) (de:oe.data=.fields ve) (le:2 < ve.size)
  (k:∀h' o',(∀b,b≠ea->h'.get? b=hp.get? b)->h'.get? ea=some o'->o'.cls=oe.cls->E (.ref ea) ⟨h',g,d,tk,os⟩) :
  wpAny (model prog w) A (raiseNew (.ref ea):Sem α) Q E ⟨hp,g,d,tk,os⟩:=by
 unfold raiseNew;refine Β (ag3 ?_);rw[ha];show wpAny _ _ (if (π eh != π ea)=true then _ else _) _ _ _;rw[δ (by simp[ne])];refine Β (ID (afM (Md r6 ?_)))
 show wpAny _ _ (do
  let context <-field (.ref eh) 2
  if context == .none then return <-ret .none
  if context == π ea then
   rule "raise.context-cycle-cut"
   setField (.ref eh) 2 .none
   return <-ret .none
  if context == π eh then rule "raise.context-old-cycle";return <-ret .none
  let ahO <-if false then field (.ref eh) 2 else pure (.ref eh)
  again (.builtin "proto.unchain" ⟨[.ref ea,context,ahO,.bool !false],[]⟩)) _ _ _
 refine Β (ϫ gh dh zh ?_);rw[δ (by rfl)];refine Β (ν (ν ?_));refine Β (J5 (s:=⟨hp,g,d,tk,os⟩) ge de le ?_);exact aut (k _ _ (λb nb=>re _ _ (ω nb)) (IU _ ge (KU (Js de _))) (Qo ..))
section
variable {s:Ι}
open PySem.Calls in
def CC {it l eh:Ε}{oh:Obj}{vh:Array Η}{Q:Option Η->Ι->Prop}(ha:A.handled=some (.ref eh))(gh:s.heap.get? eh=some oh)(dh:oh.data=.fields vh)(zh:vh[2]?=some .none)
  (hit:s.heap.IsListIter it l i) (hl:s.heap.IsList l items) (hx:items[i]?=none)
  (hQ:∀h',(∀b o,b≠it->s.heap.get? b=some o->h'.get? b=some o)->Q none { s with heap:=h' }):wpAny (model prog w) A (pyNext (.ref it)) Q E s:=by
 (refine ϭ (id hit) λo ho hc hd=>?_);(revert hl;refine G' λol Yb _=>Nc λnl VX=>?_);have ne:eh≠it:=by
  rintro rfl
  rw[ho] at gh;cases gh;rw[hd] at dh;cases dh;cases zh
 obtain⟨hp,g,d,tk,os⟩:=s;dsimp only at gh ho Yb hQ;unfold pyNext;refine Β (Kq (o0 (name:=Α "__next__") hit.typeIs aaj (IW aaj hit.typeIs entry_listiter_next ?_ (args_listiter_next _))));change wpAny _ _ (field (.ref it) 0 >>= _) _ _ _;refine Β (ϫ ho hd rfl ?_);change wpAny _ _ (field (.ref it) 1 >>= _) _ _ _;refine Β (ϫ ho hd rfl ?_);change wpAny _ _ (seqItems? (.ref l) >>= _) _ _ _;refine Β (ut Yb VX ?_);simp only[ϵ,hx];refine Β (OD (Β (J5 ho hd (by simp) ?_)));have kp:∀b,b≠it->(hp.update it (JE λx=>x.setIfInBounds 0 be)).get? b=hp.get? b:=λb nb=>re _ _ (ω nb);dsimp only;generalize hp.update it (JE λx=>x.setIfInBounds 0 be)=h1 at kp ⊢;have gh1:h1.get? eh=some oh:=(kp _ ne).trans gh;have lt1:=γ gh1;unfold XR newExc newTuple;refine Β (Β (JX ?_ (by size_fits)));refine Β (m:=firstArgMember _ _) (Y3 (a:=be) (by first | rfl | (simp only[firstArgMember];rfl)) ?_);refine JX ?_ (by size_fits);refine uc ha (ϐ (by rw[ϣ];exact KB lt1)) (Δ _ (Δ _ gh1)) dh zh (θ _ rfl) rfl (by simp;omega) λh' o' kk ge ce=>?_;refine Β (Ol (T:="StopIteration") (b:=true) (Κ _ ge ce) PU (ν (hQ _ λb o nb e=>?_)));have e1:=(kp b nb).trans e;have lb:=γ e1;rw[kk b (ϐ (by rw[ϣ];exact KB lb))];exact Δ _ (Δ _ e1)
def FR {H:Hp}{lf:List Ε}{it l:Ε}{Q:Option Η->Ι->Prop}(q:HP A.handled s.heap H lf ex)(hit:s.heap.IsListIter it l i)(hl:s.heap.IsList l items)(hx:items[i]?=none)
  (hQ:∀h',(∀b o,b≠it->s.heap.get? b=some o->h'.get? b=some o)->Q none { s with heap:=h' }):wpAny (model prog w) A (pyNext (.ref it)) Q E s:=by
 rcases q with q | ⟨eh,oh,vh,ha,gh,_,_,_,dh,zh⟩
 ·exact wpAny_pyNext_list_end q hit hl hx λh' eb=>hQ h' λb o nb e=>eb b o nb e
 ·exact CC ha gh dh zh hit hl hx hQ
end
abbrev U3 (K:Ξ)(a:Ε):It:=
 ⟨λi H=>∃xs x,GT K H a xs/\xs[i]?=some x,λi H x H'=>H'=H/\∀xs,GT K H a xs->xs[i]?=some x,λi H=>∃xs,GT K H a xs/\xs.length<=i⟩
abbrev Itt (K:Ξ)(a:Ε):It:=
 ⟨λi H=>∃xs x,JZ K H a xs/\xs[i]?=some x,λi H x H'=>H'=H/\∀xs,JZ K H a xs->xs[i]?=some x,λi H=>∃xs,JZ K H a xs/\xs.length<=i⟩
abbrev ZC (lo:Int)(n:Nat):It:=⟨λi _=>i < n,λi H x H'=>H'=H/\x=.int (lo+i),λi _=>n<=i⟩
def pV {P:Ϗ}{K:Ξ}(a it:Ε):Turn P w K tg (U3 K a) [it] it (λi h=>h.IsListIter it a i) Cx.qt where
 mem:=by simp
 obj:=λi h st b hb=>by
  have e:b=it:=by simpa using hb
  subst e;(revert st;refine G' λo e c d=>?_);exact(Κ o e (λv z=>by rw[d] at z;cases z))
 keep:=λi h h' st k=>st.at λo e=>k it (by simp) o e
 item:=by
  intro X hP hw hK hc i pins s σ H E I hf st hg;subst hP hw hK;(revert hg;refine sK λxs x hq hx=>?_);(refine ϭ (I.list hq) λits rv p hz=>?_);(refine ρ (rv.get hx) λu hu ru=>?_);(refine Q9 (hf it (by simp)) λf0 f1 f2 f3 f4 f5=>?_);refine wpAny_pyNext_list_item st p.isList (x:=u) (by simpa using hu) λh' UR sb=>?_;have I1:Inv X pins σ H { s with heap:=h' }:=I.turned (t':=s.toks) (λb o hb e=>(sb.2 b hb).trans e) f0 f1 f3 f4 f5;(refine ϭ (id UR) λo e c d=>?_);exact(Κ u rfl (vx (s:={ s with heap:=h' }) e c d (by decide) (Kz x H I1 ru ⟨rfl,λys hy=>by rw[I.jl hy hq];exact hx⟩ UR (λb hb=>(hf b hb).1))))
 done:=by
  intro X hP hw hK hc i pins s σ H E I hf st hg;subst hP hw hK;(revert hg;refine Ϟ λxs hq hx=>?_);(refine ϭ (I.list hq) λits rv p hz=>?_);(refine Q9 (hf it (by simp)) λf0 f1 f2 f3 f4 f5=>?_);have hl:=rv.length;exact FR (I.qt hc (fp:=[]) (λ_ z=>nomatch z)) st p.isList (by simp;omega) λh' eb=>⟨rfl,I.turned (t':=s.toks) (λb o hb e=>eb b o hb e) f0 f1 f3 f4 f5⟩
 self:=λ_ _ _ _ _ st h=>wpAny_pyIter_listiter st h
def Aq {P:Ϗ}{K:Ξ}(a it:Ε):Turn P w K tg (U3 K a) [it] it (λi h=>h.IsListIter it a i):=(pV a it).weak λ_ ok h=>.inl (ok.hd h)
def xK {P:Ϗ}{K:Ξ}(a it:Ε):Turn P w K tg (Itt K a) [it] it (λi h=>h.IsTupleIter it a i) where
 mem:=by simp
 obj:=λi h st b hb=>by
  have e:b=it:=by simpa using hb
  subst e;(revert st;refine G' λo e c d=>?_);exact(Κ o e (λv z=>by rw[d] at z;cases z))
 keep:=λi h h' st k=>st.at λo e=>k it (by simp) o e
 item:=by
  intro X hP hw hK hc i pins s σ H E I hf st hg;subst hP hw hK;(revert hg;refine sK λxs x hq hx=>?_);(refine ϭ (I.tuple hq) λits rv p hz=>?_);(refine ρ (rv.get hx) λu hu ru=>?_);(refine Q9 (hf it (by simp)) λf0 f1 f2 f3 f4 f5=>?_);refine wpAny_pyNext_tuple_item st (show s.heap.IsTuple a its.toArray from p) (x:=u) (by simpa using hu) λh' UR sb=>?_;have I1:Inv X pins σ H { s with heap:=h' }:=I.turned (t':=s.toks) (λb o hb e=>(sb.2 b hb).trans e) f0 f1 f3 f4 f5;(refine ϭ (id UR) λo e c d=>?_);exact(Κ u rfl (vx (s:={ s with heap:=h' }) e c d (by decide) (Kz x H I1 ru ⟨rfl,λys hy=>by rw[I.sN hy hq];exact hx⟩ UR (λb hb=>(hf b hb).1))))
 done:=by
  intro X hP hw hK hc i pins s σ H E I hf st hg;subst hP hw hK;(revert hg;refine Ϟ λxs hq hx=>?_);(refine ϭ (I.tuple hq) λits rv p hz=>?_);(refine Q9 (hf it (by simp)) λf0 f1 f2 f3 f4 f5=>?_);have hl:=rv.length;exact wpAny_pyNext_tuple_end (I.ok.hd hc) st (show s.heap.IsTuple a its.toArray from p) (by simp;omega) λh' eb=>⟨rfl,I.turned (t':=s.toks) (λb o hb e=>eb b o hb e) f0 f1 f3 f4 f5⟩
 self:=λ_ _ _ _ _ st h=>wpAny_pyIter_tupleiter st h
def xM {P:Ϗ}{K:Ξ}(it:Ε)(lo:Int)(n:Nat):Turn P w K tg (ZC lo n) [it] it (λi h=>Uh h it (lo+(i:Nat) * 1) ((n:Int) - (i:Nat)) 1) where
 mem:=by simp
 obj:=λi h st b hb=>by
  have e:b=it:=by simpa using hb
  subst e
  exact(Κ _ st (λv z=>by
   have z':acJ _=afN v:=z
   cases z'))
 keep:=λi h h' st k=>k it (by simp) _ st
 item:=by
  intro X hP hw hK hc i pins s σ H E I hf st hg;subst hP hw hK;(refine Q9 (hf it (by simp)) λf0 f1 f2 f3 f4 f5=>?_);have W:=aa8 (prog:=X.prog) (w:=X.w) (I.ok.hd hc) it lo 1 n;refine W.item i s _ _ hg st λv h' tk hv UR kk=>?_;obtain⟨t,rfl⟩:=hv;have I1:Inv X pins σ H { s with heap:=h',toks:=tk }:=I.turned (λb o hb e=>kk b o (by simpa using hb) e) f0 f1 f3 f4 f5;refine(Κ _ rfl (vx (s:={ s with heap:=h',toks:=tk }) (n:="range_iterator") UR rfl rfl (by decide) (Kz (.int (lo+i)) H I1 ⟨t,?_⟩ ⟨rfl,rfl⟩ UR (λb hb=>(hf b hb).1))));rw[Int.mul_one]
 done:=by
  intro X hP hw hK hc i pins s σ H E I hf st hg;subst hP hw hK;(refine Q9 (hf it (by simp)) λf0 f1 f2 f3 f4 f5=>?_);exact Xp (I.ok.hd hc) st (by have:n<=i:=hg;omega) λh' eb=>⟨rfl,I.turned (t':=s.toks) (λb o hb e=>eb b o hb e) f0 f1 f3 f4 f5⟩
 self:=λ_ _ _ _ _ st h=>Xq st h
section
variable {X:Cx} 
abbrev Yc (K:Ξ)(tl:TE):TI:=λσ H R=>tl σ H λx H1=>∃a,x=.ref a/\(∃xs,GT K H1 a xs)/\R (U3 K a) H1
def vy {l:bv}{tl:TE}(hl:PE X l tl):PIc Cx.qt X tg l (Yc X.K tl):=by
 intro pins s σ H R I h;refine IJ (hl pins s σ H _ I h) λv s1 x H1 I1 r1 q1=>?_;(revert q1;refine G' λa e Τ q=>?_;obtain ⟨xs,hq⟩:=Τ);subst e;cases r1;(refine ϭ (I1.list hq) λits rv p hz=>?_);refine Fk p.isList ?_;refine(Ov s1.heap.objs.size ([s1.heap.objs.size]) _ _ H1 rfl (I1.kept (t':=s1.toks) λb o e=>Δ _ e) (pV a _) (ύ _ (θ _ rfl) rfl rfl) (λb hb=>?_) q);have e:b=s1.heap.objs.size:=by simpa using hb
 subst e;exact I1.P' (Φ _) (I1.At.fresh (Φ _))
def vz {σ:St}{H:Hp}{s:Ι}{R:It->Hp->Prop}{lo:Int}{t u v:Tok}(I:Inv X pins σ H s)(h1:-(2 ^ 62)<=lo)(h2:lo < 2 ^ 62)(h3:-(2 ^ 62)<=hi)(h4:hi < 2 ^ 62)
  (q:R (ZC lo (hi - lo).toNat) H):wpAny (model X.prog X.w) X.A (pyIter (.ref s.heap.objs.size)) (PIE X pins σ tg R) E { s with heap:=s.heap.push { cls:=.type "range",data:=.fields #[.int lo t,.int hi u,.int 1 v] },toks:=tk }:=by
 refine aak (UK ..) (azY h1 h2 h3 h4) ?_;have I1:Inv X pins σ H { s with heap:=s.heap.push { cls:=.type "range",data:=.fields #[.int lo t,.int hi u,.int 1 v] },toks:=tk }:=I.kept λb o e=>Δ _ e
 refine(Ov ((s.heap.push { cls:=.type "range",data:=.fields #[.int lo t,.int hi u,.int 1 v] }).objs.size) ([(s.heap.push { cls:=.type "range",data:=.fields #[.int lo t,.int hi u,.int 1 v] }).objs.size]) _ _ H rfl 
  (I1.kept (t':=tk) λb o e=>Δ _ e) (xM _ lo (hi - lo).toNat) ?_ (λb hb=>?_) q)
 ·have e1:lo+((0:Nat):Int) * 1=lo:=by simp
  have e2:(((hi - lo).toNat:Nat):Int) - ((0:Nat):Int)=ac lo hi 1:=by rw[ag4];split<;>omega
  show Uh _ _ (lo+((0:Nat):Int) * 1) ((((hi - lo).toNat:Nat):Int) - ((0:Nat):Int)) 1;rw[e1,e2];exact θ _ rfl
 ·have e:b=(s.heap.push { cls:=.type "range",data:=.fields #[.int lo t,.int hi u,.int 1 v] }).objs.size:=by simpa using hb
  subst e;exact I1.P' (Φ _) (I1.At.fresh (Φ _))
abbrev adS (ta:TA):TI:=λσ H R=>ta σ H λvs H1=>∃j:Int,vs=[.int j]/\-(2 ^ 62)<=j/\j < 2 ^ 62/\R (ZC 0 j.toNat) H1
abbrev adT (ta:TA):TI:=λσ H R=>ta σ H λvs H1=>∃i j:Int,vs=[.int i,.int j]/\(-(2 ^ 62)<=i/\i < 2 ^ 62/\-(2 ^ 62)<=j/\j < 2 ^ 62)/\R (ZC i (j - i).toNat) H1
def jW {a:bv}{ta:TA}(hg:Gl X "range")(hm:X.mg "range"=none)(ha:PA X [a] ta)(hs:autoParam (starEach [a] X.env=[(false,eval a X.env)]) L2.Ϩ._auto_1):PI X tg (.Call (.Name "range" p) [a] [] pos) (adS ta):=by
 intro pins s σ H R I h;refine WZ (cZ I hg hm VO (ϯ (Ow (ha pos pins s σ H _ I h) λus s1 vs H1 I1 r1 q1=>?_) hs rfl));(revert q1;refine G' λj e q1=>Jb λq2 q=>?_);subst e;cases r1 with
 | cons r rr=>
  cases rr;obtain⟨t,rfl⟩:=r;exact call_range_1 (vz I1 (by omega) (by omega) q1 q2 (by simpa using q))
def Ar {a b:bv}{ta:TA}(hg:Gl X "range")(hm:X.mg "range"=none)(ha:PA X [a,b] ta)(hs:autoParam (starEach [a,b] X.env=[(false,eval a X.env),(false,eval b X.env)]) L2.Ϩ._auto_1)(U4:autoParam (starEach [b] X.env=[(false,eval b X.env)]) L2.Ϩ._auto_1) :
  PI X tg (.Call (.Name "range" p) [a,b] [] pos) (adT ta):=by
 intro pins s σ H R I h;refine WZ (cZ I hg hm VO (ϯ (Ow (ha pos pins s σ H _ I h) λus s1 vs H1 I1 r1 q1=>?_) (by rw[hs,U4]) (by rw[U4];rfl)));(revert q1;refine IY λi j e Τ q=>?_;obtain ⟨q1,q2,q3,q4⟩:=Τ);subst e;cases r1 with
 | cons r rr=>
  cases rr with
  | cons r' rr=>
   cases rr;obtain⟨t,rfl⟩:=r;obtain⟨t',rfl⟩:=r';exact ase (vz I1 q1 q2 q3 q4 q)
abbrev ZD (wi:TI)(g:TG)(tb:TS):TS:=λD σ H=>wi σ H λJ H1=>∃W:Nat->Nat->St->Hp->Prop,(∃m,W 0 m σ H1)/\∀i m σ H,W i m σ H->
 (J.stop i H/\D.nx σ H)\/(J.go i H/\∃N:St->Hp->Prop,(∀σ' H',N σ' H'->∃m',m' < m/\W (i+1) m' σ' H')/\∀x H',J.WD i H x H'->g x σ H' λσ2 H2=>tb { D with nx:=N,ct:=N,bk:=D.nx } σ2 H2)
abbrev RK (fp:List Ε)(h:ϟ):List (Ε×Obj):=fp.filterMap λb=>(h.get? b).map λo=>(b,o)
def iA {h:ϟ}{o:Obj}(hb:b∈fp)(e:h.get? b=some o):(b,o)∈RK fp h:=Pi.mpr (Κ b hb (by rw[e];rfl))
def As {h:ϟ}{p:Ε×Obj}(hp:p∈RK fp h):p.1∈fp/\h.get? p.1=some p.2:=by
 (refine ρ (Pi.mp hp) λb hb e=>?_);cases q:h.get? b with
 | none=>rw[q] at e;cases e
 | some o=>
  rw[q] at e;have e':(b,o)=p:=ϗ e;subst e';exact⟨hb,q⟩
def Inv.pinned {σ:St}{H:Hp}{s:Ι}(I:Inv X pins σ H s)(hf:∀b∈fp,K1 X pins H b)(ho:∀b∈fp,∃o,s.heap.get? b=some o/\∀v,o.data≠.cell v):Inv X (pins++RK fp s.heap) σ H s:=
 I.zq λp hp=>(ϑ.mp hp).elim (λz=>I.pin p (ι _ z)) λz=>by
  obtain⟨hb,e⟩:=As z;(refine W7 (hf p.1 hb) λf0 f1 f2 _=>?_);(refine ρ (ho p.1 hb) λo e' d=>?_);rw[e] at e';cases e';exact⟨e,f0,f1,f2,d⟩
def Inv.Pl {pl:List (Ε×Obj)}{σ:St}{H:Hp}{s:Ι}(I:Inv X (pins++pl) σ H s):Inv X pins σ H s:=I.zq λp hp=>I.pin p (ι _ (ώ _ hp))
def zu {c:Cx->Prop}{wi:TI}{g:TG}{tb:TS}(hp:WY (model X.prog X.w) X.A X.env X.xe)(hc:c X)(hi:PIc c X tg iter wi)(hg:PG X tg g)(hb:Rt X body tb)
  (hs:autoParam (∀x,foldedSetIterable iter X.env x=pure x) L2.S6._auto_1):PS X (.For tg iter body [] pos) (ZD wi g tb):=by
 intro pins s σ H D I h;refine wpAny_For (J2 (hi pins s σ H _ I h) λv s1 h1=>J2 h1 λitv s2 h2=>?_) hs;(revert h2;refine Ld λit fp tn J H2 e=>MD λI2 T Ze f2=>Ϟ λW Τ turn=>?_;obtain ⟨m0,w0⟩:=Τ);subst e;have V':∀{H':Hp},(∀b∈fp,H' b=none)->∀b∈fp,K1 X pins H' b:=λhn b hb=>⟨hn b hb,(f2 b hb).2⟩
 refine codeAny_forLoop_any (λn s'=>∃i σ' H',Inv X pins σ' H' s'/\tn i s'.heap/\(∀b∈fp,H' b=none)/\W i n σ' H') ?_ m0 (lc 0 σ H2 I2 Ze (λb hb=>(f2 b hb).1) w0)
 rintro n s3 ⟨i,σ3,H3,I3,st3,fr3,w3⟩
 rcases turn i n σ3 H3 w3 with⟨stop,qn⟩ | ⟨go,N,hN,step⟩
 ·refine JN hp (J2 (T.done X rfl rfl rfl hc i pins s3 σ3 H3 X.xe I3 (V' fr3) st3 stop) λr s4 zz=>MU zz λhr I4=>?_)
  subst hr;exact Ku (gl σ3 H3 I4 qn)
 ·refine JN hp (J2 (T.item X rfl rfl rfl hc i pins s3 σ3 H3 X.xe I3 (V' fr3) st3 go) λr s4 zz=>ρ zz λu hr h4=>?_)
  subst hr;refine JN hp (J2 h4 λ_ s5 zz=>Zy zz λx H5 I5 r5 y5 st5 fr5=>?_);have I5':=I5.pinned (V' fr5) (T.obj _ _ st5);refine JN hp (J2 (hg _ s5 σ3 H5 x u _ I5' r5 (step x H5 y5)) λ_ s6 zz=>RJ zz λσ6 H6 I6 q6=>?_);refine JN hp (J2 (hb _ s6 σ6 H6 _ I6 q6) λf s7 q7=>?_);have again:∀{σ7:St} {H7:Hp},Inv X (pins++RK fp s5.heap) σ7 H7 s7->N σ7 H7->∃m,m < n/\∃i σ' H',Inv X pins σ' H' s7/\tn i s7.heap/\(∀b∈fp,H' b=none)/\W i m σ' H':=λ{σ7 H7} I7 n7=>by
   (refine ρ (hN σ7 H7 n7) λm' hm w7=>?_);refine(Κ m' hm (lc (i+1) σ7 H7 I7.Pl (T.keep _ _ _ st5 λb hb o e=>(I7.pin (b,o) (ι _ (ι _ (iA hb e)))).1) (λb hb=>?_) w7));(refine ρ (T.obj _ _ st5 b hb) λo e d=>?_);exact(I7.pin (b,o) (ι _ (ι _ (iA hb e)))).2.1
  cases f with
  | next=>(revert q7;refine sK λσ7 H7 I7 n7=>?_);exact again I7 n7
  | cont=>(revert q7;refine sK λσ7 H7 I7 n7=>?_);exact again I7 n7
  | brk=>(revert q7;refine sK λσ7 H7 I7 q7=>?_);exact(gl σ7 H7 I7.Pl q7)
  | ret v=>(revert q7;refine Kx λx7 σ7 H7 I7 r7 q7=>?_);exact(NC x7 σ7 H7 I7.Pl r7 q7)
def cE {wi:TI}{g:TG}{tb:TS}(hp:WY (model X.prog X.w) X.A X.env X.xe)(hc:X.calm=true)(hi:PI X tg iter wi)(hg:PG X tg g)(hb:Rt X body tb)
  (hs:autoParam (∀x,foldedSetIterable iter X.env x=pure x) L2.S6._auto_1):PS X (.For tg iter body [] pos) (ZD wi g tb):=zu hp hc hi hg hb hs
end
def CF {K:Ξ}{xs:List V}{g:TG}{tb:TS}{D:Ends}{σ:St}{H:Hp}(Pv:Nat->St->Hp->Prop)(h0:Pv 0 σ H)(hl:∀i σ H,i<=xs.length->Pv i σ H->GT K H a xs)
  (hs:∀i x σ H,xs[i]?=some x->Pv i σ H->g x σ H λσ2 H2=>tb { D with nx:=Pv (i+1),ct:=Pv (i+1),bk:=D.nx } σ2 H2) (hd:∀σ H,Pv xs.length σ H->D.nx σ H) :
  ∃W:Nat->Nat->St->Hp->Prop,(∃m,W 0 m σ H)/\∀i m σ H,W i m σ H->
   ((U3 K a).stop i H/\D.nx σ H)\/((U3 K a).go i H/\∃N:St->Hp->Prop,(∀σ' H',N σ' H'->∃m',m' < m/\W (i+1) m' σ' H')/\∀x H',(U3 K a).WD i H x H'->g x σ H' λσ2 H2=>tb { D with nx:=N,ct:=N,bk:=D.nx } σ2 H2):=by
 refine(Κ (λi m σ H=>m=xs.length - i/\i<=xs.length/\Pv i σ H) (ύ xs.length (by simp) (Ϛ _) h0) ?_)
 rintro i m σ H ⟨rfl,hi,p⟩
 have q:=hl i σ H hi p
 by_cases KI:i < xs.length
 ·refine .inr ⟨(gl xs (xs[i]) q (by simp[KI])),(Κ (Pv (i+1)) (λσ' H' p'=>(Jw (xs.length - (i+1)) (by omega) rfl KI p')) (λx H' y=>?_))⟩
  obtain⟨e,y⟩:=y;subst e;exact hs i x σ _ (y xs q) p
 ·have e:i=xs.length:=by omega
  subst e;exact .inl ⟨(Κ xs q (Φ _)),hd σ H p⟩
def Au {lo:Int}{g:TG}{tb:TS}{D:Ends}{σ:St}{H:Hp}(Pv:Nat->St->Hp->Prop)(h0:Pv 0 σ H)
  (hs:∀i σ H,i < n->Pv i σ H->g (.int (lo+i)) σ H λσ2 H2=>tb { D with nx:=Pv (i+1),ct:=Pv (i+1),bk:=D.nx } σ2 H2) (hd:∀σ H,Pv n σ H->D.nx σ H) :
  ∃W:Nat->Nat->St->Hp->Prop,(∃m,W 0 m σ H)/\∀i m σ H,W i m σ H->
   ((ZC lo n).stop i H/\D.nx σ H)\/((ZC lo n).go i H/\∃N:St->Hp->Prop,(∀σ' H',N σ' H'->∃m',m' < m/\W (i+1) m' σ' H')/\∀x H',(ZC lo n).WD i H x H'->g x σ H' λσ2 H2=>tb { D with nx:=N,ct:=N,bk:=D.nx } σ2 H2):=by
 refine(Κ (λi m σ H=>m=n - i/\i<=n/\Pv i σ H) (ύ n (by simp) (Ϛ _) h0) ?_)
 rintro i m σ H ⟨rfl,hi,p⟩
 by_cases KI:i < n
 ·refine .inr ⟨KI,(Κ (Pv (i+1)) (λσ' H' p'=>(Jw (n - (i+1)) (by omega) rfl KI p')) (λx H' y=>?_))⟩
  obtain⟨e,y⟩:=y;subst e y;exact hs i σ _ KI p
 ·have e:i=n:=by omega
  subst e;exact .inl ⟨Φ _,hd σ H p⟩
noncomputable abbrev R2:=V->V->Hp->VK->Prop
abbrev J3 (X:Cx)(f:Η->Η->Sem Η)(r:R2):Prop:=
 ∀(pins:List (Ε×Obj)) (s:Ι) (σ:St) (H:Hp) (x y:V) (v u:Η) (Q:VK),Inv X pins σ H s->RelV x v->RelV y u->r x y H Q->
  wpAny (model X.prog X.w) X.A (f v u) (EP X pins σ Q) X.xe s
abbrev UnR (X:Cx)(f:Η->Sem Η)(r:V->Hp->VK->Prop):Prop:=
 ∀(pins:List (Ε×Obj)) (s:Ι) (σ:St) (H:Hp) (x:V) (v:Η) (Q:VK),Inv X pins σ H s->RelV x v->r x H Q->
  wpAny (model X.prog X.w) X.A (f v) (EP X pins σ Q) X.xe s
abbrev IP (X:Cx)(f:Η)(r:List V->Hp->VK->Prop):Prop:=
 ∀(pins:List (Ε×Obj)) (s:Ι) (σ:St) (H:Hp) (xs:List V) (us:List Η) (Q:VK),Inv X pins σ H s->Vals xs us->r xs H Q->
  wpAny (model X.prog X.w) X.A (call f us) (EP X pins σ Q) X.xe s
abbrev ahQ (X:Cx)(r:V->Hp->(Bool->Hp->Prop)->Prop):Prop:=
 ∀(pins:List (Ε×Obj)) (s:Ι) (σ:St) (H:Hp) (x:V) (v:Η) (Q:Bool->Hp->Prop),Inv X pins σ H s->RelV x v->r x H Q->
  wpAny (model X.prog X.w) X.A (truthy v) (TP X pins σ Q) X.xe s
abbrev tOp (r:R2)(ta tb:TE):TE:=λσ H Q=>ta σ H λx H1=>tb σ H1 λy H2=>r x y H2 Q
abbrev tUn (r:V->Hp->VK->Prop)(ta:TE):TE:=λσ H Q=>ta σ H λx H1=>r x H1 Q
abbrev rI (C:Int->Int->Prop)(g:Int->Int->V):R2:=λx y H Q=>∃i j,x=.int i/\y=.int j/\C i j/\Q (g i j) H
abbrev Qw (g:Int->Int->V):R2:=λx y H Q=>∃i j,x=.int i/\y=.int j/\Q (g i j) H
abbrev rU (g:Int->V):V->Hp->VK->Prop:=λx H Q=>∃i,x=.int i/\Q (g i) H
section
variable {X:Cx} {a b c:bv} {ta tb tc:TE} 
def ZE (ha:PE X a ta)(hb:PE X b tb){s:Ι}{σ:St}{H:Hp}{R:V->V->Hp->Prop}(I:Inv X pins σ H s)
  (h:ta σ H λx H1=>tb σ H1 λy H2=>R x y H2) {Q:Η->Ι->Prop} {f:Η->Η->Sem Η}
  (hf:∀v u s2 x y H2,Inv X pins σ H2 s2->RelV x v->RelV y u->R x y H2->wpAny (model X.prog X.w) X.A (f v u) Q X.xe s2) :
  wpAny (model X.prog X.w) X.A (eval a X.env) (λv s₁=>wpAny (model X.prog X.w) X.A (eval b X.env) (λu s₂=>wpAny (model X.prog X.w) X.A (f v u) Q X.xe s₂) X.xe s₁) X.xe s:=by
 refine IJ (ha pins s σ H _ I h) λv s1 x H1 I1 r1 q1=>?_;refine IJ (hb pins s1 σ H1 _ I1 q1) λu s2 y H2 I2 r2 q2=>?_;exact hf v u s2 x y H2 I2 r1 r2 q2
def aC {op:Y2}{r:R2}(ho:J3 X (binaryOp op) r)(ha:PE X a ta)(hb:PE X b tb):PE X (.BinOp a op b pos) (tOp r ta tb):=by
 intro pins s σ H Q I h;exact auu (ZE ha hb I h λv u s2 x y H2 I2 rx ry q=>ho pins s2 σ H2 x y v u Q I2 rx ry q)
def zw {op:UnaryOp}{r:V->Hp->VK->Prop}(ho:UnR X (unaryOp op) r)(ha:PE X a ta):PE X (.UnaryOp op a pos) (tUn r ta):=by
 intro pins s σ H Q I h;exact UnaryOp_ (IJ (ha pins s σ H _ I h) λv s1 x H1 I1 r1 q1=>ho pins s1 σ H1 x v Q I1 r1 q1)
def opI {f:Η->Η->Sem Η}{C:Int->Int->Prop}{g:Int->Int->Int}
  (rule:∀(i j:Int) (t u:Tok) (s:Ι) (Q:Η->Ι->Prop) (E:Η->Ι->Prop),C i j->Q (.int (g i j) s.toks) { s with toks:=s.toks+1 }->wpAny (model X.prog X.w) X.A (f (.int i t) (.int j u)) Q E s) :
  J3 X f (rI C λi j=>.int (g i j)):=by
 intro pins s σ H x y v u Q I rx ry h;(revert h;refine NB λi j Τ IK hc q=>?_;subst Τ;subst IK);obtain⟨t,rfl⟩:=rx;obtain⟨t',rfl⟩:=ry;exact rule i j t t' s _ _ hc (ϒ (.int (g i j)) H (I.tok _) ⟨_,rfl⟩ q)
def W8 {f:Η->Η->Sem Η}{g:Int->Int->Int}
  (rule:∀(i j:Int) (t u:Tok) (s:Ι) (Q:Η->Ι->Prop) (E:Η->Ι->Prop),Q (.int (g i j) s.toks) { s with toks:=s.toks+1 }->wpAny (model X.prog X.w) X.A (f (.int i t) (.int j u)) Q E s) :
  J3 X f (Qw λi j=>.int (g i j)):=by
 intro pins s σ H x y v u Q I rx ry h;(revert h;refine IY λi j Τ IK q=>?_;subst Τ;subst IK);obtain⟨t,rfl⟩:=rx;obtain⟨t',rfl⟩:=ry;exact rule i j t t' s _ _ (ϒ (.int (g i j)) H (I.tok _) ⟨_,rfl⟩ q)
def ZF {f:Η->Η->Sem Η}{g:Int->Int->Bool}
  (rule:∀(i j:Int) (t u:Tok) (s:Ι) (Q:Η->Ι->Prop) (E:Η->Ι->Prop),Q (.bool (g i j)) s->wpAny (model X.prog X.w) X.A (f (.int i t) (.int j u)) Q E s) :
  J3 X f (Qw λi j=>.bl (g i j)):=by
 intro pins s σ H x y v u Q I rx ry h;(revert h;refine IY λi j Τ IK q=>?_;subst Τ;subst IK);obtain⟨t,rfl⟩:=rx;obtain⟨t',rfl⟩:=ry;exact rule i j t t' s _ _ (ϒ (.bl (g i j)) H I rfl q)
abbrev ahR (i j:Int):Prop:=0 < j/\j < 1073741824
abbrev ahS (i j:Int):Prop:=0<=j/\j<=1000000/\i.natAbs < 2 ^ 64
abbrev Yd (i j:Int):Prop:=(-(2 ^ 64) < i/\i < 2 ^ 64)\/(-(2 ^ 64) < j/\j < 2 ^ 64)
def Yd.ok {i j:Int}(h:Yd i j):IntMulOk i j:=by
 rcases h with⟨h1,h2⟩ | ⟨h1,h2⟩
 ·exact .of_left (ag5 h1 h2)
 ·exact .of_right (ag5 h1 h2)
def xN (k:Nat):(0:Int)<=2 ^ k:=by
 rw[two_pow_cast];exact Xr _
def FU:J3 X (binaryOp .Add) (Qw λi j=>.int (i+j)):=W8 λ_ _ _ _ _ _ _ q=>add_int q
def xO:J3 X (binaryOp .Sub) (Qw λi j=>.int (i - j)):=W8 λ_ _ _ _ _ _ _ q=>sub_int q
def FV:J3 X (binaryOp .Mult) (rI Yd λi j=>.int (i * j)):=opI λ_ _ _ _ _ _ _ hc q=>mul_int q hc.ok
def zx:J3 X (binaryOp .FloorDiv) (rI ahR λi j=>.int (i / j)):=opI λi j _ _ _ _ _ hc q=>by
 have h1:(0:Int) < j:=hc.1;have h2:j < 1073741824:=hc.2;exact floordiv_int (by omega) (by rw[Th i (by omega)];exact q) (.inl (Ti (by omega)))
def bV:J3 X (binaryOp .Mod) (rI (λ_ j=>0 < j) λi j=>.int (i % j)):=opI λi j _ _ _ _ _ hc q=>by
 have h1:(0:Int) < j:=hc;exact mod_int' (by omega) (by rw[Int.fmod_eq_emod_of_nonneg i (by omega)];exact q)
def FW:J3 X (binaryOp .LShift) (rI ahS λi j=>.int (i * 2 ^ j.toNat)):=opI λ_ _ _ _ _ _ _ hc q=>lshift_int_small hc.1 hc.2.1 hc.2.2 q
def CG:J3 X (binaryOp .RShift) (rI (λ_ j=>0<=j) λi j=>.int (i / 2 ^ j.toNat)):=opI λi j _ _ _ _ _ hc q=>
 rshift_int hc (by rw[Th i (xN _)];exact q)
def CH:J3 X (binaryOp .BitAnd) (Qw λi j=>.int (Rn i j)):=W8 λ_ _ _ _ _ _ _ q=>and_int q
def Hk:J3 X (binaryOp .BitOr) (Qw λi j=>.int (ay3 i j)):=W8 λ_ _ _ _ _ _ _ q=>or_int q
def xP:J3 X (binaryOp .BitXor) (Qw λi j=>.int (Xs i j)):=W8 λ_ _ _ _ _ _ _ q=>xor_int q
def Eh:J3 X (inplaceOp .Add) (Qw λi j=>.int (i+j)):=W8 λ_ _ _ _ _ _ _ q=>iadd_int q
def unI {f:Η->Sem Η}{g:Int->Int}
  (rule:∀(i:Int) (t:Tok) (s:Ι) (Q:Η->Ι->Prop) (E:Η->Ι->Prop),Q (.int (g i) s.toks) { s with toks:=s.toks+1 }->wpAny (model X.prog X.w) X.A (f (.int i t)) Q E s) :
  UnR X f (rU λi=>.int (g i)):=by
 intro pins s σ H x v Q I rx h;(revert h;refine Ϟ λi Τ q=>?_;subst Τ);obtain⟨t,rfl⟩:=rx;exact rule i t s _ _ (ϒ (.int (g i)) H (I.tok _) ⟨_,rfl⟩ q)
def ud:UnR X (unaryOp .USub) (rU λi=>.int (-i)):=unI λ_ _ _ _ _ q=>neg_int q
end
abbrev W9:V->V->Bool
 | .cr,.cr=>true | .cr,.int _=>true | .int _,.cr=>true | .cr,.bl _=>true | .bl _,.cr=>true | .cr,.str _=>true | .str _,.cr=>true
 | .int _,.int _=>true | .bl _,.bl _=>true | .str _,.str _=>true | .VW _,.VW _=>true
 | .int _,.str _=>true | .str _,.int _=>true | .bl _,.str _=>true | .str _,.bl _=>true
 | _,_=>false
abbrev rEq:R2:=λx y H Q=>W9 x y=true/\Q (.bl (decide (x=y))) H
abbrev rNe:R2:=λx y H Q=>W9 x y=true/\Q (.bl (!decide (x=y))) H
def zy {i j:Int}:decide (V.int i=V.int j)=(i == j):=by
 rw[Ln];simp
def CI {i j:Bool}:decide (V.bl i=V.bl j)=(i == j):=by
 rw[Ln];simp
def zA {i j:Str}:decide (V.str i=V.str j)=(i == j):=by
 rw[Ln];simp
def zB {i j:Array UInt8}:decide (V.VW i=V.VW j)=(i.toList == j.toList):=by
 rw[Ln];cases i;cases j;simp
section
variable {X:Cx} {a b c:bv} {ta tb tc:TE} 
def aY {σ:St}{H:Hp}{s:Ι}{Q:VK}{k k':Bool}(I:Inv X pins σ H s)(q:Q (.bl k) H)(e:k=k'):EP X pins σ Q (.bool k') s:=by
 subst e;exact(ϒ (.bl k) H I rfl q)
def Hl:J3 X (compareOp .Eq) rEq:=by
 intro pins s σ H x y v u Q I rx ry h;obtain⟨hs,q⟩:=h;cases x with
 | cr=>
  cases rx;cases y with
  | cr=>cases ry;exact PySem.EqNone.eq_none_none (aY I q (by simp))
  | bl j=>cases ry;exact PySem.EqNone.eq_none_bool (aY I q (by simp))
  | int j=>obtain⟨t',rfl⟩:=ry;exact PySem.EqNone.eq_none_int (aY I q (by simp))
  | str j=>obtain⟨t',rfl⟩:=ry;exact PySem.EqNone.eq_none_str (aY I q (by simp))
  | _=>exact absurd (show false=true from hs) ϊ
 | bl i=>
  cases rx;cases y with
  | cr=>cases ry;exact PySem.EqNone.eq_bool_none (aY I q (by simp))
  | bl j=>cases ry;exact eq_bool (aY I q CI)
  | str j=>obtain⟨t',rfl⟩:=ry;exact PySem.EqMixed.eq_bool_str (aY I q (by simp))
  | _=>exact absurd (show false=true from hs) ϊ
 | int i=>
  obtain⟨t,rfl⟩:=rx;cases y with
  | cr=>cases ry;exact PySem.EqNone.eq_int_none (aY I q (by simp))
  | int j=>obtain⟨t',rfl⟩:=ry;exact eq_int (aY I q zy)
  | str j=>obtain⟨t',rfl⟩:=ry;exact PySem.EqMixed.eq_int_str (aY I q (by simp))
  | _=>exact absurd (show false=true from hs) ϊ
 | str i=>
  obtain⟨t,rfl⟩:=rx;cases y with
  | cr=>cases ry;exact PySem.EqNone.eq_str_none (aY I q (by simp))
  | bl j=>cases ry;exact PySem.EqMixed.eq_str_bool (aY I q (by simp))
  | int j=>obtain⟨t',rfl⟩:=ry;exact PySem.EqMixed.eq_str_int (aY I q (by simp))
  | str j=>obtain⟨t',rfl⟩:=ry;exact eq_str (aY I q zA)
  | _=>exact absurd (show false=true from hs) ϊ
 | VW i=>
  obtain⟨t,rfl⟩:=rx;cases y with
  | VW j=>obtain⟨t',rfl⟩:=ry;exact W.eq_bytes (aY I q zB)
  | _=>exact absurd (show false=true from hs) ϊ
 | _=>cases y<;>exact absurd (show false=true from hs) ϊ
def Hm:J3 X (compareOp .NotEq) rNe:=by
 intro pins s σ H x y v u Q I rx ry h;obtain⟨hs,q⟩:=h;cases x with
 | cr=>
  cases rx;cases y with
  | cr=>cases ry;exact PySem.EqNone.ne_none_none (aY I q (by simp))
  | bl j=>cases ry;exact PySem.EqNone.ne_none_bool (aY I q (by simp))
  | int j=>obtain⟨t',rfl⟩:=ry;exact PySem.EqNone.ne_none_int (aY I q (by simp))
  | str j=>obtain⟨t',rfl⟩:=ry;exact PySem.EqNone.ne_none_str (aY I q (by simp))
  | _=>exact absurd (show false=true from hs) ϊ
 | bl i=>
  cases rx;cases y with
  | cr=>cases ry;exact PySem.EqNone.ne_bool_none (aY I q (by simp))
  | bl j=>cases ry;exact ne_bool (aY I q (congrArg not CI))
  | str j=>obtain⟨t',rfl⟩:=ry;exact PySem.EqMixed.ne_bool_str (aY I q (by simp))
  | _=>exact absurd (show false=true from hs) ϊ
 | int i=>
  obtain⟨t,rfl⟩:=rx;cases y with
  | cr=>cases ry;exact PySem.EqNone.ne_int_none (aY I q (by simp))
  | int j=>obtain⟨t',rfl⟩:=ry;exact ne_int (aY I q (congrArg not zy))
  | str j=>obtain⟨t',rfl⟩:=ry;exact PySem.EqMixed.ne_int_str (aY I q (by simp))
  | _=>exact absurd (show false=true from hs) ϊ
 | str i=>
  obtain⟨t,rfl⟩:=rx;cases y with
  | cr=>cases ry;exact PySem.EqNone.ne_str_none (aY I q (by simp))
  | bl j=>cases ry;exact PySem.EqMixed.ne_str_bool (aY I q (by simp))
  | int j=>obtain⟨t',rfl⟩:=ry;exact PySem.EqMixed.ne_str_int (aY I q (by simp))
  | str j=>obtain⟨t',rfl⟩:=ry;exact ne_str (aY I q (congrArg not zA))
  | _=>exact absurd (show false=true from hs) ϊ
 | VW i=>
  obtain⟨t,rfl⟩:=rx;cases y with
  | VW j=>obtain⟨t',rfl⟩:=ry;exact W.ne_bytes (aY I q (congrArg not zB))
  | _=>exact absurd (show false=true from hs) ϊ
 | _=>cases y<;>exact absurd (show false=true from hs) ϊ
def Hn:J3 X (compareOp .Lt) (Qw λi j=>.bl (decide (i < j))):=ZF λ_ _ _ _ _ _ _ q=>lt_int q
def Ho:J3 X (compareOp .LtE) (Qw λi j=>.bl (decide (i<=j))):=ZF λ_ _ _ _ _ _ _ q=>le_int q
def Hq:J3 X (compareOp .Gt) (Qw λi j=>.bl (decide (j < i))):=ZF λ_ _ _ _ _ _ _ q=>gt_int q
def Hr:J3 X (compareOp .GtE) (Qw λi j=>.bl (decide (j<=i))):=ZF λ_ _ _ _ _ _ _ q=>ge_int q
def Av:J3 X (compareOp .In) (λx y H Q=>∃i j,x=.str i/\y=.str j/\Q (.bl (!(LP j i 0 j.length 1).isEmpty)) H):=by
 intro pins s σ H x y v u Q I rx ry h;(revert h;refine IY λi j Τ IK q=>?_;subst Τ;subst IK);obtain⟨t,rfl⟩:=rx;obtain⟨t',rfl⟩:=ry;exact in_str (aY I q rfl)
def J3.or {f:Η->Η->Sem Η}{r r':R2}(h:J3 X f r)(h':J3 X f r'):J3 X f (λx y H Q=>r x y H Q\/r' x y H Q):=by
 intro pins s σ H x y v u Q I rx ry q;rcases q with q | q
 ·exact h pins s σ H x y v u Q I rx ry q
 ·exact h' pins s σ H x y v u Q I rx ry q
def ϸ (b:bv)(h:autoParam (op≠.In) L2.Kh._auto_1)(h2:autoParam (op≠.NotIn) L2.Kh._auto_1):behindInMarks op b=false:=by
 have e1:(op == afL)=false:=by cases op<;>first | rfl | exact absurd rfl h
 have e2:(op == aa7)=false:=by cases op<;>first | rfl | exact absurd rfl h2
 cases b<;>simp[behindInMarks,e1,e2]
def iB {r:R2}(ho:J3 X (compareOp op) r)(ha:PE X a ta)(hb:PE X b tb)(hm:behindInMarks op b=false):PE X (.Compare a [op] [b] pos) (tOp r ta tb):=by
 intro pins s σ H Q I h;exact wpAny_Compare1 (ZE ha hb I h λv u s2 x y H2 I2 rx ry q=>ho pins s2 σ H2 x y v u Q I2 rx ry q) hm
abbrev Ye (t:TE):TT:=λσ H Q=>t σ H λx H'=>onB x λk=>Q k H'
def aF {r:R2}(ho:J3 X (compareOp op) r)(ha:PE X a ta)(hb:PE X b tb)(hm:behindInMarks op b=false):PT X (.Compare a [op] [b] pos) (Ye (tOp r ta tb)):=by
 intro pins s σ H Q I h
 refine Pg (IJ (ha pins s σ H _ I h) λv s1 x H1 I1 r1 q1=>IJ (hb pins s1 σ H1 _ I1 q1) λu s2 y H2 I2 r2 q2=>
  IJ (ho pins s2 σ H2 x y v u _ I2 r1 r2 q2) λc s3 z H3 I3 r3 q0=>?_) hm
 (refine ρ (pT q0) λk e q3=>?_);subst e;cases r3;exact wS (Κ H3 I3 q3)
abbrev Wa (r r':R2)(ta tb tc:TE):TE:=λσ H Q=>ta σ H λx H1=>tb σ H1 λy H2=>r x y H2 λz H3=>onB z λk=>
 (if k=true then tc σ H3 λw' H4=>r' y w' H4 Q else Q (.bl false) H3)
def pW {op':aur}{r r':R2}(ho:J3 X (compareOp op) r)(V9:J3 X (compareOp op') r')(ha:PE X a ta)(hb:PE X b tb)(hc:PE X c tc)
  (hm:autoParam (lastMarks [op,op'] [b,c]=false) L2.adB._auto_1):PE X (.Compare a [op,op'] [b,c] pos) (Wa r r' ta tb tc):=by
 intro pins s σ H Q I h
 refine Compare_chain (IJ (ha pins s σ H _ I h) λv s1 x H1 I1 r1 q1=>chain_link (IJ (hb pins s1 σ H1 _ I1 q1) λu s2 y H2 I2 r2 q2=>
  IJ (ho pins s2 σ H2 x y v u _ I2 r1 r2 q2) λd s3 z H3 I3 r3 q0=>?_)) hm
 (refine ρ (pT q0) λk e q3=>?_);subst e;cases r3;refine wS ?_;cases k with
 | false=>exact ite_ff (ϒ (.bl false) H3 I3 rfl q3)
 | true=>exact ite_tt (chain_last (IJ (hc pins s3 σ H3 _ I3 q3) λw' s4 z' H4 I4 r4 q4=>V9 pins s4 σ H4 y z' u w' Q I4 r2 r4 q4))
def pX {op':aur}{r r':R2}(ho:J3 X (compareOp op) r)(V9:J3 X (compareOp op') r')(ha:PE X a ta)(hb:PE X b tb)(hc:PE X c tc)
  (hm:autoParam (lastMarks [op,op'] [b,c]=false) L2.adB._auto_1):PT X (.Compare a [op,op'] [b,c] pos) (Ye (Wa r r' ta tb tc)):=by
 intro pins s σ H Q I h
 refine isTrue_chain (IJ (ha pins s σ H _ I h) λv s1 x H1 I1 r1 q1=>test_link (IJ (hb pins s1 σ H1 _ I1 q1) λu s2 y H2 I2 r2 q2=>
  IJ (ho pins s2 σ H2 x y v u _ I2 r1 r2 q2) λd s3 z H3 I3 r3 q0=>?_)) hm
 (refine ρ (pT q0) λk e q3=>?_);subst e;cases r3;refine wS ?_;cases k with
 | false=>
  (refine ρ (pT (x:=.bl false) (R:=λk=>Q k H3) q3) λk' e' q'=>?_);cases e';exact ite_ff (Κ H3 I3 q')
 | true=>
  refine ite_tt (test_last (IJ (hc pins s3 σ H3 _ I3 q3) λw' s4 z' H4 I4 r4 q4=>IJ (V9 pins s4 σ H4 y z' u w' _ I4 r2 r4 q4) λd' s5 z2 H5 I5 r5 q0=>?_));(refine ρ (pT q0) λk2 e2 q5=>?_);subst e2;cases r5;exact wS (Κ H5 I5 q5)
abbrev W' (K:Ξ)(x:V)(H:Hp)(k:Bool):Prop:=
 match x with
 | .cr=>k=false
 | .bl b=>k=b
 | .int i=>k=(i != 0)
 | .str y=>y.length<=sizeLine/\k=((y.length:Int) != 0)
 | .VW y=>y.size<=sizeLine/\k=((y.size:Int) != 0)
 | .ref p=>(∃xs,GT K H p xs/\k=!xs.isEmpty)\/(∃xs,JZ K H p xs/\k=!xs.isEmpty)\/∃ϔ,H p=some (.dK ϔ)/\k=!ϔ.isEmpty
 | _=>False
def xQ {ϔ:List (κ×V)}{vs:List (κ×Η)}(r:KV ϔ vs):(!vs.isEmpty)=!ϔ.isEmpty:=by
 cases r<;>rfl
def pY {xs:List V}(r:Vals xs its):(!its.toArray.isEmpty)=!xs.isEmpty:=by
 cases r<;>simp
def O6:(sizeLine:Nat) < 2 ^ 63:=by rw[KH];decide
def FX:ahQ X (λx H Q=>∃k,W' X.K x H k/\Q k H):=by
 intro pins s σ H x v Q I rx h;(revert h;refine Ϟ λk e q=>?_);have hl:=O6;have hs:sizeLine=16777216:=KH;cases x with
 | cr=>
  cases rx;have e':k=false:=e;subst e';exact truthy_none (Κ H I q)
 | bl b=>
  cases rx;have e':k=b:=e;subst e';exact wS (Κ H I q)
 | int i=>
  obtain⟨t,rfl⟩:=rx;have e':k=(i != 0):=e;subst e';exact PySem.P.truthy_int (Κ H I q)
 | str y=>
  obtain⟨t,rfl⟩:=rx;obtain⟨hy,e'⟩:y.length<=sizeLine/\k=((y.length:Int) != 0):=e;subst e';exact PySem.P.truthy_str (by omega) (Κ H (I.tok _) q)
 | VW y=>
  obtain⟨t,rfl⟩:=rx;obtain⟨hy,e'⟩:y.size<=sizeLine/\k=((y.size:Int) != 0):=e;subst e';exact W.truthy_bytes (by omega) (Κ H (I.tok _) q)
 | ref p=>
  cases rx;have e':(∃xs,GT X.K H p xs/\k=!xs.isEmpty)\/(∃xs,JZ X.K H p xs/\k=!xs.isEmpty)\/∃ϔ,H p=some (.dK ϔ)/\k=!ϔ.isEmpty:=e;rcases e' with⟨xs,hx,e'⟩ | ⟨xs,hx,e'⟩ | ⟨ϔ,hx,e'⟩
  ·subst e'
   (refine ϭ (I.list hx) λits r pl hz=>?_);have hlen:=r.length;exact wpAny_truthy_list pl.isList (by simp only[ϋ];omega) (Κ H (I.tok _) (by rw[pY r];exact q))
  ·subst e'
   (refine ϭ (I.tuple hx) λits r pl hz=>?_);have hlen:=r.length;exact truthy_tuple pl (by simp only[ϋ];omega) (Κ H (I.tok _) (by rw[pY r];exact q))
  ·subst e'
   obtain⟨hz,hS,vs,r,m⟩:ϔ.length<=sizeLine/\(p == sysModules)=false/\∃vs,KV ϔ vs/\s.heap.DictOf (A' X.prog X.w) p vs:=I.At p _ hx;have hlen:ϔ.length=vs.length:=Paired.length r;exact wpAny_truthy_dict hS m (by omega) (Κ H (I.tok _) (by rw[xQ r];exact q))
 | _=>exact(show False from e).elim
def CJ (ha:PE X a ta)(he:∀whole,isTrue a X.env whole=(do let v <-whole;standAt a.pos;holding [v] (truthy v))) :
  PT X a (λσ H Q=>ta σ H λx H'=>∃k,W' X.K x H' k/\Q k H'):=by
 intro pins s σ H Q I h;exact isTrue_plain (IJ (ha pins s σ H _ I h) λv s1 x H1 I1 r1 q1=>FX pins s1 σ H1 x v Q I1 r1 q1) (he _)
def xR:J3 X (binaryOp .Add) (λx y H Q=>∃i j,x=.str i/\y=.str j/\i.length+j.length<=sizeLine/\Q (.str (i++j)) H):=by
 intro pins s σ H x y v u Q I rx ry h;(revert h;refine NB λi j Τ IK hz q=>?_;subst Τ;subst IK);obtain⟨t,rfl⟩:=rx;obtain⟨t',rfl⟩:=ry;exact add_str (λt' tk=>(ϒ (.str (i++j)) H (I.tok _) ⟨_,rfl⟩ q)) hz
def vals1 {x:V}{us:List Η}(r:Vals [x] us):∃u,us=[u]/\RelV x u:=by
 cases r with
 | cons r1 r2=>cases r2;exact(Κ _ rfl r1)
def vals2 {x y:V}{us:List Η}(r:Vals [x,y] us):∃u w',us=[u,w']/\RelV x u/\RelV y w':=by
 cases r with
 | cons r1 r2=>
  cases r2 with
  | cons r3 r4=>cases r4;exact(ϒ _ _ rfl r1 r3)
def Aw (hc:X.calm=true):IP X (.builtin "max") (λxs H Q=>∃i j,xs=[.int i,.int j]/\Q (.int (if j > i then j else i)) H):=by
 intro pins s σ H xs us Q I r h;(revert h;refine sK λi j Τ q=>?_;subst Τ);(refine KA (vals2 r) λu w' Τ IK zz3=>?_;subst Τ;obtain ⟨t,rfl⟩:=IK;obtain ⟨t',rfl⟩:=zz3);refine max_two_ints (I.ok.hd hc) λh' tk k=>(ϒ _ H (I.kept k) ?_ q)
 by_cases hj:j > i
 ·rw[δ hj,δ hj];exact⟨_,rfl⟩
 ·rw[Υ hj,Υ hj];exact⟨_,rfl⟩
def Ax (hc:X.calm=true):IP X (.builtin "min") (λxs H Q=>∃i j,xs=[.int i,.int j]/\Q (.int (if j < i then j else i)) H):=by
 intro pins s σ H xs us Q I r h;(revert h;refine sK λi j Τ q=>?_;subst Τ);(refine KA (vals2 r) λu w' Τ IK zz3=>?_;subst Τ;obtain ⟨t,rfl⟩:=IK;obtain ⟨t',rfl⟩:=zz3);refine min_two_ints (I.ok.hd hc) λh' tk k=>(ϒ _ H (I.kept k) ?_ q)
 by_cases hj:j < i
 ·rw[δ hj,δ hj];exact⟨_,rfl⟩
 ·rw[Υ hj,Υ hj];exact⟨_,rfl⟩
def ue:IP X (.type "str") (λxs H Q=>∃i,xs=[.int i]/\i.natAbs.log2 < 1920/\Q (.str (toString i)) H):=by
 intro pins s σ H xs us Q I r h;(revert h;refine G' λi Τ hz q=>?_;subst Τ);(refine ρ (vals1 r) λu Τ=>Nc λt IK=>?_;subst Τ;subst IK);exact PySem.P.str_of_int hz (ϒ (.str _) H (I.tok _) ⟨_,rfl⟩ q)
def CL:IP X (.builtin "ord") (λxs H Q=>∃x,xs=[.str x]/\x.length=1/\Q (.int (x.cps.getD 0 0:Nat)) H):=by
 intro pins s σ H xs us Q I r h;(revert h;refine G' λx Τ hz q=>?_;subst Τ);(refine ρ (vals1 r) λu Τ=>Nc λt IK=>?_;subst Τ;subst IK);exact ord_of_one hz (ϒ (.int _) H (I.tok _) ⟨_,rfl⟩ q)
end
structure Wb (h:ϟ)(x dx C:Ε)(mA:Str->Option Η):Prop where
 obj:h.get? x=some (MB C dx)
 ns:h.Ns1 dx mA
 ne:dx≠x
def nA {h:ϟ}(n:h.Ns1 dx mA):∃od,h.get? dx=some od/\∀name,Xt name od=some (mA name):=by
 (revert n;refine RG λo es ep ho hd hk _ hm=>?_);refine(Κ o ho (λname=>?_));have e:=hm name;unfold nsFind findBy at e;rw[<-Array.find?_toList] at e;unfold Xt;rw[hd];dsimp only
 split
 ·rename_i y q
  rw[q] at e;exact congrArg some e
 ·rename_i q
  rw[q] at e;have a:es.toList.any (·.refKey)=false:=by
   rw[List.any_eq_false];intro y hy;(refine V7 (hk y (Array.mem_toList_iff.mp hy)) λz t ahT=>?_);simp[asf,ahT]
  have a':¬es.toList.any (·.refKey)=true:=by rw[a];exact ϊ
  rw[Υ a'];exact congrArg some e
def Wb.look {h:ϟ}{x:Ε}(I:Wb h x dx C mA):∃od,Ro h x (MB C dx) C (some od)/\∀name,Xt name od=some (mA name):=
 let ⟨od,ho,hl⟩:=nA I.ns
 (Κ od ⟨I.obj,rfl,rfl,ho⟩ hl)
section
variable {s:Ι} {K:Ξ} {x:Ε} {v:Η}
def get_map {expr:Bool}{Q:Η->Ι->Prop}(X:K.In s.heap)(I:Wb s.heap x dx C mA)(hg:UL K C name=true)(hh:SY K C=true)
  (ha:GE K (.ref C) name=some none) (hv:mA name=some v) (hv':Y4 v=true) (h:Q v { s with toks:=s.toks+1 }) :
  wpAny (model prog w) A (getAttr (.ref x) name expr) Q E s:=by
 (refine ρ I.look λod J hl=>?_);exact W.get_value X J (VP hg).1 (ado hh ha rfl (by rw[hl,hv])) hv' h
def CO {Q:Η×List Η->Ι->Prop}(X:K.In s.heap)(I:Wb s.heap x dx C mA)(hg:UL K C name=true)
  (hf:GE K (.ref C) name=some (some (.ref f))) (ht:SJ K (.ref f)=true) (hv:mA name=none) (h:Q (.ref f,[.ref x]) s) :
  wpAny (model prog w) A (getMethod (.ref x) name pl) Q E s:=by
 (refine ρ I.look λod J hl=>?_);exact W.method_fn X J (VP hg).1 (VP hg).2 hf (Q6.mp ht) (by show(Xt name od).map (·.isSome)=some false;rw[hl,hv];rfl) h
def Ei {ns:List Str}{Q:Unit->Ι->Prop}(X:K.In s.heap)(I:Wb s.heap x dx C mA)
  (hs:GE K (.ref C) "__setattr__"=some (some (.builtin "object.__setattr__"))) (hp:ag6 K C=true) (ht:Pj K C name=some none) (hh:SY K C=true)
  (hw:PySem.Within mA ns) (hsz:ns.length<=sizeLine)
  (h:∀h',Wb h' x dx C (λy=>if y=name then some v else mA y)->Ly dx s.heap h'->Q () { s with heap:=h',toks:=s.toks+2 }) :
  wpAny (model prog w) A (setAttr (.ref x) name v) Q E s:=by
 (refine ρ I.look λod J hl=>?_);refine Xu X J hs (W.osa_open (s:={ s with toks:=s.toks+1 }) (r:=none) X J hp ht λb=>?_);(refine ρ (Y5 hh) λcd hc hd'=>?_);have hx:s.heap.get? x=some ⟨.ref C,some dx,.plain,#[]⟩:=I.obj;refine Β (ν (Β (Β (VQ hx (Β (Ki (s:={ s with toks:=s.toks+1 }) (P0 X hc) ?_))))));rw[hd'];refine ν (a:=some dx) (Β (ν (Β ?_)));refine Xv (s:={ s with toks:=s.toks+1 }) I.ns λh' hn2 U4=>?_;(refine abh (hn2.count (PySem.Within.cons name v hw)) λoD esD epD hoD hdD hcD=>?_);refine Β (Tj hoD (by rw[hdD];exact Tk (ζ hcD (by rw[Ψ];omega))) ?_);exact ν (h _ ⟨(U4.2 _ (ω I.ne)).trans I.obj,hn2,I.ne⟩ U4)
def CP {vs:List Η}(X:K.In s.heap)(hm:auv K C=true)
  (hi:GE K (.ref C) "__init__"=some (some (.ref f))) (hf:W.typeIn K (.ref f)=some (.type "function"))
  (h:codeAny (model prog w) (A.under (.builtin "type.__call__" ⟨.ref C::vs,kw⟩)) (.call (.ref f) ⟨.ref (s.heap.objs.size+1)::vs,kw⟩) (W.InitBack (s.heap.objs.size+1) R)
   { s with heap:=(s.heap.push IE).push (MB C s.heap.objs.size) }) :
  codeAny (model prog w) A (.call (.ref C) ⟨vs,kw⟩) R s:=by
 obtain⟨hh,g,d,t,os⟩:=s;exact W.make_core (W.makes_of X hm) (MP X hi) (λself=>auw X self hf) (.inl rfl) h
end
abbrev MW (f:Str)(v:V):List (Str×V)->List (Str×V)
 | []=>[(f,v)]
 | (g,x)::r=>if g=f then(g,v)::r else(g,x)::MW f v r
def jm (f g:Str)(v:V):∀fs:List (Str×V),(MW f v fs).lookup g=if g=f then some v else fs.lookup g
 | []=>by
  show I8 g [(f,v)]=_
  by_cases h:g=f
  ·have hb:(g == f)=true:=Q6.mpr h
   simp only[I8,hb,δ h]
  ·have hb:(g == f)=false:=Iw.mpr h
   simp only[I8,hb,Υ h]
 | (k,x)::r=>by
  have ih:=jm f g v r;rw[show MW f v ((k,x)::r)=(if k=f then(k,v)::r else(k,x)::MW f v r) from rfl]
  by_cases hk:k=f
  ·rw[δ hk]
   by_cases h:g=k
   ·have hb:(g == k)=true:=Q6.mpr h
    simp only[I8,hb,δ (h.trans hk)]
   ·have hb:(g == k)=false:=Iw.mpr h
    simp only[I8,hb,Υ (λe:g=f=>h (e.trans hk.symm))]
  ·rw[Υ hk]
   by_cases h:g=k
   ·have hb:(g == k)=true:=Q6.mpr h
    simp only[I8,hb,Υ (λe:g=f=>hk (h.symm.trans e))]
   ·have hb:(g == k)=false:=Iw.mpr h
    simp only[I8,hb];exact ih
def nB (f:Str)(v:V):∀fs:List (Str×V),f∈(MW f v fs).map (·.1)/\∀g,g∈fs.map (·.1)->g∈(MW f v fs).map (·.1)
 | []=>⟨by simp[MW],λg h=>by simp at h⟩
 | (k,x)::r=>by
  obtain⟨i1,i2⟩:=nB f v r;rw[show MW f v ((k,x)::r)=(if k=f then(k,v)::r else(k,x)::MW f v r) from rfl]
  by_cases hk:k=f
  ·rw[δ hk]
   subst hk;exact⟨by simp,λg h=>by simpa using h⟩
  ·rw[Υ hk]
   refine⟨?_,λg h=>?_⟩
   ·rw[ο]
    exact ε _ i1
   ·rw[ο] at h ⊢
    rcases Θ.mp h with e | e
    ·exact Θ.mpr (.inl e)
    ·exact ε _ (i2 g e)
def ou (f:Str)(v:V):∀fs:List (Str×V),(MW f v fs).length<=fs.length+1
 | []=>by simp[MW]
 | (k,x)::r=>by
  have ih:=ou f v r;rw[show MW f v ((k,x)::r)=(if k=f then(k,v)::r else(k,x)::MW f v r) from rfl]
  by_cases hk:k=f
  ·rw[δ hk,Ψ,Ψ];omega
  ·rw[Υ hk,Ψ,Ψ];omega
def K0.pK {v:V}{o:Option Η}(r:K0 (some v) o):∃u,o=some u/\RelV v u:=by
 cases o with
 | none=>exact(show False from r).elim
 | some u=>exact(Κ u rfl r)
def K0.none_of {o:Option Η}(r:K0 none o):o=none:=by
 cases o with
 | none=>rfl
 | some u=>exact(show False from r).elim
def sO {v:V}(r:RelV v u):Y4 u=true:=by
 cases v with
 | cr=>cases (show u=be from r);rfl
 | bl b=>cases (show u=JM b from r);rfl
 | int i=>obtain⟨t,e⟩:=(show ∃t,u=Oq i t from r);cases e;rfl
 | str x=>obtain⟨t,e⟩:=(show ∃t,u=FS x t from r);cases e;rfl
 | VW b=>obtain⟨t,e⟩:=(show ∃t,u=aa6 b t from r);cases e;rfl
 | Zz b=>obtain⟨t,e⟩:=(show ∃t,u=VM b t from r);cases e;rfl
 | ref a=>cases (show u=π a from r);rfl
 | ty n=>cases (show u=Pe n from r);rfl
section
variable {P:Ϗ} {H H':Hp} {h h':ϟ} {fs X6:List (Str×V)}
def pL (At:NO P w H h)(e:H a=some (.ins C dx fs)):∃mA,Wb h a dx C mA/\(∀f,K0 (fs.lookup f) (mA f))/\PySem.Within mA (fs.map (·.1))/\fs.length<=1000/\H dx=some (.own a):=by
 (refine X2 (show EQ P w H h a (.ins C dx fs) from At a _ e) λd z ne ob=>G' λmA n r q=>?_);exact(RI mA ⟨ob,n,ne⟩ r q z d)
end
structure Tt (K:Ξ)(C:Ε):Prop where
 pg:UL K C Rp=true
 hd:SY K C=true
 po:ag6 K C=true
 sa:GE K (.ref C) "__setattr__"=some (some (.builtin "object.__setattr__"))
def Tt.get {K:Ξ}(c:Tt K C)(f:Str):UL K C f=true:=c.pg
abbrev wE (K:Ξ)(C:Ε)(f:Str):Prop:=GE K (.ref C) f=some none
def wE.Yf {K:Ξ}{f:Str}(n:wE K C f):Pj K C f=some none:=by
 unfold Pj;rw[show GE K (.ref C) f=some none from n];rfl
structure U5 (K:Ξ)(C:Ε)(m:Str)(f:Ε):Prop where
 at_:GE K (.ref C) m=some (some (.ref f))
 fn:SJ K (.ref f)=true
 kp:Jg K (.ref f)=true
section
variable {X:Cx} {σ:St} {H:Hp} {s:Ι} {fs:List (Str×V)} {f:Str} {v:V}  
def xS {b:Bool}{Q:Η->Ι->Prop}(I:Inv X pins σ H s)(e:H a=some (.ins C dx fs))(c:Tt X.K C)(n:wE X.K C f)(l:fs.lookup f=some v)
  (h:∀u s',Inv X pins σ H s'->RelV v u->Q u s'):wpAny (model X.prog X.w) A (getAttr (.ref a) f b) Q E s:=by
 (refine ϭ (pL I.At e) λmA O r=>JT λ_ _ _=>?_);(refine ρ (K0.pK (v:=v) (o:=mA f) (by rw[<-l];exact r f)) λu hu ru=>?_);exact get_map I.LZ O (c.get f) c.hd n hu (sO ru) (h u _ (I.tok _) ru)
def kW {g:Ε}{Q:Η×List Η->Ι->Prop}(I:Inv X pins σ H s)(e:H a=some (.ins C dx fs))(c:Tt X.K C)(k:U5 X.K C m g)(l:fs.lookup m=none)
  (h:Q (.ref g,[.ref a]) s):wpAny (model X.prog X.w) A (getMethod (.ref a) m pl) Q E s:=by
 (refine ϭ (pL I.At e) λmA O r=>JT λ_ _ _=>?_);have hn:mA m=none:=K0.none_of (by rw[<-l];exact r m);exact CO I.LZ O (c.get m) k.at_ k.fn hn h
def xT {y:V}{Q:Unit->Ι->Prop}(I:Inv X pins σ H s)(e:H a=some (.ins C dx fs))(c:Tt X.K C)(n:wE X.K C f)(hl:fs.length < 1000)(ry:RelV y u)
  (h:∀s',Inv X pins σ (upd H a (.ins C dx (MW f y fs))) s'->Q () s'):wpAny (model X.prog X.w) A (setAttr (.ref a) f u) Q E s:=by
 (refine ϭ (pL I.At e) λmA O r=>JT λwi _ ho=>?_);have hz:(fs.map (·.1)).length<=sizeLine:=by rw[Ζ,KH];omega
 refine Ei I.LZ O c.sa c.po n.Yf c.hd wi hz λh' O' sb=>h _ ?_;have hd:∃o,h'.get? dx=some o:=let ⟨o,_,_,e',_⟩:=O'.ns;⟨o,e'⟩;refine I.write (x:=a) (e:=dx) (by rw[e];exact IF) (.inr ho) (λb q hb z=>(sb.2 b hb).trans z) hd ?_;refine⟨by rw[aj O.ne];exact ho,?_,O.ne,O'.obj,(ύ _ O'.ns (λg=>?_) (λg hg=>?_))⟩
 ·have:=ou f y fs;omega
 ·show K0 ((MW f y fs).lookup g) (if g=f then some u else mA g)
  rw[jm]
  by_cases q:g=f
  ·rw[δ q,δ q];exact ry
  ·rw[Υ q,Υ q];exact r g
 ·by_cases q:g=f
  ·rw[q];exact(nB f y fs).1
  ·refine(nB f y fs).2 g (wi g λz=>hg ?_)
   show(if g=f then some u else mA g)=none;rw[Υ q];exact z
def Inv.made (I:Inv X pins σ H s):Inv X pins σ (upd (upd H s.heap.objs.size (.own (s.heap.objs.size+1))) (s.heap.objs.size+1) (.ins C s.heap.objs.size []))
  { s with heap:=(s.heap.push IE).push (MB C s.heap.objs.size) }:=by
 have e1:(s.heap.push IE).get? s.heap.objs.size=some IE:=θ s.heap rfl;have e2:((s.heap.push IE).push (MB C s.heap.objs.size)).get? (s.heap.objs.size+1)=some (MB C s.heap.objs.size):=by
  have:=θ (s.heap.push IE) (o:=MB C s.heap.objs.size) rfl
  rwa [ϣ] at this
 have e3:(s.heap.push IE).Ns s.heap.objs.size (λ_=>none):=(lc IE (#[]) _ e1 rfl (λe he=>absurd he (by simp)) (λ_=>rfl))
 have I1:=I.laid (a:=s.heap.objs.size) (o:=.own (s.heap.objs.size+1)) (h':=s.heap.push IE) (t':=s.toks) (λb u q=>Δ _ q) (Φ _) ⟨_,e1⟩;refine I1.laid (a:=s.heap.objs.size+1) (o:=.ins C s.heap.objs.size []) (t':=s.toks) (λb u q=>Δ _ q) (Qp (ϣ _ _)) ?_;have ne:s.heap.objs.size≠s.heap.objs.size+1:=ϐ (GM _);refine⟨by rw[aj ne,ae],Ϛ _,ne,e2,(ύ (λ_=>none) ((VR e3).at λo q=>Δ _ q) (λ_=>IF) (λy hy=>absurd rfl hy))⟩
def zC {f:Str}{s:Ι}{Q:Η->Ι->Prop}(hb:attributeBase e f env (eval e env)=eval e env)
  (h:wpAny (model prog w) A (eval e env) (λo s₁=>wpAny (model prog w) A (getAttr o f true) Q E s₁) E s):wpAny (model prog w) A (eval (.Attribute e f pos) env) Q E s:=
 Attribute_any_ h (by rw[arm_eval_Attribute,hb])
end
abbrev ad1 (K:Ξ)(ta:TE)(f:Str):TE:=λσ H Q=>ta σ H λx H1=>onR x λa=>∃C dx fs,H1 a=some (.ins C dx fs)/\Tt K C/\wE K C f/\∃v,fs.lookup f=some v/\Q v H1
abbrev ahV (K:Ξ)(ta tv:TE)(f:Str):TS:=λD σ H=>tv σ H λy H1=>ta σ H1 λx H2=>onR x λa=>∃C dx fs,H2 a=some (.ins C dx fs)/\Tt K C/\wE K C f/\fs.length < 1000/\
 D.nx σ (upd H2 a (.ins C dx (MW f y fs)))
section
variable {X:Cx} {o:bv} {f:Str} {ta tv:TE}
def FY (he:PE X e ta)(hb:attributeBase e f X.env (eval e X.env)=eval e X.env):PE X (.Attribute e f pos) (ad1 X.K ta f):=by
 intro pins s σ H Q I h;refine zC hb (IJ (he pins s σ H _ I h) λu s1 x H1 I1 rx q0=>?_);(refine ρ (ua q0) λa ex=>Q8 λC dx fs ea c n=>Ϟ λv l q=>?_);subst ex;obtain rfl:u=π a:=rx;exact xS I1 ea c n l λu' s2 I2 ru=>(ϒ v H1 I2 ru q)
def bw (ha:PE X o ta)(hv:PE X value tv)(hs:swapsWith value (some (.Attribute o f pos')) pos.line X.env=pure false):PS X (.Assign [.Attribute o f pos'] value pos) (ahV X.K ta tv f):=by
 intro pins s σ H D I h;refine SZ (IJ (hv pins s σ H _ I h) λu s1 y H1 I1 ry q=>IJ (ha pins s1 σ H1 _ I1 q) λov s2 x H2 I2 rx q0=>?_) hs;(refine ρ (ua q0) λa ex=>RG λC dx fs ea c n l q2=>?_);subst ex;obtain rfl:ov=π a:=rx;exact xT I2 ea c n l ry λs3 I3=>(gl σ _ I3 q2)
end
section
variable {X:Cx} {σ:St} {H:Hp} {s:Ι} {Q:Η->Ι->Prop} {c:Η} {b:Bool}
inductive MH (K:Ξ) (H:Hp):V->Η->Prop where
 | cr:MH K H .cr (.type "NoneType")
 | bl (x:Bool):MH K H (.bl x) (.type "bool")
 | int (i:Int):MH K H (.int i) (.type "int")
 | str (x:Str):MH K H (.str x) (.type "str")
 | Zz (x:UInt64):MH K H (.Zz x) (.type "float")
 | lst {a:Ε} {xs:List V} (e:H a=some (.lst xs)):MH K H (.ref a) (.type "list")
 | Ra {a:Ε} {o:Obj} {xs:List V} (e:H a=some (.Ra o (.lst xs))):MH K H (.ref a) (.type "list")
 | tup {a:Ε} {xs:List V} (e:H a=some (.tup xs)):MH K H (.ref a) (.type "tuple")
 | dK {a:Ε} {ϔ:List (Key×V)} (e:H a=some (.dK ϔ)):MH K H (.ref a) (.type "dict")
 | dT {a:Ε} {ϔ:List (List Key×V)} (e:H a=some (.dT ϔ)):MH K H (.ref a) (.type "dict")
 | ins {a C dx:Ε} {fs:List (Str×V)} (e:H a=some (.ins C dx fs)) (cl:Tt K C) (ha:GE K (.ref C) "__class__"=some (some (.builtin "object.__class__")))
   (hn:W.specialIn K (.builtin "object.__class__") "__get__"=some (some (.builtin "getset_descriptor.__get__"))) (htk:W.takesIn K (.builtin "object.__class__")=some true)
   (hm:afO K C (.type "object")=some true):MH K H (.ref a) (.ref C)
def sP {x:V}{t:Η}(I:Inv X pins σ H s)(rx:RelV x u)(ty:MH X.K H x t)(e:Xw X.K t c=some b)(h:∀tk,Q (.bool b) { s with toks:=tk }) :
  wpAny (model X.prog X.w) A (call (.builtin "isinstance") [u,c]) Q E s:=by
 cases ty with
 | cr=>cases (show u=be from rx);exact J6 W.kitx_none I.LZ IF e (λz=>nomatch z) h
 | bl y=>cases (show u=JM y from rx);exact J6 W.kitx_bool I.LZ IF e (λz=>nomatch z) h
 | int i=>obtain⟨t,q⟩:=(show ∃t,u=Oq i t from rx);cases q;exact J6 W.kitx_int I.LZ IF e (λz=>nomatch z) h
 | str y=>obtain⟨t,q⟩:=(show ∃t,u=FS y t from rx);cases q;exact J6 W.kitx_str I.LZ IF e (λz=>nomatch z) h
 | Zz y=>obtain⟨t,q⟩:=(show ∃t,u=VM y t from rx);cases q;exact J6 W.kitx_float I.LZ IF e (λz=>nomatch z) h
 | @lst a xs ea=>
  cases (show u=π a from rx);(refine MU (show EQ X.prog X.w H s.heap a (.lst xs) from I.At a _ ea) λ_=>sK λ_ n _ h1=>?_);exact J6 ag7 I.LZ (Κ _ h1 rfl) e (λz=>nomatch z) h
 | @Ra a ob xs ea=>
  cases (show u=π a from rx);(refine IT (show EQ X.prog X.w H s.heap a (.Ra ob (.lst xs)) from I.At a _ ea) λ_ _=>sK λ_ n _ h1=>?_);exact J6 ag7 I.LZ (Κ _ h1 rfl) e (λz=>nomatch z) h
 | @tup a xs ea=>
  cases (show u=π a from rx);(refine MU (show EQ X.prog X.w H s.heap a (.tup xs) from I.At a _ ea) λ_=>Ϟ λ_ _ p=>?_);(revert p;refine G' λo h1 h2 _=>?_);exact J6 W.kitx_tuple I.LZ (Κ o h1 h2) e (λz=>nomatch z) h
 | @dK a ϔ ea=>
  cases (show u=π a from rx);(refine IT (show EQ X.prog X.w H s.heap a (.dK ϔ) from I.At a _ ea) λ_ _=>Ϟ λvs _ p=>?_);(revert p;refine Kx λo es ep h1 h2 _=>?_);exact J6 ag8 I.LZ (Κ o h1 h2.1) e (λz=>nomatch z) h
 | @dT a ϔ ea=>
  cases (show u=π a from rx);(refine IT (show EQ X.prog X.w H s.heap a (.dT ϔ) from I.At a _ ea) λ_ _=>Ϟ λxs _=>Kx λo es ep h1 h2 _=>?_);exact J6 ag8 I.LZ (Κ o h1 h2.1) e (λz=>nomatch z) h
 | @ins a C dx fs ea cl ha hn htk hm=>
  cases (show u=π a from rx);(refine ρ (pL I.At ea) λmA O _=>?_);(refine ρ O.look λod J _=>?_);exact J6 (W.kitx_own (cl.get _) cl.hd ha hn htk hm) I.LZ J e (λz=>nomatch z) h
end
structure Jf (k:Nat)(A:K'):Prop where
 hd:A.handled=none
 dp:A.depth+3 * k+5 < recursionLimit
 un:A.units+16 * k+200 < cLine
def Jf.mono {k:Nat}(r:Jf k A)(h:j<=k):Jf j A:=⟨r.hd,by have:=r.dp;omega,by have:=r.un;omega⟩
def Jf.deeper {k:Nat}(r:Jf (k+1) A)(env:Env):Jf k (A.deeper env):=
 ⟨r.hd,by have:=r.dp;show A.depth+1+3 * k+5 < _;omega,by have:=r.un;show A.units+3+16 * k+200 < _;omega⟩
def xU {us:List Η}:(A.under (.builtin "type.__call__" ⟨.ref C::us,kw⟩)).depth=A.depth+1:=by
 first | rfl | simp[Ui,Code.weight,Code.isCreation,Code.isGuard,Code.isCaller,acK,UW,guardIds]
def xV {us:List Η}:(A.under (.builtin "type.__call__" ⟨.ref C::us,kw⟩)).units=A.units+1:=by
 first | rfl | simp[Ui,Code.cUnits,acK,UW]
def Jf.make {k:Nat}(r:Jf (k+1) A)(C:Ε)(us:List Η)(kw:List (Str×Η)):Jf k (A.under (.builtin "type.__call__" ⟨.ref C::us,kw⟩)):=
 ⟨r.hd,by have:=r.dp;rw[xU];omega,by have:=r.un;rw[xV];omega⟩
def Jf.depth {k:Nat}(r:Jf k A):A.depth < recursionLimit:=by have:=r.dp;omega
def Jf.units {k:Nat}(r:Jf k A):A.units+64 < cLine:=by have:=r.un;omega
abbrev Uq:TA:=λ_ H Q=>Q [] H
abbrev Qx (ta:TE)(tr:TA):TA:=λσ H Q=>ta σ H λx H1=>tr σ H1 λxs H2=>Q (x::xs) H2
section
variable {X:Cx} {te:TE} {t:TA} 
def af:PA X [] Uq:=λ_ _ _ _ H Q I h=>Ix (ϒ ([]) H I (.nil) h)
def aa (ha:PE X e te)(hr:PA X es t)(hs:autoParam (starEach (e::es) X.env=(false,eval e X.env)::starEach es X.env) L2.Ϩ._auto_1):PA X (e::es) (Qx te t):=by
 intro pos pins s σ H Q I h;rw[hs];show wpAny _ _ (spliced ((false,eval e X.env)::backTo pos (starEach es X.env))) _ _ s;refine ci (IJ (ha pins s σ H _ I h) λu s1 x H1 I1 r1 q1=>?_);exact Ow (hr pos pins s1 σ H1 _ I1 q1) λus s2 xs H2 I2 r2 q2=>(ϒ (x::xs) H2 I2 (.cons r1 r2) q2)
abbrev ahW (t:TA):TE:=λσ H Q=>t σ H λxs H1=>xs.length<=sizeLine/\∀p,H1 p=none->Q (.ref p) (upd H1 p (.tup xs))
abbrev ahX (t:TA):TE:=λσ H Q=>t σ H λxs H1=>xs.length<=sizeLine/\∀p,H1 p=none->Q (.ref p) (upd H1 p (.lst xs))
def bW {x1}(h:PA X es t):PE X (.Tuple es x1 pos) (ahW t):=by
 intro pins s σ H Q I hq;refine wpAny_Tuple_spliced (J2 (h pos pins s σ H _ I hq) λus s1 zz=>U1 zz λxs H1 I1 r z q=>⟨by rw[<-r.length];exact z,?_⟩);have hf:H1 s1.heap.objs.size=none:=I1.At.fresh (Φ _);refine(ϒ (.ref s1.heap.objs.size) (upd H1 s1.heap.objs.size (.tup xs)) (I1.laid (t':=s1.toks) (λb u e=>Δ _ e) (Φ _) ?_) rfl (q _ hf));exact⟨z,(Κ us r (ύ _ (θ _ rfl) rfl (MF _ rfl)))⟩
def aG (h:PA X es t):PE X (.List es pos) (ahX t):=by
 intro pins s σ H Q I hq;refine wpAny_List_spliced (J2 (h pos pins s σ H _ I hq) λus s1 zz=>U1 zz λxs H1 I1 r z q=>⟨by rw[<-r.length];exact z,?_⟩);have hf:H1 s1.heap.objs.size=none:=I1.At.fresh (Φ _);refine(ϒ (.ref s1.heap.objs.size) (upd H1 s1.heap.objs.size (.lst xs)) (I1.laid (t':=s1.toks) (λb u e=>Δ _ e) (Φ _) ?_) rfl (q _ hf));exact⟨z,(gl us 0 r (θ _ rfl))⟩
end
noncomputable abbrev Sp:=List V->Hp->VK->XK->Prop
noncomputable abbrev Wc:=List Env->Hp->Ι->XK->Η->Ι->Prop
structure U6 (P:Ϗ)(w:IH)(K:Ξ)(mg:Str->Option Η)(base:ϟ)(A:K')(outer:List Env)(s:Ι)(H:Hp):Prop where
 frames:A.frames=some outer
 mod:Mod K mg base
 bs:∀b o,base.get? b=some o->s.heap.get? b=some o/\H b=none
 XI:base.objs.size<=s.heap.objs.size
 NU:s.heap.FunFrames base outer
 XJ:∀b∈NP outer,H b=none
 At:NO P w H s.heap
 bare:Nz s.gens
abbrev CE (outer:List Env)(P:Ϗ)(w:IH)(H:Hp)(s:Ι)(Q:VK)(u:Η)(s':Ι):Prop:=
 ∃v H',s'.os=s.os/\Nz s'.gens/\Un (NP outer) [] H H' s.heap s'.heap/\NO P w H' s'.heap/\RelV v u/\Q v H'
abbrev CR (CX:Wc)(outer:List Env)(P:Ϗ)(w:IH)(H:Hp)(s:Ι)(Q:VK)(E:XK)(r:afJ)(s':Ι):Prop:=
 match r with
 | .ok (.ret u)=>CE outer P w H s Q u s'
 | .ok _=>False
 | .error e=>CX outer H s E e s'
structure Ϥ (P:Ϗ)(w:IH)(K:Ξ)(mg:Str->Option Η)(base:ϟ)(CX:Wc)(k:Nat)(f:Ε)(fd:Jr)(ps:List Str)(sp:Sp):Prop where
 len:∀vs H Q E,sp vs H Q E->vs.length=ps.length
 run:∀(A:K') (outer:List Env) (s:Ι) (H:Hp) (args:Args) (us:List Η) (vs:List V) (Q:VK) (E:XK),Jf k A->U6 P w K mg base A outer s H->SK s fd args (ps.zip us)->Vals vs us->sp vs H Q E->
  codeAny (model P w) A (.call (.ref f) args) (CR CX outer P w H s Q E) s
def U6.make {P:Ϗ}{K:Ξ}{base:ϟ}{s:Ι}{H:Hp}(e:U6 P w K mg base A outer s H)(C:Ε)(us:List Η)(kw:List (Str×Η)) :
  U6 P w K mg base (A.under (.builtin "type.__call__" ⟨.ref C::us,kw⟩)) outer s H:=⟨by first | exact e.frames | (simpa [Ui,Code.envs,UW,pushEnvs] using e.frames),e.mod,e.bs,e.XI,e.NU,e.XJ,e.At,e.bare⟩
section
variable {X:Cx} {σ:St} {H:Hp} {s:Ι}
def Inv.Yg (I:Inv X pins σ H s):U6 X.prog X.w X.K X.mg X.base X.A X.stack s H:=
 ⟨I.ok.frames,I.ok.mod,I.bs,ζ I.ok.XI I.sz,I.stack,I.Rs,I.At,I.bare⟩
def Inv.after {Q:VK}(I:Inv X pins σ H s)(h:CE X.stack X.prog X.w H s Q u s'):EP X pins σ Q u s':=by
 (revert h;refine O1 λv H' os bare un At=>Jb λr q=>?_);obtain⟨hh,g,d,t,os'⟩:=s';obtain rfl:os'=s.os:=os;exact(ϒ v H' (I.call (h':=hh) (g':=g) (d':=d) (t':=t) (ch:=[]) un At bare (λb z=>absurd z (by simp))) r q)
end
abbrev Yh (sp:Sp)(dvs:List V)(E:XK)(t:TA):TE:=λσ H Q=>t σ H λvs H1=>sp (vs++dvs) H1 Q E
abbrev aaz (C:Ε)(m:Str)(sp:Sp)(dvs:List V)(E:XK)(ta:TE)(t:TA):TE:=λσ H Q=>ta σ H λx H1=>onR x λa=>∃dx fs,H1 a=some (.ins C dx fs)/\fs.lookup m=none/\
 t σ H1 λvs H2=>sp (x::(vs++dvs)) H2 Q E
abbrev aaA (C:Ε)(sp:Sp)(dvs:List V)(E:XK)(t:TA):TE:=λσ H Q=>t σ H λvs H1=>∀x dx,H1 x=none->H1 dx=none->dx≠x->
 sp (.ref x::(vs++dvs)) (upd (upd H1 dx (.own x)) x (.ins C dx [])) (λv H2=>v=.cr/\Q (.ref x) H2) E
abbrev Binds (K:Ξ)(fd:Jr)(ps:List Str)(ds:List Η):Prop:=
 ∀(s:Ι) (us:List Η),K.In s.heap->(us++ds).length=ps.length->SK s fd ⟨us,[]⟩ (ps.zip (us++ds))
def Binds.all {K:Ξ}{ps:List Str}(h:∀us:List Η,us.length=ps.length->bindArgs fd ⟨us,[]⟩=pure (ps.zip us)):Binds K fd ps []:=λs us _ hl=>by
 rw[Ke] at hl ⊢;exact .of_eq (h us hl)
abbrev Passes (CX:Wc)(X:Cx)(E:XK):Prop:=∀(pins:List (Ε×Obj)) (σ:St) (H:Hp) (s:Ι) (e:Η) (s':Ι),Inv X pins σ H s->CX X.stack H s E e s'->X.xe e s'
section
variable {X:Cx} {CX:Wc} {k:Nat} {ps:List Str} {sp:Sp} {dvs:List V} {E:XK} {o:bv} {ta:TE} {t:TA}
def uf {σ:St}{H:Hp}{s:Ι}{Q:VK}{us:List Η}{vs:List V}(F:Ϥ X.prog X.w X.K X.mg X.base CX k f fd ps sp)(hr:Jf k X.A)(hb:Binds X.K fd ps ds)(hd:Vals dvs ds)(hx:Passes CX X E)
  (I:Inv X pins σ H s) (r:Vals vs us) (h:sp (vs++dvs) H Q E):wpAny (model X.prog X.w) X.A (call (.ref f) us) (EP X pins σ Q) X.xe s:=by
 have r2:Vals (vs++dvs) (us++ds):=r.append hd;have hl:(us++ds).length=ps.length:=by rw[<-r2.length];exact F.len _ _ _ _ h
 refine KC (IV (F.run X.A X.stack s H ⟨us,[]⟩ (us++ds) (vs++dvs) Q E hr I.Yg (hb s us I.LZ hl) r2 h) λr s' hq=>?_);cases r with
 | error e=>exact hx pins σ H s e s' I hq
 | ok fl=>
  cases fl with
  | ret u=>exact I.after hq
  | next=>exact ϲ hq
  | brk=>exact ϲ hq
  | cont=>exact ϲ hq
def aq (F:Ϥ X.prog X.w X.K X.mg X.base CX k f fd ps sp)(hr:Jf k X.A)(hg:Gl X x)(hm:X.mg x=some (.ref f))(hk:Jg X.K (.ref f)=true)(hb:Binds X.K fd ps ds)(hd:Vals dvs ds)(hx:Passes CX X E)
  (ha:PA X (e::es) t) (S8:autoParam ((x == ("__debug__":Str))=false) L2.Kh._auto_1) (he:autoParam (starEach (e::es) X.env=(false,eval e X.env)::starEach es X.env) L2.Ϩ._auto_1) (NV:autoParam ((backTo pos (starEach es X.env)).any (·.1)=false) L2.Ϩ._auto_1) :
  PE X (.Call (.Name x p) (e::es) [] pos) (Yh sp dvs E t):=by
 intro pins s σ H Q I h;refine Ϸ (dU I hg hm ?_ S8);refine Jz (h₀:=X.base) I.ok.mod.WC hk (Ow (ha pos pins s σ H _ I h) λus s1 vs H1 I1 r q=>⟨I1.LZ,?_⟩) he NV;exact uf F hr hb hd hx I1 r q
def aR (he:PE X o ta)(c:Tt X.K C)(hm:U5 X.K C m f)(F:Ϥ X.prog X.w X.K X.mg X.base CX k f fd ps sp)(hr:Jf k X.A)(hb:Binds X.K fd ps ds)(hd:Vals dvs ds)(hx:Passes CX X E)(ha:PA X (e::es) t)
  (Nk:autoParam (starEach (e::es) X.env=(false,eval e X.env)::starEach es X.env) L2.Ϩ._auto_1) (NV:autoParam ((backTo pos (starEach es X.env)).any (·.1)=false) L2.Ϩ._auto_1)
  (ht:autoParam (eval (.Call (.Attribute o m apos) (e::es) [] pos) X.env=(do
   let ov <-eval o X.env
   standAt apos.atName
   let (f,first) <-holding [ov] (getMethod ov m pl)
   callWith pos f first (backTo pos (starEach (e::es) X.env)) (backToKw pos (keywordEach [] X.env)))) L2.Ϩ._auto_1) :
  PE X (.Call (.Attribute o m apos) (e::es) [] pos) (aaz C m sp dvs E ta t):=by
 intro pins s σ H Q I h;refine Tl (pl:=pl) (IJ (he pins s σ H _ I h) λu s1 x H1 I1 rx q0=>?_) ht;(refine ρ (ua q0) λa ex=>IY λdx fs ea l q=>?_);subst ex;obtain rfl:u=π a:=rx;refine kW I1 ea c hm l ?_;refine Jz (first:=[.ref a]) (h₀:=X.base) I.ok.mod.WC hm.kp (Ow (ha pos pins s1 σ H1 _ I1 q) λus s2 vs H2 I2 r q2=>⟨I2.LZ,?_⟩) Nk NV;exact uf (us:=.ref a::us) (vs:=.ref a::vs) F hr hb hd hx I2 (.cons rfl r) q2
def pZ (he:PE X o ta)(c:Tt X.K C)(hm:U5 X.K C m f)(F:Ϥ X.prog X.w X.K X.mg X.base CX k f fd ps sp)(hr:Jf k X.A)(hb:Binds X.K fd ps ds)(hd:Vals dvs ds)(hx:Passes CX X E)
  (ht:autoParam (eval (.Call (.Attribute o m apos) [] [] pos) X.env=(do
   let ov <-eval o X.env
   standAt apos.atName
   let (f,first) <-holding [ov] (getMethod ov m pl)
   callWith pos f first (backTo pos (starEach [] X.env)) (backToKw pos (keywordEach [] X.env)))) L2.Ϩ._auto_1) :
  PE X (.Call (.Attribute o m apos) [] [] pos) (aaz C m sp dvs E ta Uq):=by
 intro pins s σ H Q I h;refine Tl (pl:=pl) (IJ (he pins s σ H _ I h) λu s1 x H1 I1 rx q0=>?_) ht;(refine ρ (ua q0) λa ex=>IY λdx fs ea l q=>?_);subst ex;obtain rfl:u=π a:=rx;refine kW I1 ea c hm l ?_;exact adp (first:=[.ref a]) I1.LZ hm.kp (uf (us:=[.ref a]) (vs:=[.ref a]) F hr hb hd hx I1 (.cons rfl .nil) q)
structure Mk (K:Ξ)(C f:Ε):Prop where
 makes:auv K C=true
 init:GE K (.ref C) "__init__"=some (some (.ref f))
 fn:SJ K (.ref f)=true
 kp:Jg K (.ref C)=true
def vA {σ:St}{H:Hp}{s:Ι}{Q:VK}{us:List Η}{vs:List V}(M:Mk X.K C f)(F:Ϥ X.prog X.w X.K X.mg X.base CX k f fd ps sp)(hr:Jf (k+1) X.A)(hb:Binds X.K fd ps ds)(hd:Vals dvs ds)
  (hx:Passes CX X E) (I:Inv X pins σ H s) (r:Vals vs us)
  (h:∀x dx,H x=none->H dx=none->dx≠x->sp (.ref x::(vs++dvs)) (upd (upd H dx (.own x)) x (.ins C dx [])) (λv H2=>v=.cr/\Q (.ref x) H2) E) :
  wpAny (model X.prog X.w) X.A (call (.ref C) us) (EP X pins σ Q) X.xe s:=by
 have hq:=h (s.heap.objs.size+1) s.heap.objs.size (I.At.fresh (Lj _)) (I.At.fresh (Φ _)) (ϐ (GM _));have I2:=Inv.made (C:=C) I;have r2:Vals (V.ref (s.heap.objs.size+1)::(vs++dvs)) (π (s.heap.objs.size+1)::(us++ds)):=.cons rfl (r.append hd);have hl:(π (s.heap.objs.size+1)::us++ds).length=ps.length:=by
  have e:=r2.length;rw[F.len _ _ _ _ hq] at e;exact e.symm
 refine KC (CP (f:=f) I.LZ M.makes M.init (Q6.mp M.fn) (IV (F.run _ X.stack _ _ ⟨π (s.heap.objs.size+1)::us,[]⟩ (π (s.heap.objs.size+1)::(us++ds)) _ _ E (hr.make C us [])
  (I2.Yg.make C us []) (hb _ (π (s.heap.objs.size+1)::us) I2.LZ hl) r2 hq) λr s' Ur=>?_))
 cases r with
 | error e=>exact hx pins σ _ _ e s' I2 Ur
 | ok fl=>
  cases fl with
  | ret u=>
   (refine U1 (I2.after Ur) λv H' I3 rv ev q3=>?_);subst ev;exact⟨rv,(ϒ (V.ref (s.heap.objs.size+1)) H' I3 rfl q3)⟩
  | next=>exact ϲ Ur
  | brk=>exact ϲ Ur
  | cont=>exact ϲ Ur
def ug (M:Mk X.K C f)(F:Ϥ X.prog X.w X.K X.mg X.base CX k f fd ps sp)(hr:Jf (k+1) X.A)(hg:Gl X x)(hm:X.mg x=some (.ref C))(hb:Binds X.K fd ps ds)(hd:Vals dvs ds)(hx:Passes CX X E)
  (ha:PA X (e::es) t) (S8:autoParam ((x == ("__debug__":Str))=false) L2.Kh._auto_1) (he:autoParam (starEach (e::es) X.env=(false,eval e X.env)::starEach es X.env) L2.Ϩ._auto_1) (NV:autoParam ((backTo pos (starEach es X.env)).any (·.1)=false) L2.Ϩ._auto_1) :
  PE X (.Call (.Name x p) (e::es) [] pos) (aaA C sp dvs E t):=by
 intro pins s σ H Q I h;refine Ϸ (dU I hg hm ?_ S8);refine Jz (h₀:=X.base) I.ok.mod.WC M.kp (Ow (ha pos pins s σ H _ I h) λus s1 vs H1 I1 r q=>⟨I1.LZ,?_⟩) he NV;exact vA M F hr hb hd hx I1 r q
def eZ (M:Mk X.K C f)(F:Ϥ X.prog X.w X.K X.mg X.base CX k f fd ps sp)(hr:Jf (k+1) X.A)(hg:Gl X x)(hm:X.mg x=some (.ref C))(hb:Binds X.K fd ps ds)(hd:Vals dvs ds)(hx:Passes CX X E)
  (S8:autoParam ((x == ("__debug__":Str))=false) L2.Kh._auto_1):PE X (.Call (.Name x p) [] [] pos) (aaA C sp dvs E Uq):=by
 intro pins s σ H Q I h;refine Ϸ (dU I hg hm ?_ S8);exact adp I.LZ M.kp (vA (us:=[]) M F hr hb hd hx I .nil h)
end
structure η (N P:List Str)(sc:Oi):Prop where
 kind:sc.kind=.function
 co:sc.isCoroutine=false
 gen:sc.isGenerator=false
 nd:N.Nodup
 pre:N.take P.length=P
 par:∀x∈P,sc.names.lookup x=some .local\/sc.names.lookup x=some .cell
 abv:∀y∈sc.names,y.2≠.free
def sQ {kindOf:Str->Option IQ}:∀{binds:List (Str×Η)} {m:Str->Option Η},(∀v,(x,v)∉binds)->bindL kindOf binds m x=m x
 | [],_,_=>rfl
 | (n,v)::r,m,h=>by
  unfold bindL;rw[sQ λw hw=>h w (ε _ hw)]
  split
  ·have:x≠n:=by rintro rfl;exact h v zn
   simp[this]
  ·rfl
def sR {kindOf:Str->Option IQ}:∀{binds:List (Str×Η)} {m:Str->Option Η},(∀v,(x,v)∉binds)->bindC kindOf binds m x=m x
 | [],_,_=>rfl
 | (n,v)::r,m,h=>by
  unfold bindC;rw[sR λw hw=>h w (ε _ hw)]
  split
  ·rfl
  ·have:x≠n:=by rintro rfl;exact h v zn
   simp[this]
def sS {kindOf:Str->Option IQ}{v:Η}:∀{P:List Str} {vs:List Η} {i:Nat} {m:Str->Option Η},P.Nodup->P[i]?=some x->vs[i]?=some v->kindOf x=some .local->
  bindL kindOf (P.zip vs) m x=some v
 | [],_,_,_,_,h,_,_=>by simp at h
 | _::_,[],_,_,_,_,h,_=>by simp at h
 | p::P,w::vs,0,m,nd,h1,h2,hk=>by
  simp at h1 h2;subst h1;subst h2;show bindL kindOf ((p,w)::P.zip vs) m p=_;unfold bindL;rw[sQ λv hv=>(Ϯ.mp nd).1 (NJ hv).1,δ hk];simp
 | p::P,w::vs,i+1,m,nd,h1,h2,hk=>by
  show bindL kindOf ((p,w)::P.zip vs) m x=_;unfold bindL;exact sS (i:=i) (Ϯ.mp nd).2 (by simpa using h1) (by simpa using h2) hk
def sT {kindOf:Str->Option IQ}{v:Η}:∀{P:List Str} {vs:List Η} {i:Nat} {m:Str->Option Η},P.Nodup->P[i]?=some x->vs[i]?=some v->kindOf x≠some .local->
  bindC kindOf (P.zip vs) m x=some v
 | [],_,_,_,_,h,_,_=>by simp at h
 | _::_,[],_,_,_,_,h,_=>by simp at h
 | p::P,w::vs,0,m,nd,h1,h2,hk=>by
  simp at h1 h2;subst h1;subst h2;show bindC kindOf ((p,w)::P.zip vs) m p=_;unfold bindC;rw[sR λv hv=>(Ϯ.mp nd).1 (NJ hv).1,Υ hk];simp
 | p::P,w::vs,i+1,m,nd,h1,h2,hk=>by
  show bindC kindOf ((p,w)::P.zip vs) m x=_;unfold bindC;exact sT (i:=i) (Ϯ.mp nd).2 (by simpa using h1) (by simpa using h2) hk
abbrev start (N:List Str)(vs:List V):St:=vs.map some++ϥ (N.length - vs.length) none
abbrev NW (CX:Wc)(P:Ϗ)(w:IH)(K:Ξ)(mg:Str->Option Η)(base:ϟ)(N:List Str)(qual:Str)(scope:Oi)(f:Ε)(cd:Η)(A:K')(outer:List Env)(s:Ι)(H:Hp)(E:XK):Cx where
 prog:=P
 w:=w
 K:=K
 mg:=mg
 base:=base
 A:=A.deeper (envOfC qual scope s.heap.objs.size f cd)
 N:=N
 s₀:=s
 H₀:=H
 env:=envOfC qual scope s.heap.objs.size f cd
 outer:=outer
 stack:=envOfC qual scope s.heap.objs.size f cd::outer
 ex:=[]
 calm:=true
 fn:=λ_=>true
 pn:=[]
 xe:=λe s'=>wpAny (model P w) (A.deeper (envOfC qual scope s.heap.objs.size f cd)) (leaving (envOfC qual scope s.heap.objs.size f cd) e) (λ_ s''=>CX outer H s E e s'') (λe' s''=>CX outer H s E e' s'') s'
def vB (h:sc.names.lookup x=some .cell):∃c,(cellsFrom n sc.names []).lookup x=some c:=by
 have q:=SL sc.names n [] (.inl h);exact dL.mp q
def nE {CX:Wc}{P:Ϗ}{K:Ξ}{base:ϟ}{N ps:List Str}{s s1:Ι}{H:Hp}{E:XK}{us:List Η}{vs:List V}
  (S:η N ps scope) (hd:A.handled=none) (e0:U6 P w K mg base A outer s H) (hl:vs.length=ps.length) (r:Vals vs us)
  (x:InCallC s s.heap.objs.size (bindL (envOfC qual scope s.heap.objs.size f cd).kindOf (ps.zip us) λ_=>none) (cellsFrom (s.heap.objs.size+1) scope.names []) (bindC (envOfC qual scope s.heap.objs.size f cd).kindOf (ps.zip us) λ_=>none) s1) :
  Inv (NW CX P w K mg base N qual scope f cd A outer s H E) [] (start N vs) H s1:=by
 have NV:ps.length<=N.length:=by have:=congrArg Ϻ S.pre;rw[Ϭ] at this;omega
 (refine RJ x.done λh1 tk Τ hk=>?_;subst Τ);have noA:∀b:Ε,b∉(NW CX P w K mg base N qual scope f cd A outer s H E).ex:=λb z=>absurd (show b∈([]:List Ε) from z) (by simp)
 refine⟨⟨e0.mod,S.kind,rfl,rfl,Φ _,λy z c h1 h2=>?_,λy hy=>?_,λy c _ h=>?_,λ_=>hd,azZ e0.frames,.inr ⟨rfl,rfl⟩,λb z=>absurd z (noA b),e0.bs,e0.XI,λb _ _=>noA b,λb z=>absurd z (noA b),e0.NU,e0.XJ⟩,
  rfl,e0.bare,Un.kept hk,(Κ _ x.toInCall.ns (λi y v h1 h2 h3=>?_)),λy c h=>⟨_,x.cell y c h⟩,e0.At.fresh (Φ _),λy c h=>?_,λp hp=>absurd (show p∈([]:List (Ε×Obj)) from hp) (by simp),e0.At.kept hk,?_⟩
 ·exact name_of_addr x.apart (PySem.mem_of_lookup h1) (PySem.mem_of_lookup h2)
 ·have hy:scope.names.lookup y=some .cell\/scope.names.lookup y=some .free:=hy
  rcases hy with hy | hy
  ·exact vB hy
  ·exact absurd rfl (S.abv _ (PySem.mem_of_lookup hy))
 ·exact VN (x.above y c (PySem.mem_of_lookup h))
 ·have hi:i < vs.length:=by
   unfold start at h2
   by_cases hi:i < vs.length
   ·exact hi
   ·rw[Db (by simpa using hi)] at h2
    rw[UM] at h2
    split at h2<;>cases h2
  have ha:vs[i]?=some v:=by
   unfold start at h2;rw[wf (by simpa using hi),μ] at h2;cases e:vs[i]? with
   | none=>rw[e] at h2;cases h2
   | some a=>rw[e] at h2;cases h2;rfl
  (refine ρ (r.get ha) λu hu rv=>?_);have hp:ps[i]?=some y:=by
   rw[<-S.pre,List.getElem?_take_of_lt (by omega)];exact h1
  have ndP:ps.Nodup:=by rw[<-S.pre];exact S.nd.sublist (List.take_sublist _ _)
  refine(Κ u rv ?_);rcases S.par y (Ν hp) with k | k
  ·exact .inl ⟨k,sS ndP hp hu k⟩
  ·obtain⟨c,e⟩:=vB (n:=s.heap.objs.size+1) k
   refine .inr ⟨.inl k,(Κ c e ?_)⟩;have q:=x.cell y c e;rw[sT ndP hp hu (by show scope.names.lookup y≠_;rw[k];decide)] at q;exact q
 ·exact e0.At.fresh (VN (x.above y c (PySem.mem_of_lookup h)))
 ·unfold start
  show _=N.length;rw[Ω,Ζ,FB];omega
def zD {CX:Wc}{P:Ϗ}{K:Ξ}{base:ϟ}{k:Nat}{params:az0}{dV kV:Η}
  {SR:Array (Option Η)} {N ps:List Str} {sp:Sp} (lk:K.lookup f=some ⟨oc,od,.func (JO name qual params body scope dV kV doc pm an Ϲ ct),SR⟩) (SU:NK K Ϲ qual=true) (S:η N ps scope)
  (len:∀vs H Q E,sp vs H Q E->vs.length=ps.length)
  (MX:∀(A:K') (outer:List Env) (s:Ι) (H:Hp) (vs:List V) (Q:VK) (E:XK),Jf k (A.deeper (envOfC qual scope s.heap.objs.size f Ϲ))->sp vs H Q E->
   ∃t,Rt (NW CX P w K mg base N qual scope f Ϲ A outer s H E) body t/\t { nx:=λ_ H'=>Q .cr H',rt:=Q } (start N vs) H) :
  Ϥ P w K mg base CX (k+1) f (JO name qual params body scope dV kV doc pm an Ϲ ct) ps sp:=by
 refine⟨len,λA outer s H args us vs Q E hr e0 hb r Rb=>?_⟩;have hl:=len _ _ _ _ Rb;have KX:K.In s.heap:=e0.mod.WC.keeps λb o e=>(e0.bs b o e).1;have lim:s.heap.NoLimit:=e0.mod.nolimit.keeps λb o e=>(e0.bs b o e).1;have Yi:∀y∈ps.zip us,scope.names.lookup y.1=some .local\/(scope.names.lookup y.1=some .cell/\((cellsFrom (s.heap.objs.size+1) scope.names []).lookup y.1).isSome=true):=λ⟨n,v⟩ hy=>by
  rcases S.par n (NJ hy).1 with q | q
  ·exact .inl q
  ·exact .inr ⟨q,SL _ _ _ (.inl q)⟩
 refine XS hr.depth (KX _ _ lk) rfl S.co S.gen rfl (Ww KX SU) (hb _ _ _ _ ?_);refine VS S.kind Yi λenv he s1 x=>?_;subst he;refine⟨lim.keeps x.toInCall.keep,asg ?_⟩;(refine ρ (MX A outer s H vs Q E (hr.deeper _) Rb) λt ht hq=>?_);have I:Inv (NW CX P w K mg base N qual scope f Ϲ A outer s H E) [] (start N vs) H s1:=nE S hr.hd e0 hl r x;refine ul (ht [] s1 (start N vs) H _ I hq) (λfl s' hs=>?_) λe s' hs=>hs;have fin:∀{σ':St} {H':Hp} {v:V} {u:Η},Inv (NW CX P w K mg base N qual scope f Ϲ A outer s H E) [] σ' H' s'->RelV v u->Q v H'->CE outer P w H s Q u s':=
  λ{σ' H' v u} J rv q=>(Kz v H' J.os J.bare J.base J.At ⟨rv,q⟩)
 cases fl with
 | ret u=>
  (revert hs;refine Kx λv σ' H' J rv q=>?_);exact fin J rv q
 | next=>
  (revert hs;refine sK λσ' H' J q=>?_);exact fin (v:=V.cr) (u:=be) J rfl q
 | brk=>
  (revert hs;refine sK λ_ _ _ q=>?_);exact ϲ q
 | cont=>
  (revert hs;refine sK λ_ _ _ q=>?_);exact ϲ q
section
variable {X:Cx} {t:TA} {id:String} {r:List V->Hp->VK->Prop}
abbrev tCB (r:List V->Hp->VK->Prop)(t:TA):TE:=λσ H Q=>t σ H λvs H1=>r vs H1 Q
def az (hc:IP X (.builtin id) r)(hg:Gl X x)(hm:X.mg x=none)(hv:bootBuiltins x=some (.builtin id))(ha:PA X (e::es) t)(hn:autoParam (x ≠ "__name__") L2.Kh._auto_1)(S8:autoParam ((x == ("__debug__":Str))=false) L2.Kh._auto_1)
  (he:autoParam (starEach (e::es) X.env=(false,eval e X.env)::starEach es X.env) L2.Ϩ._auto_1) (NV:autoParam ((backTo pos (starEach es X.env)).any (·.1)=false) L2.Ϩ._auto_1):PE X (.Call (.Name x p) (e::es) [] pos) (tCB r t):=by
 intro pins s σ H Q I h;refine Ϸ (cZ I hg hm hv ?_ hn S8);exact Os (Ow (ha pos pins s σ H _ I h) λus s1 vs H1 I1 r1 q1=>hc pins s1 σ H1 vs us Q I1 r1 q1) he NV
def aQ (hc:IP X (.type T) r)(hg:Gl X x)(hm:X.mg x=none)(hv:bootBuiltins x=some (.type T))(ha:PA X (e::es) t)(hn:autoParam (x ≠ "__name__") L2.Kh._auto_1)(S8:autoParam ((x == ("__debug__":Str))=false) L2.Kh._auto_1)
  (he:autoParam (starEach (e::es) X.env=(false,eval e X.env)::starEach es X.env) L2.Ϩ._auto_1) (NV:autoParam ((backTo pos (starEach es X.env)).any (·.1)=false) L2.Ϩ._auto_1):PE X (.Call (.Name x p) (e::es) [] pos) (tCB r t):=by
 intro pins s σ H Q I h;refine Ϸ (cZ I hg hm hv ?_ hn S8);exact ϯ (Ow (ha pos pins s σ H _ I h) λus s1 vs H1 I1 r1 q1=>hc pins s1 σ H1 vs us Q I1 r1 q1) he NV
end
end
variable {Q:VK}{g:TG}{t:TA}{te ta to tv td tl:TE}{tb tR:TS}{σ:St}{H H1 H2 H':Hp}{xs ys dvs:List V}{y:V}{CX:Wc}{sp:Sp}{ϔ:List (Key×V)}{tt:TT}{J:It}{rows:List (List V)}{F:List (Str×V)}
namespace HT
open PySem PyProof.Rows
section
variable {s:Ι}
abbrev O7 (n d:Nat):Option Int->Nat
 | none=>d
 | some v=>if v < 0 then(v+(n:Int)).toNat else min v.toNat n
def lP (n d:Nat):O7 n d none=d:=rfl
def lQ (n d k:Nat):O7 n d (some (k:Int))=min k n:=by
 show(if (k:Int) < 0 then((k:Int)+(n:Int)).toNat else min (k:Int).toNat n)=min k n;rw[Υ (by omega),ϵ]
def CQ (n d:Nat)(hd:d<=n)(o:Option Int):O7 n d o<=n:=by
 cases o with
 | none=>exact hd
 | some v=>
  show(if v < 0 then(v+(n:Int)).toNat else min v.toNat n)<=n
  by_cases hv:v < 0
  ·rw[δ hv];omega
  ·rw[Υ hv];exact Nat.min_le_right _ _
end
end HT
section
open PySem PySem.Spec PyProof.Rows
noncomputable abbrev TO:=St->Hp->(Option Int->Hp->Prop)->Prop
abbrev PO (X:Cx)(e:Option bv)(t:TO):Prop:=
 ∀(pins:List (Ε×Obj)) (s:Ι) (σ:St) (H:Hp) (Q:Option Int->Hp->Prop),Inv X pins σ H s->t σ H Q->
  wpAny (model X.prog X.w) X.A (evalPart e X.env) (λu s'=>∃o H',Inv X pins σ H' s'/\afP u o/\Q o H') X.xe s
abbrev ZG:TO:=λ_ H Q=>Q none H
abbrev ad4 (t:TE):TO:=λσ H Q=>t σ H λx H1=>∃i,x=.int i/\Q (some i) H1
def intsAre_of {ns:List Int}:∀{us:List Η},Vals (ns.map V.int) us->UX us ns:=by
 induction ns with
 | nil=>intro us r;rw[Ja] at r;cases r;exact .nil
 | cons n ns ih=>
  intro us r;rw[ο] at r;cases r with
  | cons r1 r2=>
   obtain⟨t,e⟩:=r1;subst e;exact .cons n t (ih r2)
section
variable {X:Cx} {lo hi:Option bv} {tl th:TO} {p2:Pos}
def fR:PO X none ZG:=by
 intro pins s σ H Q I h;rw[ag9];exact ν (ϒ none H I (.none) h)
def dW (h:PE X e te):PO X (some e) (ad4 te):=by
 intro pins s σ H Q I hw;rw[evalPart_some];refine IJ (h pins s σ H _ I hw) λu s1 x H1 I1 r1 q1=>?_;(revert q1;refine Ϟ λi Τ q=>?_;subst Τ);obtain⟨t,rfl⟩:=r1;exact(ϒ (some i) H1 I1 (.int i t) q)
abbrev ZH (X:Cx)(r:V->Option Int->Option Int->Hp->VK->Prop):Prop:=
 ∀(pins:List (Ε×Obj)) (s:Ι) (σ:St) (H:Hp) (x:V) (v vl vu:Η) (lo hi:Option Int) (sl:Ε) (Q:VK),Inv X pins σ H s->RelV x v->s.heap.IsSliceOf sl vl vu .none->afP vl lo->afP vu hi->r x lo hi H Q->
  ∃T id,typeLookup (.type T) "__getitem__"=pure (some (.builtin id))/\s.TypeIs v T/\wpAny (model X.prog X.w) X.A (getItem v (.ref sl)) (EP X pins σ Q) X.xe s
def ZH.or {r r':V->Option Int->Option Int->Hp->VK->Prop}(h:ZH X r)(h':ZH X r'):ZH X (λx lo hi H Q=>r x lo hi H Q\/r' x lo hi H Q):=by
 intro pins s σ H x v vl vu lo hi sl Q I rx hs pl pu q;rcases q with q | q
 ·exact h pins s σ H x v vl vu lo hi sl Q I rx hs pl pu q
 ·exact h' pins s σ H x v vl vu lo hi sl Q I rx hs pl pu q
abbrev tSl (r:V->Option Int->Option Int->Hp->VK->Prop)(te:TE)(tl th:TO):TE:=λσ H Q=>te σ H λx H1=>tl σ H1 λl H2=>th σ H2 λu H3=>r x l u H3 Q
def df {r:V->Option Int->Option Int->Hp->VK->Prop}(hr:ZH X r)(he:PE X e te)(hl:PO X lo tl)(hu:PO X hi th):PE X (.Subscript e (.Slice lo hi none p2) pos) (tSl r te tl th):=by
 intro pins s σ H Q I h;refine aal (IJ (he pins s σ H _ I h) λv s1 x H1 I1 r1 q1=>?_);refine wpAny_Slice (J2 (hl pins s1 σ H1 _ I1 q1) λvl s2 zz=>KA zz λl H2 I2 pl q2=>J2 (hu pins s2 σ H2 _ I2 q2) λvu s3 zz=>KA zz λu H3 I3 pu q3=>?_);rw[ag9];refine ν ?_;have I4:Inv X pins σ H3 { s3 with heap:=s3.heap.push { cls:=.type "slice",data:=.fields #[vl,vu,.none] } }:=I3.kept (t':=s3.toks) λb ob q=>Δ _ q;(refine KA (hr pins { s3 with heap:=s3.heap.push { cls:=.type "slice",data:=.fields #[vl,vu,.none] } } σ H3 x v vl vu l u s3.heap.objs.size Q I4 r1 (aa9 ..) pl pu q3) λT id hT ht hg=>?_);show wpAny (model X.prog X.w) X.A (subscriptTail e (.Slice lo hi none p2) v (.ref s3.heap.objs.size)) (EP X pins σ Q) X.xe { s3 with heap:=s3.heap.push { cls:=.type "slice",data:=.fields #[vl,vu,.none] } };exact Y6 (ops:=[.ref s3.heap.objs.size,v]) ht hT hg (by with_unfolding_all rfl)
abbrev Rc (xs:List V)(lo hi:Option Int):List V:=(xs.drop (HT.O7 xs.length 0 lo)).take (HT.O7 xs.length xs.length hi - HT.O7 xs.length 0 lo)
def vC (xs:List V)(lo hi:Option Int):(Rc xs lo hi).length<=xs.length:=by
 unfold Rc;rw[Ϭ,sw];omega
end
abbrev ZI (n:Nat)(i:Int):Option Nat:=if 0<=i then(if i < n then some i.toNat else none) else if -(n:Int)<=i then some (i+n).toNat else none
abbrev Wd (xs:List α)(i:Int):Option α:=(ZI xs.length i).bind λj=>xs[j]?
def zE {i:Int}(h:ZI n i=some j):seqIndex? i n=some j/\j < n/\-(n:Int)<=i/\i < n:=by
 unfold ZI at h
 by_cases h0:0<=i
 ·rw[δ h0] at h
  by_cases h1:i < n
  ·rw[δ h1] at h
   have e:i.toNat=j:=ϗ h;exact⟨by rw[Y7 h0 h1,e],by omega,by omega,h1⟩
  ·rw[Υ h1] at h;cases h
 ·rw[Υ h0] at h
  by_cases h1:-(n:Int)<=i
  ·rw[δ h1] at h
   have e:(i+n).toNat=j:=ϗ h;exact⟨by rw[seqIndex_neg (by omega) h1,e],by omega,h1,by omega⟩
  ·rw[Υ h1] at h;cases h
def uh {xs:List α}{i:Int}{v:α}(h:Wd xs i=some v):∃j,seqIndex? i xs.length=some j/\xs[j]?=some v/\j < xs.length/\-(xs.length:Int)<=i/\i < xs.length:=by
 unfold Wd at h;cases e:ZI xs.length i with
 | none=>rw[e] at h;cases h
 | some j=>
  rw[e] at h;(refine W7 (zE e) λh1 h2 h3 h4=>?_);exact(RI j h1 h h2 h3 h4)
def eJ {xs:List α}{v:α}(h:xs[j]?=some v):Wd xs (j:Int)=some v:=by
 have hj:j < xs.length:=(Ο.mp h).1;have e:ZI xs.length (j:Int)=some j:=by
  unfold ZI;rw[δ (by omega),δ (by omega)];simp
 unfold Wd;rw[e];exact h
def vD (xs:List α)(v:α):Wd (xs++[v]) (-1)=some v:=by
 have hl:(xs++[v]).length=xs.length+1:=by simp
 have e:ZI (xs++[v]).length (-1)=some xs.length:=by
  unfold ZI;rw[hl,Υ (by decide),δ (by omega)];congr 1;omega
 unfold Wd;rw[e];show(xs++[v])[xs.length]?=some v;simp
abbrev WE (b:bv):Prop:=∀o i,subscripted b false o i=operate [o,i] (getItem o i)
abbrev XM (X:Cx)(r:R2):Prop:=
 ∀(value slice:bv) (pins:List (Ε×Obj)) (s:Ι) (σ:St) (H:Hp) (x y:V) (v u:Η) (Q:VK),Inv X pins σ H s->RelV x v->RelV y u->r x y H Q->
  subscripted slice false v u=operate [v,u] (getItem v u)->wpAny (model X.prog X.w) X.A (subscriptTail value slice v u) (EP X pins σ Q) X.xe s
abbrev MtR (X:Cx)(id:String)(r:V->List V->Hp->VK->Prop):Prop:=
 ∀(pins:List (Ε×Obj)) (s:Ι) (σ:St) (H:Hp) (x:V) (xs:List V) (v:Η) (us:List Η) (Q:VK),Inv X pins σ H s->RelV x v->Vals xs us->r x xs H Q->
  wpAny (model X.prog X.w) X.A (call (.builtin id) (v::us)) (EP X pins σ Q) X.xe s
section
variable {X:Cx} {a b:bv} {tb:TE} 
def XM.or {r r':R2}(h:XM X r)(h':XM X r'):XM X (λx y H Q=>r x y H Q\/r' x y H Q):=by
 intro value slice pins s σ H x y v u Q I rx ry q hs;rcases q with q | q
 ·exact h value slice pins s σ H x y v u Q I rx ry q hs
 ·exact h' value slice pins s σ H x y v u Q I rx ry q hs
def au {r:R2}(hr:XM X r)(ha:PE X a ta)(hb:PE X b tb)(hs:WE b):PE X (.Subscript a b pos) (tOp r ta tb):=by
 intro pins s σ H Q I h;exact aal (ZE ha hb I h λv u s2 x y H2 I2 rx ry q=>hr a b pins s2 σ H2 x y v u Q I2 rx ry q (hs _ _))
abbrev abz (K:Ξ):R2:=λx y H Q=>∃p xs i v,x=.ref p/\y=.int i/\GT K H p xs/\Wd xs i=some v/\Q v H
abbrev abA (K:Ξ):R2:=λx y H Q=>∃p xs i v,x=.ref p/\y=.int i/\JZ K H p xs/\Wd xs i=some v/\Q v H
abbrev ah0:R2:=λx y H Q=>∃z i c,x=.str z/\y=.int i/\z.length<=sizeLine/\Wd z.cps.toList i=some c/\Q (.str ⟨#[c]⟩) H
def Ej:XM X (abz X.K):=by
 intro value slice pins s σ H x y v u Q I rx ry h hs;(revert h;refine O2 λp xs i z Τ IK hq he q=>?_;subst Τ;subst IK);cases rx;obtain⟨t,rfl⟩:=ry;(refine ϭ (I.list hq) λits r pl hz=>?_);(refine ϭ (uh he) λj h1 h2=>JT λh3 h4 h5=>?_);(refine ρ (r.get h2) λw ew Tu=>?_);have hl:=r.length;have hn:=O6;have fin:EP X pins σ Q w s:=(ϒ z H I Tu q)
 by_cases h0:0<=i
 ·have hj:i.toNat=j:=by
   rw[Y7 h0 h5] at h1;exact ϗ h1
  exact item_listR pl.isList h0 (by omega) (by rw[hj];simpa using ew) fin hs
 ·have hj:(i+(its.toArray.size:Int)).toNat=j:=by
   rw[seqIndex_neg (by omega) h4] at h1;rw[ϋ,<-hl];exact ϗ h1
  exact Xx (x:=w) pl.isList.typeIs aa'.lookup
   (wpAny_getItem_list_neg (Q:=λr s'=>r=w/\EP X pins σ Q r s') pl.isList (by omega) (by rw[ϋ]<;>omega) (by omega) (by rw[hj];simpa using ew) ⟨rfl,fin⟩) hs
def FZ:XM X (abA X.K):=by
 intro value slice pins s σ H x y v u Q I rx ry h hs;(revert h;refine O2 λp xs i z Τ IK hq he q=>?_;subst Τ;subst IK);cases rx;obtain⟨t,rfl⟩:=ry;(refine ϭ (I.tuple hq) λits r pl hz=>?_);(refine ϭ (uh he) λj h1 h2=>JT λh3 h4 h5=>?_);(refine ρ (r.get h2) λw ew Tu=>?_);have hl:=r.length;have hn:=O6;have fin:EP X pins σ Q w s:=(ϒ z H I Tu q)
 exact Xx (x:=w) pl.typeIs slot_tuple_getitem.lookup
  (getItem_tuple (j:=j) (Q:=λr s'=>r=w/\EP X pins σ Q r s') pl (by omega) (by omega) (by rw[ϋ,<-hl];exact h1) (by simpa using ew) ⟨rfl,fin⟩) hs
def F0:XM X ah0:=by
 intro value slice pins s σ H x y v u Q I rx ry h hs;(revert h;refine RG λz i c Τ IK hz he q=>?_;subst Τ;subst IK);obtain⟨t,rfl⟩:=rx;obtain⟨t',rfl⟩:=ry;(refine ϭ (uh he) λj h1 h2=>JT λh3 h4 h5=>?_);have hl:z.cps.toList.length=z.length:=by simp[afQ]
 rw[hl] at h1 h4 h5;have hn:=O6
 exact Y6 (M8 s z t) slot_str_getitem.lookup (getItem_str (c:=c) (by
  have e1:decide (i < -(2 ^ 63:Int))=false:=Ϧ (by omega);have e2:decide (i≥2 ^ 63)=false:=Ϧ (by omega)
  rw[e1,e2,Uj]) (by rw[h1];simpa using h2) (ϒ (.str ⟨#[c]⟩) H (I.tok _) ⟨_,rfl⟩ q)) hs
def xW (its:List Η)(n j:Nat)(u:Η):PV (·.setIfInBounds j u) { cls:=.type "list",data:=.seq its.toArray n }={ cls:=.type "list",data:=.seq (its.set j u).toArray n }:=by
 simp[PV]
def Inv.lst {s:Ι}{p:Ε}(I:Inv X pins σ H s)(h:H p=some (.lst xs)) :
  ∃(its:List Η) (n:Nat),Vals xs its/\s.heap.get? p=some { cls:=.type "list",data:=.seq its.toArray n }/\xs.length<=sizeLine:=by
 (refine MU (I.At p _ h) λz=>sK λits n r e=>?_);exact(ϒ its n r e z)
def Inv.abB {s:Ι}{p:Ε}{its':List Η}{f:Obj->Obj}(I:Inv X pins σ H s)(h:H p=some (.lst xs))
  (ho:s.heap.get? p=some { cls:=.type "list",data:=.seq its.toArray n }) (hf:f { cls:=.type "list",data:=.seq its.toArray n }={ cls:=.type "list",data:=.seq its'.toArray n' }) (r:Vals ys its') (hz:ys.length<=sizeLine) (t:Nat) :
  Inv X pins σ (upd H p (.lst ys)) { s with heap:=s.heap.update p f,toks:=t }:=by
 have e:(s.heap.update p f).get? p=some { cls:=.type "list",data:=.seq its'.toArray n' }:=by
  rw[IU f ho (by rw[hf]<;>rfl),hf]
 refine I.write (x:=p) (e:=p) (by rw[h];trivial) (.inl rfl) (λb u hb q=>(re _ _ (ω hb)).trans q) ⟨_,e⟩ ?_;exact⟨hz,(gl its' n' r e)⟩
abbrev aaB:V->V->V->Hp->(Hp->Prop)->Prop:=λo i v H Q=>∃p xs k j,o=.ref p/\i=.int k/\H p=some (.lst xs)/\ZI xs.length k=some j/\Q (upd H p (.lst (xs.set j v)))
def set_list:abq X aaB:=by
 intro pins s σ H o i v ov iv u Q I ro ri rv h;(revert h;refine O2 λp xs k j Τ IK hp hj q=>?_;subst Τ;subst IK);cases ro;obtain⟨t,rfl⟩:=ri;(refine KA (I.lst hp) λits n r ho hz=>?_);(refine W7 (zE hj) λh1 h2 h3 h4=>?_);have hl:=r.length;have hn:=O6;have I':Inv X pins σ (upd H p (.lst (xs.set j v))) { s with heap:=s.heap.update p (PV (·.setIfInBounds j u)) }:=
  I.abB hp ho (xW its n j u) (r.set rv j) (by rw[RB];exact hz) s.toks
 by_cases h0:0<=k
 ·have hk:k.toNat=j:=by
   rw[Y7 h0 h4] at h1;exact ϗ h1
  exact W.ki_setAt ho h0 (by omega) (by rw[ϋ,<-hl];exact h4) (by rw[hk];exact(Κ _ I' q))
 ·have hk:(k+(its.toArray.size:Int)).toNat=j:=by
   rw[seqIndex_neg (by omega) h3] at h1;rw[ϋ,<-hl];exact ϗ h1
  exact W.ki_setBack ho (by omega) (by rw[ϋ,<-hl];exact h3) (by omega) (by rw[hk];exact(Κ _ I' q))
def ui (lo hi:Option Int)(n:Nat):(sliceBounds lo hi none n).1=((HT.O7 n 0 lo:Nat):Int)/\(sliceBounds lo hi none n).2.1=((HT.O7 n n hi:Nat):Int)/\(sliceBounds lo hi none n).2.2=1:=by
 refine⟨?_,?_,rfl⟩
 ·cases lo with
  | none=>simp[sliceBounds,HT.O7]
  | some i=>
   simp only[sliceBounds,HT.O7,W0,show(1:Int) > 0 by decide,Om]
   by_cases h:i < 0
   ·simp only[h,Om]<;>omega
   ·simp only[h,if_false]<;>omega
 ·cases hi with
  | none=>simp[sliceBounds,HT.O7]
  | some i=>
   simp only[sliceBounds,HT.O7,W0,show(1:Int) > 0 by decide,Om]
   by_cases h:i < 0
   ·simp only[h,Om]<;>omega
   ·simp only[h,if_false]<;>omega
def r8 (its:List Η)(lo hi:Option Int):slicePick its.toArray lo hi none=((its.drop (HT.O7 its.length 0 lo)).take (HT.O7 its.length its.length hi - HT.O7 its.length 0 lo)).toArray:=by
 (refine IT (ui lo hi its.toArray.size) λh1 h2 h3=>?_);unfold slicePick;rw[h1,h2,h3];simp only[afR,pick_run,ϋ]<;>rfl
abbrev abC (K:Ξ):V->Option Int->Option Int->Hp->VK->Prop:=λx lo hi H Q=>∃a xs,x=.ref a/\GT K H a xs/\∀p,H p=none->Q (.ref p) (upd H p (.lst (Rc xs lo hi)))
def Ek:ZH X (abC X.K):=by
 intro pins s σ H x v vl vu lo hi sl Q I rx hs pl pu h;(revert h;refine IY λa xs Τ hx q=>?_;subst Τ);cases rx;(refine ϭ (I.list hx) λits r ht hz=>?_);have hlen:=r.length;refine(ϒ ("list") _ aa'.lookup ht.isList.typeIs ?_);refine wpAny_getItem_list_slice ht.isList hs pl pu .none (by simp) ?_ (by rw[ϋ]<;>omega);rw[r8,<-hlen];refine(ϒ (.ref s.heap.objs.size) _ (I.laid (t':=s.toks) (o:=.lst (Rc xs lo hi)) (λb ob q=>Δ _ q) (Φ _) ?_) rfl (q _ (I.At.fresh (Φ _))));exact⟨ζ (vC xs lo hi) hz,(gl _ 0 ((r.drop (HT.O7 xs.length 0 lo)).take (HT.O7 xs.length xs.length hi - HT.O7 xs.length 0 lo)) (θ _ rfl))⟩
abbrev OF:V->Bool
 | .cr=>true
 | .bl _=>true
 | .int _=>true
 | .str _=>true
 | _=>false
abbrev ZJ:V->V->Bool
 | .cr,.cr=>true
 | .bl a,.bl b=>a == b
 | .bl a,.int b=>(if a then 1 else 0) == b
 | .int a,.bl b=>a == (if b then 1 else 0)
 | .int a,.int b=>a == b
 | .str a,.str b=>a == b
 | _,_=>false
def F7 {s:Ι}{x:V}{v:Η}(ry:RelV y u)(rx:RelV x v)(fy:OF y=true)(fx:OF x=true):acL A s u v (ZJ y x):=by
 cases y with
 | cr=>
  cases ry;cases x with
  | cr=>cases rx;exact ag' _
  | bl b=>cases rx;exact aha b
  | int b=>obtain⟨t,rfl⟩:=rx;exact ahb b t
  | str b=>obtain⟨t,rfl⟩:=rx;exact ahc b t
  | _=>exact absurd (show false=true from fx) ϊ
 | bl a=>
  cases ry;cases x with
  | cr=>cases rx;exact ahd a
  | bl b=>cases rx;exact ahe a b
  | int b=>obtain⟨t,rfl⟩:=rx;exact ahf a b t
  | str b=>obtain⟨t,rfl⟩:=rx;exact ahg a b t
  | _=>exact absurd (show false=true from fx) ϊ
 | int a=>
  obtain⟨t',rfl⟩:=ry;cases x with
  | cr=>cases rx;exact ahh a t'
  | bl b=>cases rx;exact ahi a t' b
  | int b=>obtain⟨t,rfl⟩:=rx;exact ahj a t' b t
  | str b=>obtain⟨t,rfl⟩:=rx;exact Uf a t' b t
  | _=>exact absurd (show false=true from fx) ϊ
 | str a=>
  obtain⟨t',rfl⟩:=ry;cases x with
  | cr=>cases rx;exact ahk a t'
  | bl b=>cases rx;exact ahl a t' b
  | int b=>obtain⟨t,rfl⟩:=rx;exact Ug a t' b t
  | str b=>obtain⟨t,rfl⟩:=rx;exact ahm a t' b t
  | _=>exact absurd (show false=true from fx) ϊ
 | _=>exact absurd (show false=true from fy) ϊ
abbrev We (x:V)(u:Η):Bool:=match u with
 | .none=>ZJ .cr x
 | .bool b=>ZJ (.bl b) x
 | .int i _=>ZJ (.int i) x
 | .str z _=>ZJ (.str z) x
 | _=>false
def CS {x:V}(r:RelV y u)(f:OF y=true):We x u=ZJ y x:=by
 cases y with
 | cr=>cases r;rfl
 | bl b=>cases r;rfl
 | int i=>obtain⟨t,rfl⟩:=r;rfl
 | str z=>obtain⟨t,rfl⟩:=r;rfl
 | _=>exact absurd (show false=true from f) ϊ
def lR {x:V}:∀{xs:List V} {us:List Η},Vals xs us->xs.all OF=true->us.any (We x)=xs.any λy=>ZJ y x
 | _,_,.nil,_=>rfl
 | y::xs,u::us,.cons r t,f=>by
  rw[aam,Ϣ] at f;rw[J',J',CS r f.1,lR t f.2]
def jo {s:Ι}{x:V}{v:Η}(rx:RelV x v)(fx:OF x=true):∀{xs:List V} {us:List Η},Vals xs us->xs.all OF=true->∀u∈us,acL A s u v (We x u)
 | _,_,.nil,_=>λu hu=>by cases hu
 | y::xs,u::us,.cons r t,f=>λu' hu=>by
  rw[aam,Ϣ] at f;rcases Θ.mp hu with rfl | hu
  ·rw[CS r f.1];exact F7 r rx f.1 fx
  ·exact jo rx fx t f.2 u' hu
abbrev inV (x:V)(xs:List V):Bool:=xs.any λy=>ZJ y x
abbrev rIn (K:Ξ)(neg:Bool):R2:=λx y H Q=>∃p xs,y=.ref p/\(GT K H p xs\/JZ K H p xs)/\OF x=true/\xs.all OF=true/\Q (.bl (if neg then !inV x xs else inV x xs)) H
def Ay:J3 X (compareOp .In) (rIn X.K false):=by
 intro pins s σ H x y v u Q I rx ry h;(revert h;refine O1 λp xs Τ hq fx fs q=>?_;subst Τ);cases ry;rcases hq with hq | hq
 ·(refine ϭ (I.list hq) λits r pl hz=>?_)
  refine SeqAt.in_listAt (We x) pl.isList (λw hw=>jo rx fx r fs w (by simpa using hw)) (ϒ (.bl _) H I rfl ?_);rw[show its.toArray.any (We x)=its.any (We x) by simp,lR r fs];exact q
 ·(refine ϭ (I.tuple hq) λits r pl hz=>?_)
  refine SeqAt.in_tupleAt (We x) pl (λw hw=>jo rx fx r fs w (by simpa using hw)) (ϒ (.bl _) H I rfl ?_);rw[show its.toArray.any (We x)=its.any (We x) by simp,lR r fs];exact q
def uj:J3 X (compareOp .NotIn) (rIn X.K true):=by
 intro pins s σ H x y v u Q I rx ry h;(revert h;refine O1 λp xs Τ hq fx fs q=>?_;subst Τ);cases ry;rcases hq with hq | hq
 ·(refine ϭ (I.list hq) λits r pl hz=>?_)
  refine SeqAt.notIn_listAt (We x) pl.isList (λw hw=>jo rx fx r fs w (by simpa using hw)) (ϒ (.bl _) H I rfl ?_);rw[show its.toArray.any (We x)=its.any (We x) by simp,lR r fs];exact q
 ·(refine ϭ (I.tuple hq) λits r pl hz=>?_)
  refine SeqAt.notIn_tupleAt (We x) pl (λw hw=>jo rx fx r fs w (by simpa using hw)) (ϒ (.bl _) H I rfl ?_);rw[show its.toArray.any (We x)=its.any (We x) by simp,lR r fs];exact q
def uk:J3 X (compareOp .NotIn) (λx y H Q=>∃i j,x=.str i/\y=.str j/\Q (.bl (!(!(LP j i 0 j.length 1).isEmpty))) H):=by
 intro pins s σ H x y v u Q I rx ry h;(revert h;refine IY λi j Τ IK q=>?_;subst Τ;subst IK);obtain⟨t,rfl⟩:=rx;obtain⟨t',rfl⟩:=ry;exact notIn_str (ϒ (.bl _) H I rfl q)
def um:IP X (.builtin "len") (λxs H Q=>∃p ys,xs=[.ref p]/\(GT X.K H p ys\/JZ X.K H p ys)/\Q (.int ys.length) H):=by
 intro pins s σ H xs us Q I r h;(revert h;refine IY λp ys Τ hq q=>?_;subst Τ);(refine ρ (vals1 r) λu Τ rx=>?_;subst Τ);cases rx;have hn:=O6;rcases hq with hq | hq
 ·(refine ϭ (I.list hq) λits r' pl hz=>?_)
  have hlen:=r'.length;exact Calls.call_len_list pl.isList (by simp only[ϋ]<;>omega) (ϒ (.int ys.length) H (I.tok _) ⟨s.toks+1,by rw[ϋ,hlen]⟩ q)
 ·(refine ϭ (I.tuple hq) λits r' pl hz=>?_)
  have hlen:=r'.length;exact len_tuple pl (by simp only[ϋ]<;>omega) (ϒ (.int ys.length) H (I.tok _) ⟨s.toks+1,by rw[ϋ,hlen]⟩ q)
def uo:IP X (.builtin "len") (λxs H Q=>∃z,xs=[.str z]/\z.length<=sizeLine/\Q (.int z.length) H):=by
 intro pins s σ H xs us Q I r h;(revert h;refine G' λz Τ hz q=>?_;subst Τ);(refine ρ (vals1 r) λu Τ=>Nc λt IK=>?_;subst Τ;subst IK);have hn:=O6;exact len_str (by omega) (ϒ (.int z.length) H (I.tok _) ⟨_,rfl⟩ q)
def IP.or {f:Η}{r r':List V->Hp->VK->Prop}(h:IP X f r)(h':IP X f r'):IP X f (λxs H Q=>r xs H Q\/r' xs H Q):=by
 intro pins s σ H xs us Q I rs q;rcases q with q | q
 ·exact h pins s σ H xs us Q I rs q
 ·exact h' pins s σ H xs us Q I rs q
def uq:IP X (.type "list") (λxs H Q=>∃p ys,xs=[.ref p]/\(GT X.K H p ys\/JZ X.K H p ys)/\∀l,H l=none->Q (.ref l) (upd H l (.lst ys))):=by
 intro pins s σ H xs us Q I r h;(revert h;refine IY λp ys Τ hq q=>?_;subst Τ);(refine ρ (vals1 r) λu Τ rx=>?_;subst Τ);cases rx;have fin:∀(its:List Η),Vals ys its->ys.length<=sizeLine->∀(h':ϟ) (c':Nat),(∀b o',s.heap.get? b=some o'->h'.get? b=some o')->
   h'.get? s.heap.objs.size=some { cls:=.type "list",dict:=none,data:=.seq its.toArray c',slots:=#[] }->EP X pins σ Q (.ref s.heap.objs.size) { s with heap:=h' }:=λits r' hz h' c' kp e=>
  (ϒ (.ref s.heap.objs.size) _ (I.laid (t':=s.toks) kp (Φ _) (show EQ X.prog X.w _ h' _ (.lst ys) from⟨hz,(gl its c' r' e)⟩)) rfl (q _ (I.At.fresh (Φ _))))
 rcases hq with hq | hq
 ·(refine ϭ (I.list hq) λits r' pl hz=>?_)
  have hlen:=r'.length;(refine ϭ pl.isList λo ho hc=>Nc λn hd=>?_);exact ahn p (.inl rfl) ho hc hd (λh' c' kp e=>fin its r' hz h' c' kp e) (by simp only[ϋ]<;>omega)
 ·(refine ϭ (I.tuple hq) λits r' pl hz=>?_)
  have hlen:=r'.length;(revert pl;refine G' λo ho hc=>Nc λn hd=>?_);exact ahn p (.inr rfl) ho hc hd (λh' c' kp e=>fin its r' hz h' c' kp e) (by simp only[ϋ]<;>omega)
abbrev tyV (K:Ξ)(T:String)(x:V)(H:Hp):Prop:=match x with
 | .str _=>T="str"
 | .int _=>T="int"
 | .ref p=>(T="list" /\ ∃xs,GT K H p xs)\/(T="tuple" /\ ∃o,K.lookup p=some o/\o.cls=.type "tuple" /\ o.dict=none)\/
   (T="dict" /\ ((∃ϔ,H p=some (.dK ϔ))\/∃ϔ,H p=some (.dT ϔ)))\/(T="set" /\ ∃S n,H p=some (.set S n))
 | _=>False
def Ga {s:Ι}{x:V}{v:Η}(I:Inv X pins σ H s)(r:RelV x v)(ty:tyV X.K T x H) :
  s.TypeIs v T/\∀a,v=.ref a->∃ob,s.heap.get? a=some ob/\ob.dict=none:=by
 cases x with
 | str z=>
  obtain⟨t,rfl⟩:=r;cases (show T="str" from ty);exact⟨M8 s z t,λ_ e=>nomatch e⟩
 | int i=>
  obtain⟨t,rfl⟩:=r;cases (show T="int" from ty);exact⟨typeIs_int s i t,λ_ e=>nomatch e⟩
 | ref p=>
  cases r;rcases ty with⟨rfl,xs,hq⟩ | ⟨rfl,o,hk,hc,hd⟩ | ⟨rfl,hk⟩ | ⟨rfl,S,n,hk⟩
  ·(refine ϭ (I.list hq) λits _ pl _=>?_)
   refine⟨pl.isList.typeIs,λa e=>?_⟩;cases e;(revert pl;refine NB λo n e c hd _=>?_);exact(Κ o e hd)
  ·refine⟨(Κ o (I.LZ p o hk) hc),λa e=>?_⟩
   cases e;exact(Κ o (I.LZ _ o hk) hd)
  ·have z:∃o,s.heap.get? p=some o/\o.ExactDict:=by
    rcases hk with⟨ϔ,hk⟩ | ⟨ϔ,hk⟩
    ·(refine IT (I.At p _ hk) λ_ _=>Ϟ λ_ _=>Kx λo _ _ e ex _=>?_)
     exact(Κ o e ex)
    ·(refine IT (I.At p _ hk) λ_ _=>Ϟ λ_ _=>Kx λo _ _ e ex _=>?_)
     exact(Κ o e ex)
   (revert z;refine Ϟ λo e ex=>?_);refine⟨(Κ o e ex.1),λa e2=>?_⟩;cases e2;exact(Κ o e ex.2.1)
  ·(refine ahs (I.At p _ hk) λo _ _ _ e=>Jb λex _=>?_)
   refine⟨(Κ o e ex.1),λa e2=>?_⟩;cases e2;exact(Κ o e ex.2.1)
 | _=>exact ϲ ty
abbrev auR (K:Ξ)(T:String)(r:V->List V->Hp->VK->Prop)(to:TE):TE:=λσ H Q=>to σ H λx H1=>tyV K T x H1/\r x [] H1 Q
abbrev tBM (K:Ξ)(T:String)(r:V->List V->Hp->VK->Prop)(to:TE)(t:TA):TE:=λσ H Q=>to σ H λx H1=>tyV K T x H1/\t σ H1 λxs H2=>r x xs H2 Q
variable {o:bv} {id:String} {r:V->List V->Hp->VK->Prop}
def Hs (pa:ay4 T)(slot:Slot T name id)(hty:typeOf (.builtin id)=pure (.type "method_descriptor"))(hm:MtR X id r)(ho:PE X o to)(ha:PA X (e::es) t)
  (U7:autoParam (attributeBase o name X.env (eval o X.env)=eval o X.env) L2.Ϩ._auto_1)
  (Yj:autoParam (((backTo JS (starEach (e::es) X.env)).all (λx=>!x.1) && (backToKw JS (keywordEach [] X.env)).all (λx=>x.1.isSome)
   && decide ((e::es).length+([]:List MO).length+(if ([]:List MO).isEmpty then 0 else 1) < 30))=true) L2.Ϩ._auto_1)
  (U8:autoParam ((apos.endLine == JS.line)=true) L2.Ϩ._auto_1) (hs:autoParam (starEach (e::es) X.env=(false,eval e X.env)::starEach es X.env) L2.Ϩ._auto_1) (O8:autoParam ((backTo JS (starEach es X.env)).any (·.1)=false) L2.Ϩ._auto_1) :
  PE X (.Call (.Attribute o name apos) (e::es) [] JS) (tBM X.K T r to t):=by
 intro pins s σ H Q I h;refine Xy U7 Yj U8 rfl (J2 (ho pins s σ H _ I h) λv s1 zz=>U1 zz λx H1 I1 r1 ty q1=>?_);obtain⟨h1,h2⟩:=Ga I1 r1 ty;refine(Kz T id pa slot hty h1 ⟨h2,?_⟩);have hA:=ha JS pins s1 σ H1 _ I1 q1;rw[hs] at hA ⊢;refine Kr (by show(false || (backTo JS (starEach es X.env)).any (·.1))=false;rw[O8]<;>rfl) (La ?_);exact J2 hA λus s2 zz=>KA zz λvs H2 I2 r2 q2=>hm pins s2 σ H2 x vs v us Q I2 r1 r2 q2
end
abbrev MtM (X:Cx)(id:String)(r:V->List V->Hp->VK->Prop):Prop:=
 ∀(pins:List (Ε×Obj)) (s:Ι) (σ:St) (H:Hp) (x:V) (xs:List V) (v:Η) (us:List Η) (Q:VK),Inv X pins σ H s->RelV x v->Vals xs us->r x xs H Q->
  wpAny (model X.prog X.w) X.A (call (.builtin id) (v::us)) (EP X pins σ Q) X.xe s
def Vals.one:∀{x:V} {us:List Η},Vals [x] us->∃u,us=[u]/\RelV x u
 | _,_,.cons r .nil=>(Κ _ rfl r)
section
variable {X:Cx} {s:Ι} {l:Ε} {zs:List V}
def Inv.ad5 {its':List Η}{f:Array Η->Array Η}{t':Nat}(I:Inv X pins σ H s)(hH:H l=some (.lst xs))
  (e:s.heap.get? l=some { cls:=.type "list",data:=.seq its.toArray n }) (hf:f its.toArray=its'.toArray) (hv:Vals ys its') (hz:ys.length<=sizeLine) :
  Inv X pins σ (upd H l (.lst ys)) { s with heap:=s.heap.update l (PV f),toks:=t' }:=by
 have q:=PySem.IsL.update e f;rw[hf] at q;refine I.write (x:=l) (e:=l) (by rw[hH];exact trivial) (.inl rfl) (λb' u hb hu=>(re s.heap (PV f) (ω hb)).trans hu) ⟨_,q⟩ ?_;exact⟨hz,(gl its' _ hv q)⟩
def Inv.ad6 (I:Inv X pins σ H s)(hv:Vals ys its)(hz:ys.length<=sizeLine) :
  Inv X pins σ (upd H s.heap.objs.size (.lst ys)) { s with heap:=s.heap.push { cls:=.type "list",data:=.seq its.toArray },toks:=t' }:=
 I.laid (λ_ _ q=>Δ _ q) (Φ _) ⟨hz,(gl its 0 hv (θ _ rfl))⟩
def Inv.fresh (I:Inv X pins σ H s):H s.heap.objs.size=none:=I.At.fresh (Φ _)
def Inv.abE (I:Inv X pins σ H s)(hH:H l=some (.lst xs)):xs.length<=sizeLine/\∃(its:List Η) (n:Nat),Vals xs its/\xs.length=its.length/\s.heap.get? l=some { cls:=.type "list",data:=.seq its.toArray n }:=by
 (refine MU (I.At l _ hH) λz=>sK λits n r e=>?_);exact⟨z,(ϒ its n r r.length e)⟩
def Yk (h:n<=sizeLine):Lo n=false:=by
 unfold Lo;exact Ϧ (by omega)
end
section
variable {X:Cx}
abbrev ZK:V->List V->Hp->VK->Prop:=λx vs H Q=>∃l xs y,x=.ref l/\vs=[y]/\H l=some (.lst xs)/\xs.length < sizeLine/\Q .cr (upd H l (.lst (xs++[y])))
def cu:MtM X "list.append" ZK:=by
 intro pins s σ H x vs v us Q I rx rv h;(revert h;refine RG λl xs y Τ IK hH hz q=>?_;subst Τ;subst IK);cases rx;(refine ρ rv.one λu Τ ru=>?_;subst Τ);(refine MU (I.abE hH) λz=>IY λits n r hl e=>?_);refine Rq F.slot_list_append (Κ _ e rfl) F.entry_list_append (F.args_list_append_2 _ _) (PySem.list_append l its.toArray n u (by rw[ϋ];omega)) ⟨e,?_⟩;refine(ϒ (.cr) _ (I.ad5 (its':=its++[u]) hH e (by simp) (r.append (.cons ru .nil)) ?_) rfl q);rw[Ω,jp];omega
abbrev ZL:V->List V->Hp->VK->Prop:=λx vs H Q=>∃l b xs zs,x=.ref l/\vs=[.ref b]/\H l=some (.lst xs)/\H b=some (.lst zs)/\xs.length+zs.length<=sizeLine/\Q .cr (upd H l (.lst (xs++zs)))
def sU:MtM X "list.extend" ZL:=by
 intro pins s σ H x vs v us Q I rx rv h;(revert h;refine O2 λl b xs zs Τ IK hH hB=>Jb λhz q=>?_;subst Τ;subst IK);cases rx;(refine ρ rv.one λu Τ ru=>?_;subst Τ);cases ru;(refine MU (I.abE hH) λz=>IY λits n r hl e=>?_);(refine MU (I.abE hB) λz2=>IY λU9 n2 r2 Qa e2=>?_);have hsz:its.toArray.size+U9.toArray.size<=sizeLine:=by rw[ϋ,ϋ];omega
 have ad7:¬(!its.toArray.isEmpty && Lo (its.toArray.size+U9.toArray.size))=true:=by
  rw[Yk hsz,Bool.and_false];exact ϊ
 refine Rq F.slot_list_extend (Κ _ e rfl) F.entry_list_extend (F.args_list_extend_2 _ _)
  (auy l its.toArray n b U9.toArray n2 ad7 (by rw[ϋ];omega) (by omega)) ⟨e,e2,?_⟩
 refine(ϒ (.cr) _ (I.ad5 (its':=its++U9) hH e (by simp) (r.append r2) ?_) rfl q);rw[Ω];omega
end
end
namespace Att
open PySem PySem.W PySem.Calls PyProof.Rows
def oX {P:Xz}{h:ϟ}:∀(ns:List Int) (vs:List Η),WellAll P h vs (ns.map adq)->UX vs ns:=by
 intro ns
 induction ns with
 | nil=>
  intro vs w;rw[Ja] at w;cases w;exact .nil
 | cons n ns ih=>
  intro vs w;rw[ο] at w;cases w with
  | cons a b=>
   cases a;exact .cons _ _ (ih _ b)
def Az {l:ash}(hn:l.most=some n){P:Xz}{h:ϟ}{args:List WData}{vals:List Η}
  (ZM:l.row.toRowW.claim.pre args=true) (WF:WellAll P h vals args) :
  ∃a vs ns,vals=[π a]/\args=[WData.list (ns.map adq)]/\h.get? a=some { cls:=.type "list",data:=.seq vs.toArray }/\UX vs ns/\ns.length<=n:=by
 have hsh:az1 [] args [.list .int]=true:=(ay5 ZM).1;have hc:l.pre.holds [] { args:=args }=true:=(ay5 ZM).2;(refine KA (hasAllW_cons hsh) λd r Τ h1 h2=>?_;subst Τ);obtain rfl:=hasAllW_nil h2;(refine ρ (hasW_list h1) λxs Τ h3=>?_;subst Τ);obtain⟨ns,rfl⟩:=items_int h3;have hlen:ns.length<=n:=by
  unfold ay6 at hc;have h4:(WTm.not (.lt (.lit (.int (n:Int))) (.len (.arg 0)))).holds [] { args:=[.list (ns.map .int)] }=true:=by
   have h4:=(holds_andW hc).1;rw[hn] at h4;exact h4
  have h5:=condW_of h4 (w_not (w_lt w_lit (w_len_list (w_arg rfl))));rw[Ζ] at h5;refine Nat.le_of_not_lt λq=>?_;have q':(n:Int) < ((ns.length:Nat):Int):=by omega
  first
   | (rw[j' q'] at h5;exact absurd h5 (by decide))
   | (simp at h5;omega)
 cases WF with
 | cons w1 w2=>
  cases w2;cases w1 with
  | list ho Yl=>exact(IN _ _ ns rfl rfl ho (oX ns _ Yl) hlen)
def AA (l:ash)(args:List WData):l.row.toRowW.claim.post args (.bool true) args=true:=
 postW_of (r:=l.row.toRowW) (X:=(true == true))
  (show aba [] (.bool true) .bool=true by first | rfl | decide | simp[aba,az2,az3])
  (show(WTm.eq .res (.lit (.bool true))).value [] { args:=args,res:=some (.bool true),after:=args }=some (.bool (true == true)) from w_eq_bool (w_res rfl) w_lit) rfl
def vE {l:ash}{q:Ϗ}{loose:List Str}{XP:(Str->Option Η)->ϟ->Prop}{YP:IH->ϟ->Prop}{d:ay7}
  (hn:l.most=some n) (hdf:d.params.defaults=[])
  (call:∀(w:IH) (s₀ s₁:Ι) (mg mb:Str->Option Η) (fa:Ε) (o:Obj) (pm cd doc:Η) (a:Ε) (vs:List Η) (ns:List Int),
   Ground q loose [] XP w s₀ mg mb s₁.heap->YP w s₁.heap->
   s₁.heap.get? fa=some o->o.data=.func (docDef d.name d.params d.body d.scope pm cd doc)->s₁.heap.CodeRec cd d.name->mg d.name=some (.ref fa)->
   s₁.heap.get? a=some { cls:=.type "list",data:=.seq vs.toArray }->UX vs ns->ns.length<=n->s₁.gens=#[]->
   codeAny (model l.prog w) callerA (.call (.ref fa) ⟨[.ref a],[]⟩) (λr s'=>r=.ok (.ret (.bool true))/\OldK s₁.heap s'.heap/\s'.os=s₁.os/\Nz s'.gens) s₁) :
  WalkO q loose XP YP l.row.toRowW d [] (λf vs=>PySem.call f vs):=by
 intro w s₀ s₁ mg mb G Y fa o pm cd doc dV kV ho hd SU hD hmg hg args vals as ZM auT hrd WF hlo;obtain rfl:dV=.none:=Dflts.none hD hdf;obtain rfl:kV=.none:=Dflts.noKw hD;(refine aht (Az hn ZM WF) λa vs ns Τ IK abF hints hlen=>?_;subst Τ;subst IK);refine enter_call (IV (call w s₀ s₁ mg mb fa o pm cd doc a vs ns G Y ho (fd_plain hd) SU hmg abF hints hlen hg) λr s' hq=>?_);(revert hq;refine Um λΤ h2 h3 h4=>?_;subst Τ);exact⟨.inl (IN (.bool true) (.bool true) ([]) rfl (λ_=>rfl) (.bool true) (AA l _) (λ_=>⟨acM,λ_ hm=>(nomatch hm)⟩)),h2,h3,h4⟩
end Att
section
open PySem PySem.Spec PyProof.Rows
def sV:∀{vs:List Η} {ns:List Int},UX vs ns->Vals (ns.map V.int) vs
 | _,_,.nil=>.nil
 | _,_,.cons n t h=>.cons ⟨t,rfl⟩ (sV h)
abbrev abG (H:Hp):Prop:=∀b,H b=none\/∃o xs,H b=some (.Ra o (.lst xs))
def CT {P:Ϗ}{w:IH}{K:Ξ}{mb:Str->Option Η}{CX:Wc}{k:Nat}{fa:Ε}{fd:Jr}{sp:Sp}{s₁:Ι}{vs:List Η}{ns:List Int}
  (KX:K.In s₁.heap) (hns:s₁.heap.Ns mainGlobals mg) (hb:s₁.heap.Ns builtinsNs mb) (hbb:∀x:Str,x ≠ "__name__" -> mb x=bootBuiltins x) (ah4:s₁.heap.NoLimit) (hg:s₁.gens=#[])
  (ha:s₁.heap.get? a=some { cls:=.type "list",data:=.seq vs.toArray }) (hi:UX vs ns) (hl:ns.length<=sizeLine) (hr:Jf k callerA)
  (F:∀base:ϟ,K.In base->base.Ns mainGlobals mg->Ϥ P w K mg base CX k fa fd [x] sp) (ad':∀(s:Ι) (u:Η),SK s fd ⟨[u],[]⟩ [(x,u)])
  (Rb:∀H:Hp,abG H->GT K H a (ns.map V.int)->sp [.ref a] H (λv _=>v=.bl true) λ_ _ _=>False)
  (hCX:∀H e s',CX [] H s₁ (λ_ _ _=>False) e s'->False) :
  codeAny (model P w) callerA (.call (.ref fa) ⟨[.ref a],[]⟩) (λr s'=>r=.ok (.ret (.bool true))/\OldK s₁.heap s'.heap/\s'.os=s₁.os/\Nz s'.gens) s₁:=by
 have rv:=sV hi;have ah6:=hi.length;have core:∀H:Hp,abG H->GT K H a (ns.map V.int)->NO P w H s₁.heap->(∀b,H b≠none->b=a)->(H a≠none->K.lookup a=none)->
   codeAny (model P w) callerA (.call (.ref fa) ⟨[.ref a],[]⟩) (λr s'=>r=.ok (.ret (.bool true))/\OldK s₁.heap s'.heap/\s'.os=s₁.os/\Nz s'.gens) s₁:=by
  intro H hO hS At hA hK;have base_of:∀{b:Ε} {o:Obj},s₁.heap.get? b=some o->H b=none->(Uo s₁.heap H).get? b=some o:=λe n=>Cv e n;have noA:∀{b:Ε} {o:Obj} {es:Array Lw} {ep:Nat},s₁.heap.get? b=some o->o.data=.dict es ep->H b=none:=λ{b o es ep} e d=>by
   cases q:H b with
   | none=>rfl
   | some u=>
    have e':b=a:=hA b (by rw[q];simp);subst e';rw[ha] at e;cases e;have d':Data.seq vs.toArray _=Data.dict es ep:=d;cases d'
  have nsK:∀{b:Ε} {m:Str->Option Η},s₁.heap.Ns b m->(Uo s₁.heap H).Ns b m:=λ{b m} ⟨o,es,ep,e,d,r⟩=>(NC o es ep (base_of e (noA e d)) d r)
  have hKb:K.In (Uo s₁.heap H):=λb o e=>base_of (KX b o e) (by
   cases q:H b with
   | none=>rfl
   | some u=>
    have e':b=a:=hA b (by rw[q];simp);subst e'
    rw[hK (by rw[q];simp)] at e;cases e)
  have hM:Mod K mg (Uo s₁.heap H):=⟨hKb,nsK hns,(Κ mb (nsK hb) hbb),let ⟨mc,h1,h2⟩:=ah4;(Κ mc (nsK h1) h2)⟩
  have e0:U6 P w K mg (Uo s₁.heap H) callerA [] s₁ H:=⟨rfl,hM,λb o e=>Eg e,Qp (Ao _ _),trivial,λb hb=>absurd (show b∈([]:List Ε) from hb) (by simp),At,.of_eq hg⟩
  refine IV ((F _ hKb (nsK hns)).run callerA [] s₁ H ⟨[.ref a],[]⟩ [.ref a] [.ref a] _ _ hr e0 (ad' s₁ (.ref a)) (.cons rfl .nil) (Rb H hO hS)) λr s' h=>?_;cases r with
  | error e=>exact(hCX H e s' h).elim
  | ok fl=>
   cases fl with
   | next=>exact ϲ h
   | brk=>exact ϲ h
   | cont=>exact ϲ h
   | ret u=>
    (revert h;refine O1 λv H' os bare un ah7=>Jb λr' q=>?_);have q':v=.bl true:=q;subst q';obtain rfl:u=JM true:=r';refine⟨rfl,OldK.of_keep λb o e=>?_,os,bare⟩;cases q:H b with
    | none=>exact un.keep b o e q (by intro z;exact absurd (show b∈([]:List Ε) from z) (by simp)) (by simp)
    | some u=>
     rcases hO b with z | ⟨ob,xs,z⟩
     ·rw[q] at z;cases z
     ·have z2:=un.MV b ob _ z
      obtain⟨e1,_⟩:=At b _ z;obtain⟨e2,_⟩:=ah7 b _ z2;rw[e] at e1;cases e1;exact e2
 cases hk:K.lookup a with
 | some o=>
  have e:=KX a o hk;rw[ha] at e;cases e;refine core (λ_=>none) (λ_=>.inl rfl) (.inr (IN _ vs.toArray _ hk rfl rfl rfl ⟨by rw[ϋ,ah6];exact hl,by simpa using rv⟩)) (λb u z=>by have z':(none:Option HO)=some u:=z;cases z') (λb z=>absurd rfl z) λz=>absurd rfl z
 | none=>
  refine core (λb=>if b=a then some (.Ra { cls:=.type "list",data:=.seq vs.toArray } (.lst (ns.map V.int))) else none) (λb=>?_) (.inl (.inr ⟨{ cls:=.type "list",data:=.seq vs.toArray },δ rfl⟩)) (λb u z=>?_) (λb z=>?_) λ_=>hk
  ·by_cases hb:b=a
   ·exact .inr (Nd _ _ (δ hb))
   ·exact .inl (Υ hb)
  ·by_cases hb:b=a
   ·have z':=(δ hb).symm.trans z
    cases z';subst hb;exact⟨ha,by rw[Ζ];exact hl,(gl vs _ rv ha)⟩
   ·have z':=(Υ hb).symm.trans z
    cases z'
  ·by_cases hb:b=a
   ·exact hb
   ·exact absurd (Υ hb) z
noncomputable abbrev KOf {K:Ξ}{h:ϟ}(_:K.In h):Ξ:=K
def El {l:auz}{k:Nat}{q:Ϗ}{loose:List Str}{XP:(Str->Option Η)->ϟ->Prop}{YP:IH->ϟ->Prop}{d:ay7}{K:Xz->Ξ}{CX:IH->Wc}{sp:IH->Sp}
  (hn:l.most=some n) (hn2:n<=sizeLine) (hdf:d.params.defaults=[]) (hr:Jf k callerA)
  (hY:∀(w:IH) (h:ϟ),YP w h->(K w.params).In h)
  (F:∀(w:IH) (mg:Str->Option Η) (fa:Ε) (h:ϟ),(K w.params).In h->h.Ns mainGlobals mg->mg d.name=some (.ref fa)->
   ∃fd:Jr,(∀(s:Ι) (u:Η),SK s fd ⟨[u],[]⟩ [(x,u)])/\
    ∀base:ϟ,(K w.params).In base->base.Ns mainGlobals mg->Ϥ l.prog w (K w.params) mg base (CX w) k fa fd [x] (sp w))
  (Rb:∀(w:IH) (H:Hp) (a:Ε) (ns:List Int),ns.length<=n->abG H->GT (K w.params) H a (ns.map V.int)->sp w [.ref a] H (λv _=>v=.bl true) λ_ _ _=>False)
  (hCX:∀(w:IH) (H:Hp) (s:Ι) (e:Η) (s':Ι),CX w [] H s (λ_ _ _=>False) e s'->False) :
  az4 q loose XP YP l.row.toRowW d [] (λf vs=>PySem.call f vs):=by
 refine Att.vE hn hdf λw s₀ s₁ mg mb fa o pm cd doc a vs ns G Y ho hd SU hmg abF hints hlen hg=>?_;have KX:=hY w _ Y;(refine ρ (F w mg fa _ KX G.T.g hmg) λfd hb hF=>?_);exact CT KX G.T.g G.T.b G.T.builtins G.T.nolimit hg abF hints (ζ hlen hn2) hr hF hb (λH hO hS=>Rb w H a ns hlen hO hS) λH e s'=>hCX w H s₁ e s'
abbrev inClass (s:ϙ)(j:Nat):ϙ:=match s with
 | .ClassDef _ _ _ body _ _ _ _ _ _ _=>body.getD j (.Pass ⟨0,0,0,0⟩)
 | _=>.Pass ⟨0,0,0,0⟩
abbrev IR (s:ϙ):az0:=match s with
 | .FunctionDef _ a _ _ _ _ _ _ _ _=>a
 | _=>{ posonlyargs:=[],args:=[],vararg:=none,kwonlyargs:=[],kw_defaults:=[],kwarg:=none,defaults:=[] }
abbrev Da (s:ϙ):List ϙ:=match s with
 | .FunctionDef _ _ b _ _ _ _ _ _ _=>b
 | _=>[]
abbrev Λ (s:ϙ):Oi:=match s with
 | .FunctionDef _ _ _ _ _ _ sc _ _ _=>sc
 | _=>{ kind:=.function,names:=[],isGenerator:=false,isCoroutine:=false }
noncomputable abbrev IL:Wc:=λ_ _ _ _ _ _=>False
noncomputable abbrev E0:XK:=λ_ _ _=>False
def ό {X:Cx}:Passes IL X E0:=λ_ _ _ _ _ _ _ h=>h.elim
structure WG (K:Ξ)(x qual:Str)(st:ϙ)(f:Ε)(fd:Jr):Prop where
 ex:∃(oc:Η) (od:Option Ε) (kV doc pm:Η) (an:Option Ε) (Ϲ ct:Η) (SR:Array (Option Η)),
  fd=JO x qual (IR st) (Da st) (Λ st) .none kV doc pm an Ϲ ct/\K.lookup f=some ⟨oc,od,.func fd,SR⟩/\NK K Ϲ qual=true
 kp:Jg K (.ref f)=true
section
variable {P:Ϗ} {K:Ξ} {base:ϟ}
def WG.ok {st:ϙ}{N ps:List Str}{k:Nat}(F:WG K x qual st f fd)(S:η N ps (Λ st))(len:∀vs H Q E,sp vs H Q E->vs.length=ps.length)
  (MX:∀(Ϲ:Η) (A:K') (outer:List Env) (s:Ι) (H:Hp) (vs:List V) (Q:VK) (E:XK),Jf k (A.deeper (envOfC qual (Λ st) s.heap.objs.size f Ϲ))->sp vs H Q E->
   ∃t,Rt (NW IL P w K mg base N qual (Λ st) f Ϲ A outer s H E).Kf (Da st) t/\t { nx:=λ_ H'=>Q .cr H',rt:=Q } (start N vs) H):Ϥ P w K mg base IL (k+1) f fd ps sp:=by
 (refine P8 F.ex λoc od kV doc pm an=>Kx λϹ ct SR Τ lk SU=>?_;subst Τ);refine zD lk SU S len λA outer s H vs Q E hr Rb=>?_;(refine ρ (MX Ϲ A outer s H vs Q E hr Rb) λt h q=>?_);exact(Κ t h.Kf q)
def WG.binds {st:ϙ}{ps:List Str}(F:WG K x qual st f fd)
  (h:∀(kV doc pm:Η) (an:Option Ε) (Ϲ ct:Η) (us:List Η),us.length=ps.length->bindArgs (JO x qual (IR st) (Da st) (Λ st) .none kV doc pm an Ϲ ct) ⟨us,[]⟩=pure (ps.zip us)):Binds K fd ps []:=by
 (refine P8 F.ex λoc od kV doc pm an=>Kx λϹ ct SR Τ lk SU=>?_;subst Τ);exact .all (h kV doc pm an Ϲ ct)
def nF {st:ϙ}{kV:Η}(l:K.lookup f=some ⟨oc,od,.func (JO x qual (IR st) (Da st) (Λ st) .none kV doc pm an Ϲ ct),SR⟩)
  (c:NK K Ϲ qual=true) (k:Jg K (.ref f)=true):WG K x qual st f (JO x qual (IR st) (Da st) (Λ st) .none kV doc pm an Ϲ ct):=⟨(Nf oc od kV doc pm an (NC Ϲ ct SR rfl l c)),k⟩
end
def Ht {k:Nat}(hr:Jf k A):A.units+1 < cLine:=Ϡ (Nat.add_le_add_left (by decide:1<=64) _) hr.units
section
variable {X:Cx}
def pv (i:Nat)(hN:autoParam (X.N[i]?=some x) L2.Ϩ._auto_1)(hv:autoParam (Vis X.env.scope x) L2.ahx._auto_1)(hd:autoParam ((x == ("__debug__":Str))=false) L2.Kh._auto_1)
  (SU:autoParam ((x == ("__classdict__":Str))=false) L2.Kh._auto_1):PE X (.Name x pos) (O4 i):=FO hN hv hd SU
end
def Ox {c A B:Prop}[Decidable c](h1:c->A)(h2:¬c->B):if c then A else B:=by
 by_cases h:c
 ·rw[δ h]
  exact h1 h
 ·rw[Υ h]
  exact h2 h
abbrev Χ (H H':Hp):Prop:=∀b o,H b=some o->H' b=some o
def Χ.refl (H:Hp):Χ H H:=λ_ _ h=>h
def Χ.trans (a:Χ H H1)(b:Χ H1 H2):Χ H H2:=λc o h=>b c o (a c o h)
def Χ.free (e:Χ H H'){l:Ε}(h:H' l=aan):H l=aan:=by
 cases q:H l with
 | none=>rfl
 | some o=>
  rw[e l o q] at h;cases h
def Χ.seq {K:Ξ}(e:Χ H H')(h:GT K H a xs):GT K H' a xs:=by
 rcases h with(h | ⟨o,h⟩) | h
 ·exact .inl (.inl (e _ _ h))
 ·exact .inl (.inr ⟨o,e _ _ h⟩)
 ·exact .inr h
section
variable [DecidableEq κ]
abbrev Io (ϔ:List (κ×V))(k:κ):Option V:=(ϔ.find? λkv=>decide (kv.1=k)).map (·.2)
abbrev putK (ϔ:List (κ×V))(k:κ)(v:V):List (κ×V):=
 if (ϔ.any λkv=>decide (kv.1=k))=true then ϔ.map (λkv=>if kv.1=k then(kv.1,v) else kv) else ϔ++[(k,v)]
abbrev aaF (ϔ:List (κ×V))(k:κ):List (κ×V):=ϔ.filter λkv=>decide (kv.1≠k)
def ck {p:κ×V}{r:List (κ×V)}{k:κ}(e:p.1=k):Io (p::r) k=some p.2:=by simp[Io,Jt,e]
def bP {p:κ×V}{r:List (κ×V)}{k:κ}(e:¬p.1=k):Io (p::r) k=Io r k:=by simp[Io,Jt,e]
def lS (k:κ):∀ϔ:List (κ×V),(ϔ.any λkv=>decide (kv.1=k))=(Io ϔ k).isSome
 | []=>rfl
 | p::r=>by
  rw[J']
  by_cases e:p.1=k
  ·simp only[ck e,j' e,abb,az5]
  ·rw[bP e,Ϧ e,aao];exact lS k r
def vF (k j:κ)(y:V):∀ϔ:List (κ×V),Io (ϔ.map λkv=>if kv.1=k then(kv.1,y) else kv) j=(Io ϔ j).map λx=>if j=k then y else x
 | []=>rfl
 | p::r=>by
  have ih:=vF k j y r;rw[ο]
  by_cases h:p.1=k
  ·rw[δ h]
   by_cases e:p.1=j
   ·rw[ck (p:=(p.1,y)) e,ck e,J7,δ (e.symm.trans h)]
   ·rw[bP (p:=(p.1,y)) e,bP e,ih]
  ·rw[Υ h]
   by_cases e:p.1=j
   ·rw[ck (p:=p) e,ck e,J7,Υ (λz=>h (e.trans z))]
   ·rw[bP (p:=p) e,bP e,ih]
def sW (k j:κ)(y:V):∀ϔ:List (κ×V),Io ϔ k=none->Io (ϔ++[(k,y)]) j=if j=k then some y else Io ϔ j
 | [],_=>by
  by_cases e:k=j
  ·rw[δ e.symm];exact ck (p:=(k,y)) e
  ·rw[Υ (λz=>e z.symm)];exact bP (p:=(k,y)) e
 | p::r,hn=>by
  rw[ii];have hk:¬p.1=k:=λz=>by rw[ck z] at hn;cases hn
  rw[bP hk] at hn;have ih:=sW k j y r hn
  by_cases e:p.1=j
  ·rw[ck e,ck e,Υ (λz=>hk (e.trans z))]
  ·rw[bP e,bP e,ih]
def fb (ϔ:List (κ×V))(k j:κ)(y:V):Io (putK ϔ k y) j=if j=k then some y else Io ϔ j:=by
 unfold putK
 by_cases a:(ϔ.any λkv=>decide (kv.1=k))=true
 ·rw[δ a,vF]
  rw[lS] at a
  by_cases e:j=k
  ·obtain⟨x,hx⟩:=dL.mp a
   rw[δ e,e,hx,J7,δ rfl]
  ·rw[Υ e]
   cases Io ϔ j with
   | none=>rfl
   | some x=>rw[J7,Υ e]
 ·rw[Υ a]
  refine sW k j y ϔ ?_;rw[lS] at a;cases q:Io ϔ k with
  | none=>rfl
  | some x=>rw[q] at a;exact(a rfl).elim
def bJ (ϔ:List (κ×V))(k:κ)(v:V):(putK ϔ k v).length<=ϔ.length+1:=by
 unfold putK
 split
 ·rw[Ζ];omega
 ·rw[Ω,Ψ,ϕ];omega
def K0.gR {o:Option V}{u:Option Η}(r:K0 o u):o.isSome=u.isSome:=by
 cases o with
 | none=>cases u with
  | none=>rfl
  | some _=>exact(show False from r).elim
 | some _=>cases u with
  | none=>exact(show False from r).elim
  | some _=>rfl
def K0.getD {o:Option V}{u:Option Η}{d:V}{d':Η}(r:K0 o u)(rd:RelV d d'):RelV (o.getD d) (u.getD d'):=by
 cases o with
 | none=>cases u with
  | none=>exact rd
  | some _=>exact(show False from r).elim
 | some _=>cases u with
  | none=>exact(show False from r).elim
  | some _=>exact r
def KV.val {ϔ:List (κ×V)}{vs:List (κ×Η)}(r:KV ϔ vs)(k:κ):K0 (Io ϔ k) (valueAt vs k):=by
 unfold KV at r
 induction r with
 | nil=>exact IF
 | @cons p q ps qs h t ih=>
  obtain⟨h1,h2⟩:=h
  by_cases e:p.1=k
  ·have e':q.1=k:=h1.symm.trans e
   have b:valueAt (q::qs) k=some q.2:=by simp[valueAt,Jt,e']
   rw[ck e,b];exact h2
  ·have e':¬q.1=k:=λz=>e (h1.trans z)
   have b:valueAt (q::qs) k=valueAt qs k:=by simp[valueAt,Jt,e']
   rw[bP e,b];exact ih
def KV.any {ϔ:List (κ×V)}{vs:List (κ×Η)}(r:KV ϔ vs)(k:κ):(ϔ.any λkv=>decide (kv.1=k))=vs.any λkv=>decide (kv.1=k):=by
 unfold KV at r
 induction r with
 | nil=>rfl
 | cons h t ih=>rw[J',J',ih,h.1]
def KV.abH {ϔ:List (κ×V)}{vs:List (κ×Η)}(r:KV ϔ vs)(k:κ)(ry:RelV y u) :
  KV (ϔ.map λkv=>if kv.1=k then(kv.1,y) else kv) (vs.map λkv=>if kv.1=k then(kv.1,u) else kv):=by
 unfold KV at r ⊢
 induction r with
 | nil=>exact .nil
 | @cons p q ps qs h t ih=>
  rw[ο,ο];refine .cons ?_ ih;obtain⟨h1,h2⟩:=h
  by_cases e:p.1=k
  ·rw[δ e,δ (h1.symm.trans e)];exact⟨h1,ry⟩
  ·rw[Υ e,Υ (λz=>e (h1.trans z))];exact⟨h1,h2⟩
def KV.put {ϔ:List (κ×V)}{vs:List (κ×Η)}(r:KV ϔ vs)(k:κ)(ry:RelV y u):KV (putK ϔ k y) (stored vs k u):=by
 unfold putK stored;rw[r.any k]
 by_cases e:(vs.any λkv=>decide (kv.1=k))=true
 ·rw[δ e,δ e];exact r.abH k ry
 ·rw[Υ e,Υ e];exact Paired.snoc r ⟨rfl,ry⟩
def KV.length {ϔ:List (κ×V)}{vs:List (κ×Η)}(r:KV ϔ vs):ϔ.length=vs.length:=Paired.length r
end
def kH {P:Ϗ}{k:Key}(r:RelV (kV k) u):(A' P w).is k u=true:=by
 cases k with
 | inl i=>obtain⟨t,e⟩:=(show ∃t,u=Oq i t from r);subst e;exact vt P w i t
 | inr x=>obtain⟨t,e⟩:=(show ∃t,u=FS x t from r);subst e;exact ji P w x t
def sX {P:Ϗ}:∀{ks:List Key} {us:List Η},Vals (ks.map kV) us->ItemsAre (A' P w) ks us
 | [],_,r=>by rw[Ja] at r;cases r;exact .nil
 | k::ks,_,r=>by
  rw[ο] at r;cases r with
  | cons h t=>exact .cons (kH h) (sX t)
noncomputable abbrev KT (H:Hp):List (List Key×V)->List (List Key×Ε×Η)->Prop:=Paired λp q=>p.1=q.1/\H q.2.1=some (.tup (p.1.map kV))/\RelV p.2 q.2.2
def KT.val {ϔ:List (List Key×V)}{xs:List (List Key×Ε×Η)}(r:KT H ϔ xs)(k:List Key):K0 (Io ϔ k) ((atKey xs k).map (·.2)):=by
 induction r with
 | nil=>exact IF
 | @cons p q ps qs h t ih=>
  (revert h;refine JT λh1 _ h2=>?_)
  by_cases e:p.1=k
  ·have e':q.1=k:=h1.symm.trans e
   have b:atKey (q::qs) k=some q.2:=by simp[atKey,Jt,e']
   rw[ck e,b];exact h2
  ·have e':¬q.1=k:=λz=>e (h1.trans z)
   have b:atKey (q::qs) k=atKey qs k:=by simp[atKey,Jt,e']
   rw[bP e,b];exact ih
def KT.abH {ϔ:List (List Key×V)}{xs:List (List Key×Ε×Η)}(r:KT H ϔ xs)(k:List Key)(ry:RelV y u) :
  KT H (ϔ.map λkv=>if kv.1=k then(kv.1,y) else kv) (xs.map (putAt k u)):=by
 induction r with
 | nil=>exact .nil
 | @cons p q ps qs h t ih=>
  rw[ο,ο];refine .cons ?_ ih;(revert h;refine JT λh1 h2 h3=>?_);unfold putAt
  by_cases e:p.1=k
  ·rw[δ e,δ (h1.symm.trans e)];exact⟨h1,h2,ry⟩
  ·rw[Υ e,Υ (λz=>e (h1.trans z))];exact⟨h1,h2,h3⟩
def KT.put {ϔ:List (List Key×V)}{xs:List (List Key×Ε×Η)}(r:KT H ϔ xs)(k:List Key)(hb:H b=some (.tup (k.map kV)))(ry:RelV y u) :
  KT H (putK ϔ k y) (storedH xs k b u):=by
 have e:(ϔ.any λkv=>decide (kv.1=k))=(atKey xs k).isSome:=by
  rw[lS,(r.val k).gR,Pk]
 unfold putK storedH;rw[e]
 by_cases q:(atKey xs k).isSome=true
 ·rw[δ q,δ q];exact r.abH k ry
 ·rw[Υ q,Υ q];exact Paired.snoc r ⟨rfl,hb,ry⟩
def KT.keeps {ϔ:List (List Key×V)}{xs:List (List Key×Ε×Η)}(r:KT H ϔ xs)(ht:∀b ys,H b=some (.tup ys)->H' b=some (.tup ys)):KT H' ϔ xs:=
 Paired.S7 r λ_ _ z=>⟨z.1,ht _ _ z.2.1,z.2.2⟩
section
variable {P:Ϗ} {h:ϟ} 
def Fo {u:HO}(ok:NO P w H h)(e:Rd H a u):EQ P w H h a u:=e.ok ok
def lT (ok:NO P w H h)(e:Rd H a (.dK ϔ)):ϔ.length<=sizeLine/\(a == sysModules)=false/\∃vs,KV ϔ vs/\h.DictOf (A' P w) a vs:=
 show EQ P w H h a (.dK ϔ) from Fo ok e
def Fp (ok:NO P w H h)(e:H a=some (.dK ϔ)):ϔ.length<=sizeLine/\(a == sysModules)=false/\∃vs,KV ϔ vs/\h.DictOf (A' P w) a vs:=lT ok (.inl e)
def kX {ks:List Key}(ok:NO P w H h)(e:H a=some (.tup (ks.map kV))):(tupleKind (A' P w)).is h ks a:=by
 (refine MU (show EQ P w H h a (.tup (ks.map kV)) from ok a _ e) λ_=>Ϟ λits r=>G' λo h1 h2=>Nc λn h3=>?_);exact(lc o its.toArray n h1 h2 h3 (by simpa using sX r))
def ow {ϔ:List (List Key×V)}(ok:NO P w H h)(e:Rd H a (.dT ϔ)):ϔ.length<=sizeLine/\(a == sysModules)=false/\
  ∃xs,KT H ϔ xs/\h.DictOfH (tupleKind (A' P w)) a xs:=by
 (refine IT (show EQ P w H h a (.dT ϔ) from Fo ok e) λz y=>Ϟ λxs r=>RG λo es ep h1 h2 h3 h4 h5=>?_);refine⟨z,y,(Κ xs r (IN o es ep h1 h2 h3 h4 ⟨λx hx=>?_,h5⟩))⟩;have all:∀{l:List (List Key×V)} {m:List (List Key×Ε×Η)},KT H l m->∀x∈m,(tupleKind (A' P w)).is h x.1 x.2.1:=by
  intro l m q
  induction q with
  | nil=>intro x hx;exact nomatch hx
  | @cons p q ps qs hq t ih=>
   intro x hx;rcases Θ.mp hx with e | hx
   ·subst e
    exact kX ok (by rw[<-hq.1];exact hq.2.1)
   ·exact ih x hx
 exact all r x hx
def Hu {ϔ:List (List Key×V)}(ok:NO P w H h)(e:H a=some (.dT ϔ)):ϔ.length<=sizeLine/\(a == sysModules)=false/\
  ∃xs,KT H ϔ xs/\h.DictOfH (tupleKind (A' P w)) a xs:=ow ok (.inl e)
end
abbrev Jc (H:Hp)(a:Ε)(y:V)(r:Option V):Prop:=
 (∃ϔ k,Rd H a (.dK ϔ)/\y=kV k/\r=Io ϔ k)\/∃ϔ k b,Rd H a (.dT ϔ)/\y=.ref b/\H b=some (.tup (k.map kV))/\r=Io ϔ k
abbrev Pm (H:Hp)(a:Ε)(y v:V)(H':Hp):Prop:=
 (∃ϔ k,H a=some (.dK ϔ)/\y=kV k/\ϔ.length < sizeLine/\H'=upd H a (.dK (putK ϔ k v)))\/
 ∃ϔ k b,H a=some (.dT ϔ)/\y=.ref b/\H b=some (.tup (k.map kV))/\ϔ.length < sizeLine/\H'=upd H a (.dT (putK ϔ k v))
def Jc.k {k:Key}(e:H a=some (.dK ϔ)):Jc H a (kV k) (Io ϔ k):=.inl (ϒ ϔ k (.inl e) rfl rfl)
def Pm.k {k:Key}{v:V}(e:H a=some (.dK ϔ))(hl:ϔ.length < sizeLine):Pm H a (kV k) v (upd H a (.dK (putK ϔ k v))):=.inl (Ky ϔ k e rfl hl rfl)
section
variable {X:Cx} {s:Ι} {v:V} {r:Η} {o:Option V}  
def Inv.big (I:Inv X pins σ H s):sysModules < s.heap.objs.size:=by
 have h:mainGlobals < s.heap.objs.size:=(I.mod.glob.keeps I.bk).lt;exact NL (by decide) h
def AB {Q:Η->Ι->Prop}(hu:A.units+1 < cLine)(I:Inv X pins σ H s)(g:Jc H a y (some v))(ry:RelV y u)(h:∀w' s',Inv X pins σ H s'->RelV v w'->Q w' s') :
  wpAny (model X.prog X.w) A (getItem (.ref a) u) Q E s:=by
 rcases g with⟨ϔ,k,e,ey,l⟩ | ⟨ϔ,k,b,e,ey,eb,l⟩
 ·subst ey
  (refine IT (lT I.At e) λz hd=>Ϟ λvs rel dd=>?_);(refine ρ (K0.pK (v:=v) (o:=valueAt vs k) (by rw[l];exact rel.val k)) λw' hw Tu=>?_);exact acN (kH ry) dd.mapOf hw (h w' _ (I.tok _) Tu)
 ·subst ey
  cases (show u=π b from ry);(refine IT (ow I.At e) λz hd=>Ϟ λxs rel dd=>?_);(refine ρ (K0.pK (v:=v) (o:=(atKey xs k).map (·.2)) (by rw[l];exact rel.val k)) λw' hw Tu=>?_);(refine ρ (Ϙ.mp hw) λp hp US=>?_);refine wpAny_getItem_heap (JH hu) (kX I.At eb) dd hp ?_;rw[US];exact h w' _ (I.tok _) Tu
def Ic {Q:Η->Ι->Prop}(hu:A.units+1 < cLine)(I:Inv X pins σ H s)(g:Jc H a y o)(ry:RelV y u)(h:∀s',Inv X pins σ H s'->Q (.bool o.isSome) s') :
  wpAny (model X.prog X.w) A (compareOp .In u (.ref a)) Q E s:=by
 rcases g with⟨ϔ,k,e,ey,l⟩ | ⟨ϔ,k,b,e,ey,eb,l⟩
 ·subst ey
  (refine IT (lT I.At e) λz hd=>Ϟ λvs rel dd=>?_);refine wpAny_in_of (kH ry) hd dd.mapOf ?_;rw[<-(rel.val k).gR,<-l];exact h _ (I.tok _)
 ·subst ey
  cases (show u=π b from ry);(refine IT (ow I.At e) λz hd=>Ϟ λxs rel dd=>?_);refine wpAny_in_heap (JH hu) (kX I.At eb) hd dd ?_;have q:=(rel.val k).gR;rw[Pk] at q;rw[<-q,<-l];exact h _ (I.tok _)
def En {Q:Η->Ι->Prop}(hu:A.units+1 < cLine)(I:Inv X pins σ H s)(g:Jc H a y o)(ry:RelV y u)(h:∀s',Inv X pins σ H s'->Q (.bool (!o.isSome)) s') :
  wpAny (model X.prog X.w) A (compareOp .NotIn u (.ref a)) Q E s:=by
 rcases g with⟨ϔ,k,e,ey,l⟩ | ⟨ϔ,k,b,e,ey,eb,l⟩
 ·subst ey
  (refine IT (lT I.At e) λz hd=>Ϟ λvs rel dd=>?_);refine afS (kH ry) hd dd.mapOf ?_;rw[<-(rel.val k).gR,<-l];exact h _ (I.tok _)
 ·subst ey
  cases (show u=π b from ry);(refine IT (ow I.At e) λz hd=>Ϟ λxs rel dd=>?_);refine wpAny_notIn_heap (JH hu) (kX I.At eb) hd dd ?_;have q:=(rel.val k).gR;rw[Pk] at q;rw[<-q,<-l];exact h _ (I.tok _)
def ur {h':ϟ}{ob:HO}(I:Inv X pins σ H s)(mu:Mut (H a))(hs:Ly a s.heap h')(he:∃q,h'.get? a=some q)(new:EQ X.prog X.w (upd H a ob) h' a ob) :
  Inv X pins σ (upd H a ob) { s with heap:=h',toks:=t' }:=
 I.write (x:=a) (e:=a) mu (.inl rfl) (λb q hb z=>(hs.2 b hb).trans z) he new
def CU {P:Ϗ}{h':ϟ}{vs:List (Key×Η)}(z:ϔ.length<=sizeLine)(hd:(a == sysModules)=false)(rel:KV ϔ vs)(dd:h'.DictOf (A' P w) a vs) :
  EQ P w H' h' a (.dK ϔ):=⟨z,hd,(Κ vs rel dd)⟩
def AD {Q:Unit->Ι->Prop}(hu:A.units+1 < cLine)(I:Inv X pins σ H s)(g:Pm H a y v H')(ry:RelV y u)(rv:RelV v r)(h:∀s',Inv X pins σ H' s'->Q () s') :
  wpAny (model X.prog X.w) A (setItem (.ref a) u r) Q E s:=by
 rcases g with⟨ϔ,k,e,ey,l,eH⟩ | ⟨ϔ,k,b,e,ey,eb,l,eH⟩
 ·subst ey eH
  (refine IT (Fp I.At e) λz hd=>Ϟ λvs rel dd=>?_);have hz:vs.length<=sizeLine:=by rw[<-rel.length];exact z
  have hl:(putK ϔ k v).length<=sizeLine:=by have:=bJ ϔ k v;omega
  refine wpAny_setItem_pairs (hsz:=hz) (kH ry) dd λh' dd' hs=>h _ ?_;have he:∃q,h'.get? a=some q:=let ⟨q,_,_,hq,_⟩:=dd';⟨q,hq⟩;exact ur I (by rw[e];exact IF) hs he (CU hl hd (rel.put k rv) dd')
 ·subst ey eH
  cases (show u=π b from ry);(refine IT (Hu I.At e) λz hd=>Ϟ λxs rel dd=>?_);have hz:xs.length<=sizeLine:=by rw[<-Paired.length rel];exact z
  have hl:(putK ϔ k v).length<=sizeLine:=by have:=bJ ϔ k v;omega
  refine wpAny_setItem_heap (hsz:=hz) (JH hu) (kX I.At eb) dd λh' dd' hs=>h _ ?_;(revert dd';refine RG λq es ep hq h2 h3 h4=>Jb λ_ h5=>?_);refine ur I (by rw[e];exact IF) hs ⟨q,hq⟩ ⟨hl,hd,(Κ _ ((rel.put k eb rv).keeps λc ys ec=>?_) (IN q es ep hq h2 h3 h4 h5))⟩;rw[aj (jj ec e (λz=>nomatch z))];exact ec
end
section
variable {X:Cx} {s:Ι} {k:Key}   
def Hv {Q:Η->Ι->Prop}(I:Inv X pins σ H s)(e:Rd H a (.dK ϔ))(h:∀t s',Inv X pins σ H s'->Q (.int ϔ.length t) s'):wpAny (model X.prog X.w) A (call (.builtin "len") [.ref a]) Q E s:=by
 (refine IT (lT I.At e) λz hd=>Ϟ λvs rel dd=>?_);refine call_len_dict hd dd (by rw[<-rel.length];rw[KH] at z;omega) ?_;rw[<-rel.length];exact h _ _ (I.tok _)
end
def vG {X:Cx}{s:Ι}{o:Option V}(I:Inv X pins σ H s)(g:Jc H a y o):s.TypeIs (.ref a) "dict":=by
 rcases g with⟨ϔ,k,e,_,_⟩ | ⟨ϔ,k,b,e,_,_,_⟩
 ·(refine IT (lT I.At e) λ_ _=>Ϟ λvs _ dd=>?_)
  exact dd.typeIs
 ·(refine IT (ow I.At e) λ_ _=>Ϟ λxs _ dd=>?_)
  exact dd.typeIs
def vH {P:Ϗ}(h:ϟ)(hb:sysModules < h.objs.size):EQ P w H (h.push { cls:=.type "dict",data:=.dict #[] }) h.objs.size (.dK []):=
 ⟨Ϛ _,Iw.mpr (ω (ϐ hb)),(Κ ([]) (.nil) (afT h))⟩
abbrev abJ:TE:=λ_ H Q=>∀p,H p=none->Q (.ref p) (upd H p (.dK []))
section
variable {X:Cx} 
def d6:PE X (.Dict [] [] pos) abJ:=λpins s σ H Q I h=>
 wpAny_Dict_empty (ϒ (.ref s.heap.objs.size) _ (I.laid (a:=s.heap.objs.size) (o:=.dK []) (t':=s.toks) (λ_ _ q=>Δ _ q) (Φ _) (vH s.heap I.big)) rfl (h _ (I.At.fresh (Φ _))))
end
abbrev Wf:List (TE×TE)->St->Hp->(List (V×V)->Hp->Prop)->Prop
 | [],_,H,Q=>Q [] H
 | (tk,tv)::r,σ,H,Q=>tk σ H λx H1=>tv σ H1 λy H2=>Wf r σ H2 λps H3=>Q ((x,y)::ps) H3
noncomputable abbrev VV:List (V×V)->List (Η×Η)->Prop:=Paired λp q=>RelV p.1 q.1/\RelV p.2 q.2
abbrev PPs (X:Cx)(pos:Pos)(keys:List (Option bv))(values:List bv)(ZN:List (TE×TE)):Prop:=
 ∀(pins:List (Ε×Obj)) (s:Ι) (σ:St) (H:Hp) (Q:List (V×V)->Hp->Prop),Inv X pins σ H s->Wf ZN σ H Q->
  wpAny (model X.prog X.w) X.A (evalPairs (pairTrees keys values X.env pos)) (λvs s'=>∃ps H',Inv X pins σ H' s'/\VV ps vs/\Q ps H') X.xe s
def zF {X:Cx}:PPs X pos [] [] []:=λpins s σ H Q I h=>pairTrees_nil_walk (ϒ ([]) H I (.nil) h)
def gS {X:Cx}{k v:bv}{ks:List (Option bv)}{vs:List bv}{tk:TE}{ZN:List (TE×TE)}(hk:PE X k tk)(hv:PE X v tv)(hr:PPs X pos ks vs ZN) :
  PPs X pos (some k::ks) (v::vs) ((tk,tv)::ZN):=λpins s σ H Q I h=>
 pairTrees_cons_walk (IJ (hk pins s σ H _ I h) λu s1 x H1 I1 rx q1=>IJ (hv pins s1 σ H1 _ I1 q1) λw2 s2 y H2 I2 ry q2=>
  J2 (hr pins s2 σ H2 _ I2 q2) λws s3 zz=>KA zz λps H3 I3 rel q3=>(ϒ ((x,y)::ps) H3 I3 (.cons ⟨rx,ry⟩ rel) q3))
abbrev O9 (ϔ more:List (Key×V)):List (Key×V):=more.foldl (λacc kv=>putK acc kv.1 kv.2) ϔ
def KV.merge:∀{more:List (Key×V)} {rs:List (Key×Η)} {ϔ:List (Key×V)} {vs:List (Key×Η)},KV more rs->KV ϔ vs->KV (O9 ϔ more) (merged vs rs):=by
 intro more rs ϔ vs r;unfold KV at r
 induction r generalizing ϔ vs with
 | nil=>intro q;exact q
 | @cons p q ps qs h t ih=>
  intro r0;have e:KV (putK ϔ p.1 p.2) (stored vs q.1 q.2):=by
   have:=r0.put p.1 h.2;rw[<-h.1];exact this
  exact ih e
def kI:∀(more ϔ:List (Key×V)),(O9 ϔ more).length<=ϔ.length+more.length
 | [],ϔ=>by show ϔ.length<=ϔ.length+0;omega
 | p::r,ϔ=>by
  have h1:=kI r (putK ϔ p.1 p.2);have h2:=bJ ϔ p.1 p.2;show(O9 (putK ϔ p.1 p.2) r).length<=_;rw[Ψ];omega
def p9 {P:Ϗ}{w:IH}:∀{ϔ:List (Key×V)} {ws:List (Η×Η)},VV (ϔ.map λkv=>(kV kv.1,kv.2)) ws->∃rs,Carries (A' P w) ws rs/\KV ϔ rs
 | [],_,r=>by rw[Ja] at r;cases r;exact(Κ ([]) IF (.nil))
 | p::ϔ,_,r=>by
  rw[ο] at r;cases r with
  | @cons a b as bs h t=>
   (refine ρ (p9 (P:=P) (w:=w) t) λrs c q=>?_);obtain⟨b1,b2⟩:=b;exact(Κ ((p.1,b2)::rs) ⟨kH h.1,rfl,c⟩ (.cons ⟨rfl,h.2⟩ q))
abbrev aeb (ZN:List (TE×TE)):TE:=λσ H Q=>∀p,H p=none->Wf ZN σ (upd H p (.dK [])) λps H2=>H2 p=some (.dK [])/\∃ϔ:List (Key×V),ps=ϔ.map (λkv=>(kV kv.1,kv.2))/\ϔ.length<=15/\Q (.ref p) (upd H2 p (.dK (O9 [] ϔ)))
def zG {X:Cx}{keys:List (Option bv)}{values:List bv}{ZN:List (TE×TE)}(h:PPs X pos keys values ZN)(Yl:keys.all (·.isSome)=true)(hl:keys.length=values.length)(h0:keys≠[])
  (h15:keys.length<=15):PE X (.Dict keys values pos) (aeb ZN):=by
 intro pins s σ H Q I q;have hn:=I.At.fresh (Φ s.heap.objs.size);have I1:=I.laid (a:=s.heap.objs.size) (o:=.dK []) (h':=s.heap.push { cls:=.type "dict",data:=.dict #[] }) (t':=s.toks) (λ_ _ q=>Δ _ q) (Φ _) (vH s.heap I.big);refine wpAny_Dict_walk (knd:=A' X.prog X.w) Yl hl h0 h15 (J2 (h pins _ σ _ _ I1 (q _ hn)) λws s2 zz=>U1 zz λps H2 I2 rel e=>G' λϔ ep lk q2=>?_);subst ep;(refine ρ (p9 (P:=X.prog) (w:=X.w) rel) λrs c rk=>?_);(refine IT (Fp I2.At e) λz hd=>Ϟ λvs0 r0 dd=>?_);cases r0;refine(ύ rs c dd (λh' dd' hs=>(ϒ (.ref s.heap.objs.size) _ ?_ rfl q2)));have hz:(O9 [] ϔ).length<=sizeLine:=by
  have h1:=kI ϔ [];rw[ϕ] at h1;rw[KH];omega
 have he:∃q,h'.get? s.heap.objs.size=some q:=let ⟨q,_,_,hq,_⟩:=dd';⟨q,hq⟩;exact ur I2 (by rw[e];exact IF) hs he (CU hz hd (rk.merge .nil) dd')
structure M1 (X:Cx)(o:bv)(m:Str)(apos:Pos)(e:bv)(JS:Pos):Prop where
 base:attributeBase o m X.env (eval o X.env)=eval o X.env
 few:((backTo JS (starEach [e] X.env)).all (λx=>!x.1) && (backToKw JS (keywordEach [] X.env)).all (λx=>x.1.isSome)
  && decide (([e]:List bv).length+([]:List MO).length+(if ([]:List MO).isEmpty then 0 else 1) < 30))=true
 line:(apos.endLine == JS.line)=true
 trees:backTo JS (starEach [e] X.env)=[(false,eval e X.env)]
structure M2 (X:Cx)(o:bv)(m:Str)(apos:Pos)(e f:bv)(JS:Pos):Prop where
 base:attributeBase o m X.env (eval o X.env)=eval o X.env
 few:((backTo JS (starEach [e,f] X.env)).all (λx=>!x.1) && (backToKw JS (keywordEach [] X.env)).all (λx=>x.1.isSome)
  && decide (([e,f]:List bv).length+([]:List MO).length+(if ([]:List MO).isEmpty then 0 else 1) < 30))=true
 line:(apos.endLine == JS.line)=true
 trees:backTo JS (starEach [e,f] X.env)=[(false,eval e X.env),(false,eval f X.env)]
abbrev IsD (H:Hp)(a:Ε):Prop:=(∃ϔ,Rd H a (.dK ϔ))\/∃ϔ,Rd H a (.dT ϔ)
def CV {X:Cx}{s:Ι}(I:Inv X pins σ H s)(d:IsD H a) :
  s.TypeIs (.ref a) "dict" /\ (∀b,π a=.ref b->∃ob,s.heap.get? b=some ob/\ob.dict=none)/\(a == sysModules)=false:=by
 rcases d with⟨ϔ,e⟩ | ⟨ϔ,e⟩
 ·(refine IT (lT I.At e) λ_ hd=>Ϟ λvs _ dd=>?_)
  refine⟨dd.typeIs,λb q=>?_,hd⟩;cases q;(revert dd;refine Kx λob _ _ h1 h2 _=>?_);exact(Κ ob h1 h2.2.1)
 ·(refine IT (ow I.At e) λ_ hd=>Ϟ λxs _ dd=>?_)
  refine⟨dd.typeIs,λb q=>?_,hd⟩;cases q;(revert dd;refine Kx λob _ _ h1 h2 _=>?_);exact(Κ ob h1 h2.2.1)
section
variable {X:Cx} {s:Ι} {d:V} {r:Η} {o:Option V}  
def Gb {Q:Η->Ι->Prop}(hu:A.units+1 < cLine)(I:Inv X pins σ H s)(g:Jc H a y o)(ry:RelV y u)(h:∀w' s',Inv X pins σ H s'->RelV (o.getD .cr) w'->Q w' s') :
  wpAny (model X.prog X.w) A (call (.builtin "dict.get") [.ref a,u]) Q E s:=by
 rcases g with⟨ϔ,k,e,ey,l⟩ | ⟨ϔ,k,b,e,ey,eb,l⟩
 ·subst ey
  (refine IT (lT I.At e) λz hd=>Ϟ λvs rel dd=>?_);refine SM PySem.F.slot_dict_get dd.typeIs PySem.F.entry_dict_get (PySem.F.args_dict_get_2 _ _) (meets_dict_get (A' X.prog X.w) a (kH ry) hd) (Κ _ dd.mapOf (h _ _ (I.tok _) ?_));rw[l];exact(rel.val k).getD rfl
 ·subst ey
  cases (show u=π b from ry);(refine IT (ow I.At e) λz hd=>Ϟ λxs rel dd=>?_);refine SM PySem.F.slot_dict_get dd.typeIs PySem.F.entry_dict_get (PySem.F.args_dict_get_2 _ _) (meetsH_dict_get (tupleKind (A' X.prog X.w)) a b hd) ⟨JH hu,(ϒ k xs (kX I.At eb) dd (h _ _ (I.tok _) ?_))⟩;rw[l];exact(rel.val k).getD rfl
def Gd {Q:Η->Ι->Prop}(hu:A.units+1 < cLine)(I:Inv X pins σ H s)(g:Jc H a y o)(ry:RelV y u)(rd:RelV d r)(h:∀w' s',Inv X pins σ H s'->RelV (o.getD d) w'->Q w' s') :
  wpAny (model X.prog X.w) A (call (.builtin "dict.get") [.ref a,u,r]) Q E s:=by
 rcases g with⟨ϔ,k,e,ey,l⟩ | ⟨ϔ,k,b,e,ey,eb,l⟩
 ·subst ey
  (refine IT (lT I.At e) λz hd=>Ϟ λvs rel dd=>?_);refine SM PySem.F.slot_dict_get dd.typeIs PySem.F.entry_dict_get (PySem.F.args_dict_get_3 _ _ _) (meets_dict_get_default (A' X.prog X.w) a (kH ry) hd r) (Κ _ dd.mapOf (h _ _ (I.tok _) ?_));rw[l];exact(rel.val k).getD rd
 ·subst ey
  cases (show u=π b from ry);(refine IT (ow I.At e) λz hd=>Ϟ λxs rel dd=>?_);refine SM PySem.F.slot_dict_get dd.typeIs PySem.F.entry_dict_get (PySem.F.args_dict_get_3 _ _ _) (meetsH_dict_get_default (tupleKind (A' X.prog X.w)) a b hd r) ⟨JH hu,(ϒ k xs (kX I.At eb) dd (h _ _ (I.tok _) ?_))⟩;rw[l];exact(rel.val k).getD rd
end
abbrev abK (td ty:TE):TE:=λσ H Q=>td σ H λx H1=>∃a,x=.ref a/\IsD H1 a/\ty σ H1 λy H2=>∃o,Jc H2 a y o/\Q (o.getD .cr) H2
abbrev abL (td ty tx:TE):TE:=λσ H Q=>td σ H λx H1=>∃a,x=.ref a/\IsD H1 a/\ty σ H1 λy H2=>tx σ H2 λz H3=>∃o,Jc H3 a y o/\Q (o.getD z) H3
abbrev ah' (td ty:TE):TE:=λσ H Q=>td σ H λx H1=>∃a,x=.ref a/\IsD H1 a/\ty σ H1 λy H2=>∃ϔ k v,H2 a=some (.dK ϔ)/\y=kV k/\Io ϔ k=some v/\Q v (upd H2 a (.dK (aaF ϔ k)))
abbrev aia (td ty tx:TE):TE:=λσ H Q=>td σ H λx H1=>∃a,x=.ref a/\IsD H1 a/\ty σ H1 λy H2=>tx σ H2 λz H3=>∃ϔ k,H3 a=some (.dK ϔ)/\y=kV k/\
 (∀v,Io ϔ k=some v->Q v (upd H3 a (.dK (aaF ϔ k))))/\(Io ϔ k=none->Q z H3)
section
variable {X:Cx} {o f:bv} {ty tx:TE}
def CW (hu:X.A.units+1 < cLine)(ho:PE X o td)(he:PE X e ty)(m:M1 X o "get" apos e JS):PE X (.Call (.Attribute o "get" apos) [e] [] JS) (abK td ty):=by
 intro pins s σ H Q I h;refine abc m.base m.few m.line PySem.F.plainAttrs_dict PySem.F.slot_dict_get PySem.F.type_dict_get (J2 (ho pins s σ H _ I h) λu s1 zz=>KA zz λx H1 I1 rx=>G' λa ex d q1=>?_);subst ex;obtain rfl:u=π a:=rx;(refine IT (CV I1 d) λt1 t2 _=>?_);refine⟨t1,t2,?_⟩;rw[m.trees];refine Kr rfl (La (ci (J2 (he pins s1 σ H1 _ I1 q1) λiv s2 zz=>KA zz λy H2 I2 ry=>Ϟ λov g q2=>Ix ?_)));exact Gb hu I2 g ry λw' s3 I3 Tu=>(ϒ _ H2 I3 Tu q2)
def qb (hu:X.A.units+1 < cLine)(ho:PE X o td)(he:PE X e ty)(hf:PE X f tx)(m:M2 X o "get" apos e f JS):PE X (.Call (.Attribute o "get" apos) [e,f] [] JS) (abL td ty tx):=by
 intro pins s σ H Q I h;refine abc m.base m.few m.line PySem.F.plainAttrs_dict PySem.F.slot_dict_get PySem.F.type_dict_get (J2 (ho pins s σ H _ I h) λu s1 zz=>KA zz λx H1 I1 rx=>G' λa ex d q1=>?_);subst ex;obtain rfl:u=π a:=rx;(refine IT (CV I1 d) λt1 t2 _=>?_);refine⟨t1,t2,?_⟩;rw[m.trees]
 refine Kr rfl (La (ci (IJ (he pins s1 σ H1 _ I1 q1) λiv s2 y H2 I2 ry q2=>
  ci (J2 (hf pins s2 σ H2 _ I2 q2) λfv s3 zz=>KA zz λz H3 I3 rz=>Ϟ λov g q3=>Ix ?_))))
 exact Gd hu I3 g ry rz λw' s4 I4 Tu=>(ϒ _ H3 I4 Tu q3)
end
end
section
open PySem PySem.Spec PyProof.Rows
section
variable {X:Cx}
def AE:IP X (.builtin "len") (λxs H Q=>∃a ϔ,xs=[V.ref a]/\H a=some (.dK ϔ)/\Q (.int ϔ.length) H):=by
 intro pins s σ H xs us Q I r h;(revert h;refine IY λa ϔ Τ ha q=>?_;subst Τ);(refine ρ (vals1 r) λu Τ ru=>?_;subst Τ);cases ru;exact Hv I (.inl ha) λt s' I'=>(ϒ (.int ϔ.length) H I' ⟨t,rfl⟩ q)
end
abbrev wT (cells:List (Str×Ε)):List (Str×IQ)->List (Str×Ε)->List (Str×Ε)
 | [],cs=>cs
 | (n,k)::r,cs=>if k=϶ then(match cells.lookup n with | some a=>wT cells r ((n,a)::cs) | none=>wT cells r cs) else wT cells r cs
def oy {env:Env}:∀(names:List (Str×IQ)) (cs:List (Str×Ε)),(∀y∈names,y.2=϶->∃c,env.cells.lookup y.1=some c)->
  (forIn names cs λ(x:Str×IQ) r=>match x with
   | (name,kind)=>if (kind == ϶)=true then do let a <-cellOf env name;pure (ap ((name,a)::r)) else pure (ap r))=(pure (wT env.cells names cs):Sem (List (Str×Ε)))
 | [],cs,_=>rfl
 | (n,k)::r,cs,h=>by
  have ih:=λcs'=>oy (env:=env) r cs' λy hy=>h y (ε _ hy);rw[Lp]
  by_cases hk:k=϶
  ·obtain⟨c,hc⟩:=h (n,k) zn hk
   have SS:env.cells.lookup n=some c:=hc;have Ts:cellOf env n=pure c:=by unfold cellOf;rw[SS]
   have e1:wT env.cells ((n,k)::r) cs=wT env.cells r ((n,c)::cs):=by
    rw[wT,δ hk,SS]
   rw[e1,<-ih ((n,c)::cs)];subst hk;dsimp only;rw[Ts];rfl
  ·have hb:(k == ϶)=false:=by simpa using hk
   have e1:wT env.cells ((n,k)::r) cs=wT env.cells r cs:=by
    rw[wT,Υ hk]
   rw[e1,<-ih cs];dsimp only;rw[hb];rfl
def qc (h:∀y∈scope.names,y.2=϶->∃c,env.cells.lookup y.1=some c):closureFor scope env=pure (wT env.cells scope.names []):=by
 have e:=oy (env:=env) scope.names [] h;unfold closureFor;exact(congrArg (λt:Sem (List (Str×Ε))=>t >>= λs=>pure s) e).trans rfl
def br:∀(names:List (Str×IQ)) (cs:List (Str×Ε)),(∀x c,cs.lookup x=some c->cells.lookup x=some c)->∀x c,(wT cells names cs).lookup x=some c->cells.lookup x=some c
 | [],cs,h,x,c,e=>h x c e
 | (n,k)::r,cs,h,x,c,e=>by
  by_cases hk:k=϶
  ·cases q:cells.lookup n with
   | none=>
    rw[wT,δ hk,q] at e;exact br r cs h x c e
   | some a=>
    rw[wT,δ hk,q] at e;refine br r _ (λy d z=>?_) x c e;rw[ϰ] at z
    by_cases hy:(y == n)=true
    ·rw[hy] at z
     have ZO:y=n:=by simpa using hy
     subst ZO;exact q.trans z
    ·have ZO:(y == n)=false:=by simpa using hy
     rw[ZO] at z;exact h y d z
  ·rw[wT,Υ hk] at e
   exact br r cs h x c e
def fS:∀(names:List (Str×IQ)) (cs:List (Str×Ε)) (x:Str),(cs.lookup x).isSome=true->((wT cells names cs).lookup x).isSome=true
 | [],cs,x,h=>h
 | (n,k)::r,cs,x,h=>by
  by_cases hk:k=϶
  ·cases q:cells.lookup n with
   | none=>rw[wT,δ hk,q];exact fS r cs x h
   | some a=>
    rw[wT,δ hk,q];refine fS r _ x ?_;rw[ϰ];cases hy:x == n with
    | true=>rfl
    | false=>exact h
  ·rw[wT,Υ hk];exact fS r cs x h
def fc:∀(names:List (Str×IQ)) (cs:List (Str×Ε)) (x:Str),(x,϶)∈names->(cells.lookup x).isSome=true->((wT cells names cs).lookup x).isSome=true
 | [],cs,x,h,_=>by simp at h
 | (n,k)::r,cs,x,h,hc=>by
  rcases Θ.mp h with e | e
  ·cases e
   obtain⟨c,SS⟩:=dL.mp hc;rw[wT,δ rfl,SS];refine fS r _ _ ?_;rw[ϰ,beq_self_eq_true];rfl
  ·by_cases hk:k=϶
   ·cases q:cells.lookup n with
    | none=>rw[wT,δ hk,q];exact fc r cs x e hc
    | some a=>rw[wT,δ hk,q];exact fc r _ x e hc
   ·rw[wT,Υ hk];exact fc r cs x e hc
def lookup_mem:∀{l:List (Str×α)} {x:Str} {a:α},l.lookup x=some a->(x,a)∈l
 | [],x,a,h=>by simp at h
 | (n,k)::r,x,a,h=>by
  rw[ϰ] at h;cases hx:x == n with
  | true=>
   rw[hx] at h;have e:x=n:=by simpa using hx
   subst e;cases h;exact zn
  | false=>
   rw[hx] at h;exact ε _ (lookup_mem h)
def bX:∀(names:List (Str×IQ)) (x:Str) (k:IQ),
  (names.map λ(p:Str×IQ)=>match p with | (n,k)=>if (k == ϶ && env.scope.kind == .function && env.kindOf n == some .cell) then(n,RC) else(n,k)).lookup x=some k->
   names.lookup x=some k\/(k=.cell/\names.lookup x=some .free)
 | [],x,k,h=>by simp at h
 | (n,k₀)::r,x,k,h=>by
  rw[ο] at h;dsimp only at h;cases hx:x == n with
  | true=>
   rw[ϰ,hx]
   by_cases hc:(k₀ == ϶ && env.scope.kind == .function && env.kindOf n == some .cell)=true
   ·rw[δ hc,ϰ,hx] at h
    cases h;have:k₀=.free:=by
     simp only[Ϣ] at hc;simpa using hc.1.1
    subst this;exact .inr ⟨rfl,rfl⟩
   ·rw[Υ hc,ϰ,hx] at h
    exact .inl h
  | false=>
   rw[ϰ,hx]
   by_cases hc:(k₀ == ϶ && env.scope.kind == .function && env.kindOf n == some .cell)=true
   ·rw[δ hc,ϰ,hx] at h
    exact bX r x k h
   ·rw[Υ hc,ϰ,hx] at h
    exact bX r x k h
def iC:∀(names:List (Str×IQ)) (x:Str),names.lookup x=some .free->
  (names.map λ(p:Str×IQ)=>match p with | (n,k)=>if (k == ϶ && env.scope.kind == .function && env.kindOf n == some .cell) then(n,RC) else(n,k)).lookup x=some .free\/
  (names.map λ(p:Str×IQ)=>match p with | (n,k)=>if (k == ϶ && env.scope.kind == .function && env.kindOf n == some .cell) then(n,RC) else(n,k)).lookup x=some .cell
 | [],x,h=>by simp at h
 | (n,k₀)::r,x,h=>by
  rw[ο];dsimp only;cases hx:x == n with
  | true=>
   rw[ϰ,hx] at h;cases h
   by_cases hc:(϶ == ϶ && env.scope.kind == .function && env.kindOf n == some .cell)=true
   ·rw[δ hc,ϰ,hx]
    exact .inr rfl
   ·rw[Υ hc,ϰ,hx]
    exact .inl rfl
  | false=>
   rw[ϰ,hx] at h
   by_cases hc:(k₀ == ϶ && env.scope.kind == .function && env.kindOf n == some .cell)=true
   ·rw[δ hc,ϰ,hx]
    exact iC r x h
   ·rw[Υ hc,ϰ,hx]
    exact iC r x h
abbrev aaG (x y:Str):Str:=if y=x then Rp else y
noncomputable abbrev U' (X:Cx)(x:Str)(scope:Oi)(M:List Str)(C:Ε)(s₀:Ι)(H₀:Hp)(fp:List Ε):Cx:=
 { X with N:=x::M,s₀:=s₀,H₀:=H₀,env:=compEnvC scope (wT X.env.cells scope.names []) C X.env,outer:=X.stack,stack:=X.stack,ex:=fp,fn:=λ_=>false,pn:=[],xe:=λ_ _=>False }
structure RL (N M:List Str)(sc:Oi)(x:Str)(scope:Oi):Prop where
 kind:scope.kind=.function
 cell:∀y∈scope.names,y.2≠.cell
 names:∀y∈scope.names,y.2=.local->scope.names.lookup y.1=some .local
 own:scope.names.lookup x=some .local
 free:∀y∈scope.names,y.2=.free->sc.names.lookup y.1=some .cell\/sc.names.lookup y.1=some .free
 hid:N.map (aaG x)=M
 nd:(x::M).Nodup
 others:∀y∈M,scope.names.lookup y≠some .local
 void:scope.names.lookup Rp=none
abbrev RM (wi:TI)(tt:TT)(te:TE):TE:=λσ H Q=>wi σ H λJ H1=>∀D,H1 D=none->∃W:Nat->Nat->List V->Hp->Prop,(∃m,W 0 m [] (upd H1 D (.lst [])))/\∀i m ys H2,W i m ys H2->
 (J.stop i H2/\H2 D=some (.lst ys)/\Q (.ref D) H2)\/(J.go i H2/\ys.length < sizeLine/\∀x H3,J.WD i H2 x H3->tt (some x::σ) H3 λb H4=>
  if b=true then te (some x::σ) H4 λy H5=>H5 D=some (.lst ys)/\∃m',m' < m/\W (i+1) m' (ys++[y]) (upd H5 D (.lst (ys++[y]))) else ∃m',m' < m/\W (i+1) m' ys H4)
abbrev ND:TT:=λ_ H Q=>Q true H
section
variable {s:Ι}
def vI {target:bv}{it acc:Η}(Jv:Nat->Ι->Prop)
  (turn:∀n s,Jv n s->wpAny (model prog w) A (pyNext it) (λr s₁=>match r with
   | none=>R (.ok .next) s₁
   | some v=>wpAny (model prog w) A (letOwnedTupleGo target it v) (λ_ s₀=>wpAny (model prog w) A (assign target env v) (λ_ s₂=>
     wpAny (model prog w) A (forIn ifs true λc r=>if r=true then do let ok <-isTrue c env (eval c env);pure (ap ok) else pure (ap r)) (λok s₃=>
      if ok=true then wpAny (model prog w) A (eval elt env) (λx s₄=>wpAny (model prog w) A (call (.builtin "list.append") [acc,x]) (λ_ s₅=>∃m,m < n/\Jv m s₅) (λ_ _=>False) s₄) (λ_ _=>False) s₃
      else ∃m,m < n/\Jv m s₃) (λ_ _=>False) s₂) (λ_ _=>False) s₀) (λ_ _=>False) s₁) (λ_ _=>False) s)
  (n:Nat) (h:Jv n s):codeAny (model prog w) A (.compLoop (.ListComp elt [⟨target,iter,ifs,0⟩] scope pos) 0 it acc env) R s:=by
 have no:∀{α:Type} {t:Sem α} {Q:α->Ι->Prop} {E:Η->Ι->Prop} {s':Ι},wpAny (model prog w) A t Q (λ_ _=>False) s'->wpAny (model prog w) A t Q E s':=λh=>ul h (λ_ _ q=>q) λ_ _ f=>f.elim;refine codeAny_loop rfl Jv (λn s hI=>?_) n h;refine wpAny_noted (env:=env) ?_;rw[compTurn_list];refine Β (NH (Β (J2 (no (turn n s hI)) λr s₁ h₁=>?_)));cases r with
 | none=>exact ν h₁
 | some v=>
  refine Β (J2 (no h₁) λ_ s₀ h₀=>Β (J2 (no h₀) λ_ s₂ h₂=>Β (J2 (no h₂) λok s₃ h₃=>?_)));cases ok with
  | false=>exact ν ⟨rfl,h₃⟩
  | true=>exact Β (Β (J2 (no h₃) λx s₄ h₄=>Β (J2 (no h₄) λ_ s₅ h₅=>ν (ν ⟨rfl,h₅⟩))))
end
abbrev WH (xs:List Str)(y:Str):Str:=if y∈xs then Rp else y
noncomputable abbrev Kl (X:Cx)(xs:List Str)(scope:Oi)(M:List Str)(C:Ε)(s₀:Ι)(H₀:Hp)(fp:List Ε):Cx:=
 { X with N:=xs++M,s₀:=s₀,H₀:=H₀,env:=compEnvC scope (wT X.env.cells scope.names []) C X.env,outer:=X.stack,stack:=X.stack,ex:=fp,fn:=λ_=>false,pn:=[],xe:=λ_ _=>False }
structure Op (N M:List Str)(sc:Oi)(xs:List Str)(scope:Oi):Prop where
 kind:scope.kind=.function
 cell:∀y∈scope.names,y.2≠.cell
 names:∀y∈scope.names,y.2=.local->scope.names.lookup y.1=some .local
 free:∀y∈scope.names,y.2=.free->sc.names.lookup y.1=some .cell\/sc.names.lookup y.1=some .free
 hid:N.map (WH xs)=M
 others:∀y∈M,scope.names.lookup y≠some .local
 void:scope.names.lookup Rp=none
abbrev Wg (n:Nat)(wi:TI)(g:TG)(tt:TT)(te:TE):TE:=λσ H Q=>wi σ H λJ H1=>∀D,H1 D=none->∃W:Nat->Nat->List V->Hp->Prop,(∃m,W 0 m [] (upd H1 D (.lst [])))/\∀i m ys H2,W i m ys H2->
 (J.stop i H2/\H2 D=some (.lst ys)/\Q (.ref D) H2)\/(J.go i H2/\ys.length < sizeLine/\∀x H3,J.WD i H2 x H3->∀o:St,o.length=n->g x (o++σ) H3 λσ' H3'=>(∃o':St,o'.length=n/\σ'=o'++σ)/\tt σ' H3' λb H4=>
  if b=true then te σ' H4 λy H5=>H5 D=some (.lst ys)/\∃m',m' < m/\W (i+1) m' (ys++[y]) (upd H5 D (.lst (ys++[y]))) else ∃m',m' < m/\W (i+1) m' ys H4)
section
variable {X:Cx} {s2:Ι} 
def Eo {N M:List Str}{xs:List Str}{s:Ι}(I:Inv X pins σ H s)(SV:X.env.scope=sc)(O:Op N M sc xs scope)(hC:s.heap.objs.size<=C)
  (hf:∀b∈fp,K1 X pins H b) (KI:∀b∈fp,b < s.heap.objs.size):(Kl X xs scope M C s H fp).Ok where
 mod:=I.ok.mod
 kind:=O.kind
 glob:=I.ok.glob
 blt:=I.ok.blt
 above:=hC
 inj:=λy z c e1 e2=>I.ok.inj y z c (br _ _ (λ_ _ z=>by simp at z) _ _ e1) (br _ _ (λ_ _ z=>by simp at z) _ _ e2)
 has:=λy hy=>by
  have q:scope.names.lookup y=some .free:=by
   rcases hy with hy | hy
   ·rcases bX _ _ _ hy with z | ⟨_,z⟩
    ·exact absurd rfl (O.cell _ (lookup_mem z))
    ·exact z
   ·rcases bX _ _ _ hy with z | ⟨z,_⟩
    ·exact z
    ·cases z
  have q2:=O.free _ (lookup_mem q) rfl;rw[<-SV] at q2;obtain⟨c,hc⟩:=I.ok.has y q2;exact dL.mp (fc _ _ _ (lookup_mem q) (by rw[hc];rfl))
 cab:=λy c h=>by cases h
 hd:=I.ok.hd
 frames:=I.ok.frames
 stk:=.inl rfl
 exf:=λb hb=>⟨ϐ (ϓ (KI b hb) hC),λy c e=>(hf b hb).2.2.2.2.1 y c (br _ _ (λ_ _ z=>by simp at z) _ _ e)⟩
 bs:=I.bs
 XI:=ζ I.ok.XI I.sz
 Up:=λb o e hb=>by
  rcases(hf b hb).2.2.2.1 with z | z
  ·exact I.ok.Up b o e z
  ·exact absurd (ϓ (γ (I.ok.bs b o e).1) z) (JD _)
 V8:=λb hb z=>by
  (refine W7 (hf b hb) λ_ f1 f2 _=>?_);exact(Θ.mp (I.P9 b z)).elim f1 f2
 NU:=I.stack
 XJ:=I.Rs
def CY {N M:List Str}{xs:List Str}{s:Ι}{h':ϟ}(I:Inv X pins σ H s)(hX:X.N=N)(SV:X.env.scope=sc)(O:Op N M sc xs scope)
  (hf:∀b∈fp,K1 X pins H b) (KI:∀b∈fp,b < s.heap.objs.size) {m:Str->Option Η} (hns:h'.Ns s.heap.objs.size m) (k:∀b u,s.heap.get? b=some u->h'.get? b=some u) :
  Inv (Kl X xs scope M s.heap.objs.size s H fp) [] (ϥ xs.length none++σ) H { s with heap:=h',toks:=tk } where
 ok:=Eo I SV O (Φ _) hf KI
 os:=rfl
 bare:=I.bare
 base:=Un.kept k
 loc:=by
  refine(Κ m hns (λj y v e1 e2 e3=>?_))
  by_cases hj:j < xs.length
  ·rw[wf (by simpa using hj),UM,δ hj] at e2
   cases e2
  ·obtain⟨i,rfl⟩:∃i,j=xs.length+i:=⟨j - xs.length,by omega⟩
   have e1':M[i]?=some y:=by
    have:=e1;rw[Db (by omega)] at this;simpa using this
   have e2':σ[i]?=some (some v):=by
    rw[Db (by simp)] at e2;simpa using e2
   have hyM:y∈M:=Ν e1';have Qv:scope.names.lookup y=some .free:=by
    rcases e3 with e3 | e3 | e3
    ·rcases bX _ _ _ e3 with z | ⟨z,_⟩
     ·exact absurd z (O.others y hyM)
     ·cases z
    ·rcases bX _ _ _ e3 with z | ⟨_,z⟩
     ·exact absurd rfl (O.cell _ (lookup_mem z))
     ·exact z
    ·rcases bX _ _ _ e3 with z | ⟨z,_⟩
     ·exact z
     ·cases z
   have hN:X.N[i]?=some y:=by
    rw[hX];rw[<-O.hid,μ] at e1';cases q:N[i]? with
    | none=>rw[q] at e1';cases e1'
    | some z=>
     rw[q] at e1';have e4:WH xs z=y:=ϗ e1';unfold WH at e4
     by_cases hz:z∈xs
     ·rw[δ hz] at e4
      rw[<-e4,O.void] at Qv;cases Qv
     ·rw[Υ hz] at e4
      rw[e4]
   have q2:=O.free _ (lookup_mem Qv) rfl;rw[<-SV] at q2;have aic:Vis X.env.scope y:=q2.elim (λz=>.inr (.inl z)) λz=>.inr (.inr z);(refine ρ I.loc λm0 hn0 hl=>?_);(refine ρ (hl i y v hN e2' aic) λu r l=>?_);refine(Κ u r ?_);rcases l with⟨l,_⟩ | ⟨l,c,hc,z⟩
   ·exfalso
    have l':X.env.scope.names.lookup y=some .local:=l;rcases q2 with q2 | q2
    ·have q2':X.env.scope.names.lookup y=some .cell:=q2
     rw[l'] at q2';cases q2'
    ·have q2':X.env.scope.names.lookup y=some .free:=q2
     rw[l'] at q2';cases q2'
   ·have aee:=fc scope.names [] y (lookup_mem Qv) (cells:=X.env.cells) (by rw[hc];rfl)
    obtain⟨c',SS⟩:=dL.mp aee;have e5:=br _ _ (λ_ _ z=>by simp at z) _ _ SS;rw[hc] at e5;cases e5;(revert z;refine Ϟ λo ho hd=>?_);refine .inr ⟨?_,(Κ c SS (Κ o (k c o ho) hd))⟩;rcases iC (env:=X.env) _ _ Qv with z | z
    ·exact .inr z
    ·exact .inl z
 cell:=λy c e=>by
  (refine RJ (I.cell y c (br _ _ (λ_ _ z=>by simp at z) _ _ e)) λv o ho hd=>?_);exact(gl v o (k c o ho) hd)
 free:=I.At.fresh (Φ _)
 Lk:=λy c e=>I.Lk y c (br _ _ (λ_ _ z=>by simp at z) _ _ e)
 pin:=λp hp=>by simp at hp
 At:=I.At.kept k
 len:=by
  have e:N.length=M.length:=by rw[<-O.hid,Ζ]
  rw[Ω,FB,Ω];rw[I.len,hX,e]
variable {xs:List Str} {N M:List Str} {it:Ε}   
def oz {c:Cx->Prop}(LF:∀C s' H',Inv X pins σ H' s'->(∀b∈fp,K1 X pins H' b)->c (Kl X xs scope M C s' H' fp))(hX:X.N=N)(SV:X.env.scope=sc)(O:Op N M sc xs scope)
  (Va:∀(C:Ε) (s₀:Ι) (H₀:Hp) (fp:List Ε) (pins:List (Ε×Obj)) (s:Ι) (σ:St) (H:Hp) (Q:Bool->Hp->Prop),Inv (Kl X xs scope M C s₀ H₀ fp) pins σ H s->tt σ H Q->
   wpAny (model X.prog X.w) X.A (forIn ifs true λc r=>if r=true then do let ok <-isTrue c (Kl X xs scope M C s₀ H₀ fp).env (eval c (Kl X xs scope M C s₀ H₀ fp).env);pure (ap ok) else pure (ap r)) (TP (Kl X xs scope M C s₀ H₀ fp) pins σ Q) (λ_ _=>False) s)
  (VY:∀(C:Ε) (s₀:Ι) (H₀:Hp) (fp:List Ε),c (Kl X xs scope M C s₀ H₀ fp)->PE (Kl X xs scope M C s₀ H₀ fp) elt te)
  (hg:∀(C:Ε) (s₀:Ι) (H₀:Hp) (fp:List Ε),PG (Kl X xs scope M C s₀ H₀ fp) tg g)
  (I2:Inv X pins σ H2 s2) (T:Turn X.prog X.w X.K tg J fp it tn c) (Ze:tn 0 s2.heap) (f2:∀b∈fp,K1 X pins H2 b) {Qd:Ε->Hp->Prop}
  (q:∀D,H2 D=none->∃W:Nat->Nat->List V->Hp->Prop,(∃m,W 0 m [] (upd H2 D (.lst [])))/\∀i m ys H3,W i m ys H3->
   (J.stop i H3/\H3 D=some (.lst ys)/\Qd D H3)\/(J.go i H3/\ys.length < sizeLine/\∀x H4,J.WD i H3 x H4->∀o:St,o.length=xs.length->g x (o++σ) H4 λσ' H4'=>(∃o':St,o'.length=xs.length/\σ'=o'++σ)/\tt σ' H4' λb H5=>
    if b=true then te σ' H5 λy H6=>H6 D=some (.lst ys)/\∃m',m' < m/\W (i+1) m' (ys++[y]) (upd H6 D (.lst (ys++[y]))) else ∃m',m' < m/\W (i+1) m' ys H5))
  {RR:Η->Ε->afJ->Ι->Prop} (hRR:∀D C H' s',Inv X pins σ H' s'->K1 X pins H' C->(∃m,s'.heap.Ns C m)->Qd D H'->RR (.ref D) C (.ok .next) s') :
  wpAny (model X.prog X.w) X.A (newList []) (λacc s₃=>wpAny (model X.prog X.w) X.A (newFunctionEnv scope X.env.globals (wT X.env.cells scope.names []) [] X.env.qual none .none (some X.env)) (λYm s₄=>
   codeAny (model X.prog X.w) X.A (.compStart (.ListComp elt [⟨tg,iter,ifs,0⟩] scope pos) 0 (.ref it) acc { Ym with scope:=relabel scope X.env }) (RR acc Ym.locals) s₄) E s₃) E s2:=by
 have aef:∀b∈fp,b < s2.heap.objs.size:=λb hb=>let ⟨o,e,_⟩:=T.obj _ _ Ze b hb;γ e;have nD:H2 s2.heap.objs.size=none:=I2.At.fresh (Φ _);(refine ρ (q s2.heap.objs.size nD) λW Τ turn=>?_;obtain ⟨m0,w0⟩:=Τ);have I3:=I2.ad6 (its:=[]) (ys:=[]) (t':=s2.toks) .nil (Ϛ _);refine JX (wpAny_newFunctionEnv O.cell (by intro y hy;simp at hy) (λh₁ aeg aeh=>?_) O.kind);dsimp only at aeg aeh ⊢;generalize hs3:({ s2 with heap:=s2.heap.push { cls:=.type "list",data:=.seq ([]:List Η).toArray },toks:=s2.toks }:Ι)=s3 at I3;have eh:s3.heap=s2.heap.push { cls:=.type "list",data:=.seq ([]:List Η).toArray }:=by rw[<-hs3]
 have es:s3={ s2 with heap:=s2.heap.push { cls:=.type "list",data:=.seq ([]:List Η).toArray } }:=hs3.symm;have k1:∀b u,s3.heap.get? b=some u->h₁.get? b=some u:=λb u e=>by
  refine aeh.extBut b u ?_ (Δ _ (by rw[<-eh];exact e));rw[<-eh];exact ϐ (γ e)
 have f3:∀b∈fp,K1 X pins (upd H2 s2.heap.objs.size (.lst [])) b:=λb hb=>⟨by rw[aj (ϐ (aef b hb))];exact(f2 b hb).1,(f2 b hb).2⟩
 have aei:∀b∈fp,b < s3.heap.objs.size:=λb hb=>by
  rw[eh,ϣ];exact KB (aef b hb)
 have st3:tn 0 h₁:=T.keep _ _ _ Ze λb hb o e=>k1 b o (by rw[eh];exact Δ _ e);have aie:h₁.Ns s3.heap.objs.size (λx=>([]:List (Str×Η)).reverse.lookup x):=by rw[eh];exact aeg
 have IB:=CY (tk:=s2.toks) I3 hX SV O f3 aei aie k1;have eC:s3.heap.objs.size=(s2.heap.push { cls:=.type "list",data:=.seq ([]:List Η).toArray }).objs.size:=by rw[eh]
 have V':∀{H':Hp},(∀b∈fp,H' b=none)->∀b∈fp,K1 (Kl X xs scope M s3.heap.objs.size s3 (upd H2 s2.heap.objs.size (.lst [])) fp) [] H' b:=λhn b hb=>by
  (refine Q9 (f3 b hb) λg0 g1 g2 g3 g4 g5=>?_);exact⟨hn b hb,ϐ (aei b hb),λz=>(Θ.mp (I3.P9 b z)).elim g1 g2,.inl hb,λy c e=>g4 y c (br _ _ (λ_ _ z=>by simp at z) _ _ e),λp hp=>by simp at hp⟩
 have loop:∀s4:Ι,s4={ s3 with heap:=h₁,toks:=s2.toks }->
   codeAny (model X.prog X.w) X.A (.compLoop (.ListComp elt [⟨tg,iter,ifs,0⟩] scope pos) 0 (.ref it) (.ref s2.heap.objs.size) (compEnvC scope (wT X.env.cells scope.names []) s3.heap.objs.size X.env))
    (RR (.ref s2.heap.objs.size) s3.heap.objs.size) s4:=by
  rintro s4 rfl
  refine vI (λn s'=>∃i ys,∃o:St,∃H',o.length=xs.length/\Inv (Kl X xs scope M s3.heap.objs.size s3 (upd H2 s2.heap.objs.size (.lst [])) fp) [] (o++σ) H' s'/\tn i s'.heap/\(∀b∈fp,H' b=none)/\W i n ys H') ?_ m0
   (O3 0 ([]) _ _ FB IB st3 (λb hb=>(f3 b hb).1) w0)
  rintro n s5 ⟨i,ys,o,H5,lo,I5,st5,fr5,w5⟩
  rcases turn i n ys H5 w5 with⟨stop,hD,qd⟩ | ⟨go,hz,step⟩
  ·refine J2 (T.done (Kl X xs scope M s3.heap.objs.size s3 (upd H2 s2.heap.objs.size (.lst [])) fp) rfl rfl rfl (LF _ _ _ I3 f3) i [] s5 _ H5 _ I5 (V' fr5) st5 stop) λr s6 zz=>MU zz λhr I6=>?_
   subst hr;have IX:=I3.X7 I6.os I6.base I6.At I6.bare λb hb=>let ⟨_,g1,_,g3,g4,g5⟩:=f3 b hb;⟨g3,g1,g4,g5⟩;(refine ρ I6.loc λmm hmm _=>?_);exact hRR _ _ H5 s6 IX (I3.P' (Φ _) I6.free) ⟨mm,hmm⟩ qd
  ·refine J2 (T.item (Kl X xs scope M s3.heap.objs.size s3 (upd H2 s2.heap.objs.size (.lst [])) fp) rfl rfl rfl (LF _ _ _ I3 f3) i [] s5 _ H5 _ I5 (V' fr5) st5 go) λr s6 zz=>ρ zz λu hr h6=>?_
   subst hr;refine J2 h6 λ_ s7 zz=>Zy zz λy H7 I7 r7 y7 st7 fr7=>?_;have I7':=I7.pinned (V' fr7) (T.obj _ _ st7);refine J2 (ul (hg _ _ _ _ _ s7 _ H7 y u _ I7' r7 (step y H7 y7 o lo)) (λ_ _ q=>q) λ_ _ f=>f.elim) λ_ s8 ⟨σ8,H8,I8',⟨o8,lo8,e8⟩,q8⟩=>?_;subst e8;refine J2 (Va _ _ _ _ _ s8 _ H8 _ I8' q8) λok s9 zz=>ρ zz λH9 I9 q9=>?_;have again:∀{ys':List V} {H':Hp} {s':Ι} {m:Nat},Inv (Kl X xs scope M s3.heap.objs.size s3 (upd H2 s2.heap.objs.size (.lst [])) fp) ([]++RK fp s7.heap) (o8++σ) H' s'->m < n->W (i+1) m ys' H'->
     ∃m,m < n/\∃i ys,∃o:St,∃H',o.length=xs.length/\Inv (Kl X xs scope M s3.heap.objs.size s3 (upd H2 s2.heap.objs.size (.lst [])) fp) [] (o++σ) H' s'/\tn i s'.heap/\(∀b∈fp,H' b=none)/\W i m ys H':=λ{ys' H' s' m} I' hm w'=>by
    refine(Κ m hm (O3 (i+1) ys' o8 H' lo8 I'.Pl (T.keep _ _ _ st7 λb hb o e=>(I'.pin (b,o) (ι _ (ι _ (iA hb e)))).1) (λb hb=>?_) w'));(refine ρ (T.obj _ _ st7 b hb) λo e d=>?_);exact(I'.pin (b,o) (ι _ (ι _ (iA hb e)))).2.1
   cases ok with
   | false=>
    (revert q9;refine Ϟ λm' hm w'=>?_);exact again I9 hm w'
   | true=>
    refine J2 (VY _ _ _ _ (LF _ _ _ I3 f3) _ s9 _ H9 _ I9 q9) λu2 s10 zz=>U1 zz λy2 Yn I10 r10 hD=>Ϟ λm' hm w'=>?_;refine IJ (cu _ s10 _ Yn (.ref s2.heap.objs.size) [y2] (.ref s2.heap.objs.size) [u2] (λ_ H'=>H'=upd Yn s2.heap.objs.size (.lst (ys++[y2]))) I10 rfl (.cons r10 .nil) (IN _ ys y2 rfl rfl hD hz rfl)) λ_ s11 _ H11 I11 _ e11=>?_;subst e11;exact again I11 hm w'
 have fin:=codeAny_compStart_list (loop _ rfl) (T.self X.A 0 _ _ _ st3 (loop _ rfl));rw[es] at fin;exact fin
end
section
variable {X:Cx} {s2:Ι} 
variable {px:Pos} {N M:List Str} {it:Ε}   
def xX {c:Cx->Prop}(LF:∀C s' H',Inv X pins σ H' s'->(∀b∈fp,K1 X pins H' b)->c (Kl X [x] scope M C s' H' fp))(hX:X.N=N)(SV:X.env.scope=sc)(O:RL N M sc x scope)
  (Va:∀(C:Ε) (s₀:Ι) (H₀:Hp) (fp:List Ε) (pins:List (Ε×Obj)) (s:Ι) (σ:St) (H:Hp) (Q:Bool->Hp->Prop),Inv (U' X x scope M C s₀ H₀ fp) pins σ H s->tt σ H Q->
   wpAny (model X.prog X.w) X.A (forIn ifs true λc r=>if r=true then do let ok <-isTrue c (U' X x scope M C s₀ H₀ fp).env (eval c (U' X x scope M C s₀ H₀ fp).env);pure (ap ok) else pure (ap r)) (TP (U' X x scope M C s₀ H₀ fp) pins σ Q) (λ_ _=>False) s)
  (VY:∀(C:Ε) (s₀:Ι) (H₀:Hp) (fp:List Ε),c (Kl X [x] scope M C s₀ H₀ fp)->PE (U' X x scope M C s₀ H₀ fp) elt te)
  (I2:Inv X pins σ H2 s2) (T:Turn X.prog X.w X.K (.Name x px) J fp it tn c) (Ze:tn 0 s2.heap) (f2:∀b∈fp,K1 X pins H2 b) {Qd:Ε->Hp->Prop}
  (q:∀D,H2 D=none->∃W:Nat->Nat->List V->Hp->Prop,(∃m,W 0 m [] (upd H2 D (.lst [])))/\∀i m ys H3,W i m ys H3->
   (J.stop i H3/\H3 D=some (.lst ys)/\Qd D H3)\/(J.go i H3/\ys.length < sizeLine/\∀x H4,J.WD i H3 x H4->tt (some x::σ) H4 λb H5=>
    if b=true then te (some x::σ) H5 λy H6=>H6 D=some (.lst ys)/\∃m',m' < m/\W (i+1) m' (ys++[y]) (upd H6 D (.lst (ys++[y]))) else ∃m',m' < m/\W (i+1) m' ys H5))
  {RR:Η->Ε->afJ->Ι->Prop} (hRR:∀D C H' s',Inv X pins σ H' s'->K1 X pins H' C->(∃m,s'.heap.Ns C m)->Qd D H'->RR (.ref D) C (.ok .next) s') :
  wpAny (model X.prog X.w) X.A (newList []) (λacc s₃=>wpAny (model X.prog X.w) X.A (newFunctionEnv scope X.env.globals (wT X.env.cells scope.names []) [] X.env.qual none .none (some X.env)) (λYm s₄=>
   codeAny (model X.prog X.w) X.A (.compStart (.ListComp elt [⟨.Name x px,iter,ifs,0⟩] scope pos) 0 (.ref it) acc { Ym with scope:=relabel scope X.env }) (RR acc Ym.locals) s₄) E s₃) E s2:=by
 have OT:Op N M sc [x] scope:=⟨O.kind,O.cell,O.names,O.free,(by
  rw[<-O.hid];refine im λy _=>?_;unfold WH aaG
  simp),O.others,O.void⟩
 refine oz (g:=Ya 0) LF hX SV OT Va VY (λC s₀ H₀ fp=>aT (i:=0) O.nd rfl (.inl (Y8 O.own)) (.inr (Y8 O.own))) I2 T Ze f2 (λD hD=>?_) hRR;(refine ρ (q D hD) λW w0 turn=>?_);refine(Κ W w0 (λi m ys H3 w=>(turn i m ys H3 w).imp id λzz=>IT zz λgo hz step=>⟨go,hz,λy H4 hy o ho=>?_⟩));obtain⟨z,rfl⟩:∃z,o=[z]:=by
  match o,ho with
  | [z],_=>exact⟨z,rfl⟩
 exact⟨(Κ ([some y]) rfl rfl),step y H4 hy⟩
end
section
variable {X:Cx} {c:bv} {y:Str} {px:Pos} {N M:List Str} {wi:TI}  
def vJ {cc:Cx->Prop}(LF:∀pins σ fp C s' H',Inv X pins σ H' s'->(∀b∈fp,K1 X pins H' b)->cc (Kl X [x] scope M C s' H' fp))(hX:X.N=N)(SV:X.env.scope=sc)(O:RL N M sc x scope)(hi:PIc cc X (.Name x px) iter wi)
  (Va:∀(C:Ε) (s₀:Ι) (H₀:Hp) (fp:List Ε) (pins:List (Ε×Obj)) (s:Ι) (σ:St) (H:Hp) (Q:Bool->Hp->Prop),Inv (U' X x scope M C s₀ H₀ fp) pins σ H s->tt σ H Q->
   wpAny (model X.prog X.w) X.A (forIn ifs true λc r=>if r=true then do let ok <-isTrue c (U' X x scope M C s₀ H₀ fp).env (eval c (U' X x scope M C s₀ H₀ fp).env);pure (ap ok) else pure (ap r)) (TP (U' X x scope M C s₀ H₀ fp) pins σ Q) (λ_ _=>False) s)
  (VY:∀(C:Ε) (s₀:Ι) (H₀:Hp) (fp:List Ε),cc (Kl X [x] scope M C s₀ H₀ fp)->PE (U' X x scope M C s₀ H₀ fp) elt te) (hs:autoParam (∀x,foldedSetIterable iter X.env x=pure x) L2.S6._auto_1) :
  PE X (.ListComp elt [⟨.Name x px,iter,ifs,0⟩] scope pos) (RM wi tt te):=by
 intro pins s σ H Q I h;rw[aho];have Qy:closureFor scope X.env=pure (wT X.env.cells scope.names []):=qc λz hz hf=>by
  have q:=O.free z hz hf;rw[<-SV] at q;exact I.ok.has z.1 q
 refine Wx (use:=none) rfl hs Qy O.kind O.names (J2 (hi pins s σ H _ I h) λv s1 h1=>J2 h1 λitv s2 h2=>?_);(revert h2;refine Ld λit fp tn J H2 e=>MD λI2 T Ze f2 q2=>?_);subst e;refine xX (Qd:=λD H'=>Q (.ref D) H') (RR:=λacc C=>compPost (model X.prog X.w) X.A X.xe none (EP X pins σ Q) acc C) (LF _ _ _) hX SV O Va VY I2 T Ze f2 (λD hD=>q2 D hD) ?_;intro D C H' s' I' hC hm q';obtain⟨m,hm⟩:=hm;(revert hC;refine P6 λc0 c1 c2 c3 c4 c5=>?_);exact(Κ m hm (λh' hs'=>(ϒ (.ref D) H' (I'.turned (t':=s'.toks) (λb o hb e=>hs'.extBut b o hb e) c0 c1 c3 c4 c5) rfl q')))
def CZ (LF:X.calm=true)(hX:X.N=N)(SV:X.env.scope=sc)(O:RL N M sc x scope)(hi:PI X (.Name x px) iter wi)
  (Va:∀(C:Ε) (s₀:Ι) (H₀:Hp) (fp:List Ε) (pins:List (Ε×Obj)) (s:Ι) (σ:St) (H:Hp) (Q:Bool->Hp->Prop),Inv (U' X x scope M C s₀ H₀ fp) pins σ H s->tt σ H Q->
   wpAny (model X.prog X.w) X.A (forIn ifs true λc r=>if r=true then do let ok <-isTrue c (U' X x scope M C s₀ H₀ fp).env (eval c (U' X x scope M C s₀ H₀ fp).env);pure (ap ok) else pure (ap r)) (TP (U' X x scope M C s₀ H₀ fp) pins σ Q) (λ_ _=>False) s)
  (VY:∀(C:Ε) (s₀:Ι) (H₀:Hp) (fp:List Ε),PE (U' X x scope M C s₀ H₀ fp) elt te) (hs:autoParam (∀x,foldedSetIterable iter X.env x=pure x) L2.S6._auto_1) :
  PE X (.ListComp elt [⟨.Name x px,iter,ifs,0⟩] scope pos) (RM wi tt te):=vJ (λ_ _ _ _ _ _ _ _=>LF) hX SV O hi Va (λC s H f _=>VY C s H f) hs
def bu (N M:List Str)(sc:Oi)(O:RL N M sc x scope)(hi:PI X (.Name x px) iter wi)(VY:∀(C:Ε) (s₀:Ι) (H₀:Hp) (fp:List Ε),PE (U' X x scope M C s₀ H₀ fp) elt te)
  (LF:autoParam (X.calm=true) L2.Ϩ._auto_1) (hX:autoParam (X.N=N) L2.Ϩ._auto_1) (SV:autoParam (X.env.scope=sc) L2.Ϩ._auto_1) (hs:autoParam (∀x,foldedSetIterable iter X.env x=pure x) L2.S6._auto_1) :
  PE X (.ListComp elt [⟨.Name x px,iter,[],0⟩] scope pos) (RM wi ND te):=
 CZ LF hX SV O hi (λC s₀ H₀ fp pins s σ H Q I h=>UN (Κ H I h)) VY hs
end
noncomputable abbrev S (l:List Nat):Str:=⟨l.toArray⟩
def xY (z:Str):z=S z.cps.toList:=by cases z;simp[S]
def C8 {a b:List Nat}(h:S a=S b):a=b:=by
 have h':a.toArray=b.toArray:=congrArg Str.cps h;simpa using congrArg PR h'
def cm (l:List Nat):(S l).length=l.length:=by show l.toArray.size=l.length;simp
def C9 (a b:List Nat):S a++S b=S (a++b):=by
 show(⟨a.toArray++b.toArray⟩:Str)=⟨(a++b).toArray⟩;simp
abbrev Re (l:List Nat)(lo hi:Option Int):List Nat:=(l.drop (HT.O7 l.length 0 lo)).take (HT.O7 l.length l.length hi - HT.O7 l.length 0 lo)
def Ep (l:List Nat)(lo hi:Option Int):(Re l lo hi).length<=l.length:=by
 unfold Re;rw[Ϭ,sw];omega
abbrev Vb (d:Int)(n:Nat):Option Int->Int
 | none=>d
 | some i=>max 0 (min (if i < 0 then i+(n:Int) else i) (n:Int))
def vK (d n:Nat)(o:Option Int):Vb (d:Int) n o=((HT.O7 n d o:Nat):Int):=by
 cases o with
 | none=>rfl
 | some i=>
  simp only[HT.O7,Vb]
  by_cases h:i < 0
  ·simp only[h,Om]<;>omega
  ·simp only[h,if_false]<;>omega
def vL (lo hi:Option Int)(n:Nat):KR lo hi 1 n=(io (HT.O7 n n hi - HT.O7 n 0 lo)).map (HT.O7 n 0 lo+·):=by
 have key:KR lo hi 1 n=sliceRange (Vb ((0:Nat):Int) n lo) (Vb (n:Int) n hi) 1:=by
  unfold KR;cases lo<;>cases hi<;>simp[Vb]
 rw[key,vK,vK,afR]
section
variable {X:Cx}
abbrev abO:V->Option Int->Option Int->Hp->VK->Prop:=λx lo hi H Q=>∃l,x=.str (S l)/\l.length<=sizeLine/\Q (.str (S (Re l lo hi))) H
def part_of {v:Η}{o:Option Int}(p:afP v o):∃l:Option (Int×Tok),v=partValue l/\l.map (·.1)=o:=by
 cases p with
 | none=>exact(Κ none rfl rfl)
 | int i t=>exact(Κ (some (i,t)) rfl rfl)
def Ge:ZH X abO:=by
 intro pins s σ H x v vl vu lo hi sl Q I rx hs pl pu h;(revert h;refine G' λl Τ hz q=>?_;subst Τ);obtain⟨t,rfl⟩:=rx;(refine ρ (part_of pl) λa Τ IK=>?_;subst Τ;subst IK);(refine ρ (part_of pu) λb Τ IK=>?_;subst Τ;subst IK);refine(ϒ ("str") _ F.slot_str_getitem.lookup (M8 _ _ _) ?_);refine wpAny_getItem_str_slice (l:=a) (u:=b) (st:=none) hs rfl ?_;have ep:slicePicked (S l) a b none=(io (HT.O7 l.length l.length (b.map (·.1)) - HT.O7 l.length 0 (a.map (·.1)))).map (HT.O7 l.length 0 (a.map (·.1))+·):=by
  have e:=vL (a.map (·.1)) (b.map (·.1)) (S l).length;rw[cm] at e;unfold slicePicked;rw[cm];exact e
 have ec:(slicePicked (S l) a b none).filterMap ((S l).cps[·]?)=Re l (a.map (·.1)) (b.map (·.1)):=by
  rw[ep,pick_run];simp only[Re]
 unfold sliceMade
 split
 ·rename_i hc
  have hlen:(slicePicked (S l) a b none).length=l.length:=by
   rw[Ϣ] at hc;have:=hc.2;rw[Q6,cm] at this;exact this
  have e:Re l (a.map (·.1)) (b.map (·.1))=l:=by
   rw[ep,Ζ,P1] at hlen;have h1:=HT.CQ l.length l.length (Φ _) (b.map (·.1));unfold Re;have h2:HT.O7 l.length 0 (a.map (·.1))=0:=by
    by_cases hl:l.length=0
    ·have:=HT.CQ l.length 0 (Ϛ _) (a.map (·.1))
     omega
    ·omega
   rw[hlen,h2,S0,sB]
  rw[e] at q;exact(ϒ (.str (S l)) H I ⟨t,rfl⟩ q)
 ·refine⟨?_,(ϒ (.str (S ((slicePicked (S l) a b none).filterMap ((S l).cps[·]?)))) H (I.tok _) ⟨_,rfl⟩ ?_)⟩
  ·rw[ec]
   show(Re l _ _).toArray.size<=sizeLine;rw[ϋ];exact ζ (Ep _ _ _) hz
  ·rw[ec]
   exact q
end
abbrev Zf (z:Str):It:=⟨λi _=>i < z.cps.size,λi H x H'=>H'=H/\∃c,z.cps[i]?=some c/\x=.str ⟨#[c]⟩,λi _=>z.cps.size<=i⟩
def AF {P:Ϗ}(hA:A.handled=none)(it:Ε)(z:Str)(t:Tok):Walks P w A it [it] [it] z.cps.size (SignAt z) (λi h=>h.IsStrIter it (strIterType z) z t i):=by
 unfold strIterType
 split
 ·exact Walks.strAscii hA it z t
 ·exact Walks.strWide hA it z t
def r9 (z:Str):["enumerate","zip","dict_itemiterator","dict_reverseitemiterator","odict_iterator","itertools.zip_longest","itertools.pairwise"].contains (strIterType z)=false:=by
 unfold strIterType
 split<;>decide
def Dc {P:Ϗ}{K:Ξ}(it:Ε)(z:Str)(t:Tok):Turn P w K tg (Zf z) [it] it (λi h=>h.IsStrIter it (strIterType z) z t i) where
 mem:=by simp
 obj:=λi h st b hb=>by
  have e:b=it:=by simpa using hb
  subst e;(revert st;refine G' λo e c d=>?_);exact(Κ o e (λv z=>by rw[d] at z;cases z))
 keep:=λi h h' st k=>let ⟨o,e,r⟩:=st;(Κ o (k it (by simp) o e) r)
 item:=by
  intro X hP hw hK hc i pins s σ H E I hf st hg;subst hP hw hK;(refine Q9 (hf it (by simp)) λf0 f1 f2 f3 f4 f5=>?_);refine(AF (I.ok.hd hc) it z t).item i s _ _ hg st λv h' tk hv UR kk=>?_;(revert hv;refine sK λc u hcz Τ=>?_;subst Τ);have I1:Inv X pins σ H { s with heap:=h',toks:=tk }:=I.turned (λb o hb e=>kk b o (by simpa using hb) e) f0 f1 f3 f4 f5;(refine ϭ (id UR) λo e ec d=>?_);exact(Κ _ rfl (vx (s:={ s with heap:=h',toks:=tk }) e ec d (r9 z) (Kz (.str ⟨#[c]⟩) H I1 ⟨u,rfl⟩ ⟨rfl,(Κ c hcz rfl)⟩ UR (λb hb=>(hf b hb).1))))
 done:=by
  intro X hP hw hK hc i pins s σ H E I hf st hg;subst hP hw hK;(refine Q9 (hf it (by simp)) λf0 f1 f2 f3 f4 f5=>?_);have hg':z.cps.size<=i:=hg
  by_cases ha:z.cps.all (· < 128)=true
  ·have UR:s.heap.IsStrIter it "str_ascii_iterator" z t i:=by
    have e:strIterType z="str_ascii_iterator":=by unfold strIterType;rw[δ ha]
    rw[<-e];exact st
   exact wpAny_pyNext_ascii_end (I.ok.hd hc) UR (by simpa using hg') λh' eb=>⟨rfl,I.turned (t':=s.toks) (λb o hb e=>eb b o hb e) f0 f1 f3 f4 f5⟩
  ·have UR:s.heap.IsStrIter it "str_iterator" z t i:=by
    have e:strIterType z="str_iterator":=by unfold strIterType;rw[Υ ha]
    rw[<-e];exact st
   exact wpAny_pyNext_wide_end (I.ok.hd hc) UR (by simpa using hg') λh' eb=>⟨rfl,I.turned (t':=s.toks) (λb o hb e=>eb b o hb e) f0 f1 f3 f4 f5⟩
 self:=λA i s Q E st h=>by
  by_cases ha:z.cps.all (· < 128)=true
  ·have e:strIterType z="str_ascii_iterator":=by unfold strIterType;rw[δ ha]
   exact wpAny_pyIter_striter_ascii (by rw[<-e];exact st) h
  ·have e:strIterType z="str_iterator":=by unfold strIterType;rw[Υ ha]
   exact wpAny_pyIter_striter_wide (by rw[<-e];exact st) h
def Er {z:Str}{D:Ends}(Pv:Nat->St->Hp->Prop)(h0:Pv 0 σ H)
  (hs:∀i c σ H,z.cps[i]?=some c->Pv i σ H->g (.str ⟨#[c]⟩) σ H λσ2 H2=>tb { D with nx:=Pv (i+1),ct:=Pv (i+1),bk:=D.nx } σ2 H2) (hd:∀σ H,Pv z.cps.size σ H->D.nx σ H) :
  ∃W:Nat->Nat->St->Hp->Prop,(∃m,W 0 m σ H)/\∀i m σ H,W i m σ H->
   ((Zf z).stop i H/\D.nx σ H)\/((Zf z).go i H/\∃N:St->Hp->Prop,(∀σ' H',N σ' H'->∃m',m' < m/\W (i+1) m' σ' H')/\∀x H',(Zf z).WD i H x H'->g x σ H' λσ2 H2=>tb { D with nx:=N,ct:=N,bk:=D.nx } σ2 H2):=by
 refine(Κ (λi m σ H=>m=z.cps.size - i/\i<=z.cps.size/\Pv i σ H) (ύ z.cps.size rfl (Ϛ _) h0) ?_)
 rintro i m σ H ⟨rfl,hi,p⟩
 by_cases KI:i < z.cps.size
 ·refine .inr ⟨KI,(Κ (Pv (i+1)) (λσ' H' p'=>(Jw (z.cps.size - (i+1)) (by omega) rfl KI p')) (λx H' y=>?_))⟩
  (revert y;refine Jb λe=>Ϟ λc hc Τ=>?_;subst Τ);subst e;exact hs i c σ _ hc p
 ·have e:i=z.cps.size:=by omega
  subst e;exact .inl ⟨Φ _,hd σ H p⟩
def hU {k:Nat}(hr:Jf k A):A.units+64 < cLine:=hr.units
def wv {k:Nat}(hr:Jf k A):A.units+1 < cLine:=Ht hr
abbrev Km (mg:Str->Option Η)(x:Str)(v:V):Prop:=∃u,mg x=some u/\RelV v u
def bx {X:Cx}{v:V}(c:Km X.mg x v)(hg:autoParam (Gl X x) L2.Ϩ._auto_1)(hd:autoParam ((x == ("__debug__":Str))=false) L2.Kh._auto_1):PE X (.Name x pos) (tC v):=by
 (revert c;refine Ϟ λu h1 h2=>?_);exact pJ hg h1 h2 hd
mutual
inductive Den (K:Ξ) (H:Hp):V->Lb->Prop
 | cr:Den K H .cr .none
 | bl (b:Bool):Den K H (.bl b) (.bool b)
 | int (i:Int):Den K H (.int i) (.int i)
 | str (x:Str):Den K H (.str x) (.str x)
 | lst {a:Ε} {xs:List V} {ds:List Lb}:GT K H a xs->Jx K H xs ds->Den K H (.ref a) (.list ds)
 | tup {a:Ε} {xs:List V} {ds:List Lb}:JZ K H a xs->Jx K H xs ds->Den K H (.ref a) (.tuple ds)
inductive Jx (K:Ξ) (H:Hp):List V->List Lb->Prop
 | nil:Jx K H [] []
 | cons {v:V} {d:Lb} {vs:List V} {ds:List Lb}:Den K H v d->Jx K H vs ds->Jx K H (v::vs) (d::ds)
end
mutual
def Den.reads {X:Cx}{s:Ι}(I:Inv X pins σ H s):∀{v:V} {d:Lb} {u:Η},Den X.K H v d->RelV v u->∃as,Reads s.heap u d as
 | _,_,_,.cr,r=>by cases (show _=be from r);exact⟨_,.none⟩
 | _,_,_,.bl b,r=>by cases (show _=JM b from r);exact⟨_,.bool b⟩
 | _,_,_,.int i,r=>by obtain⟨t,rfl⟩:=r;exact⟨_,.int i t⟩
 | _,_,_,.str x,r=>by obtain⟨t,rfl⟩:=r;exact⟨_,.str x t⟩
 | _,_,_,.lst h hd,r=>by
  cases (show _=π _ from r);(refine ϭ (I.list h) λits rv p hz=>?_);(refine ϭ p.isList λo ho hc=>Nc λn hdt=>?_);obtain⟨as,ra⟩:=Jx.reads I hd rv;exact⟨_,.list ho hc hdt (by simpa using ra)⟩
 | _,_,_,.tup h hd,r=>by
  cases (show _=π _ from r);(refine ϭ (I.tuple h) λits rv p hz=>?_);(revert p;refine G' λo ho hc=>Nc λn hdt=>?_);obtain⟨as,ra⟩:=Jx.reads I hd rv;exact⟨_,.tuple ho hc hdt (by simpa using ra)⟩
def Jx.reads {X:Cx}{s:Ι}(I:Inv X pins σ H s):∀{vs:List V} {ds:List Lb} {us:List Η},Jx X.K H vs ds->Vals vs us->∃as,ReadsAll s.heap us ds as
 | _,_,_,.nil,.nil=>⟨_,.nil⟩
 | _,_,_,.cons h t,.cons r rr=>by
  obtain⟨a,ha⟩:=Den.reads I h r;obtain⟨b,hb⟩:=Jx.reads I t rr;exact⟨_,.cons ha hb⟩
end
abbrev isRef:V->Bool
 | .ref _=>true
 | _=>false
abbrev S9 (K:Ξ)(neg:Bool):R2:=λx y H Q=>(isRef x || isRef y)=true/\∃d e,Den K H x d/\Den K H y e/\Lx d=true/\Lx e=true/\Q (.bl (if neg then !OX d e else OX d e)) H
section
variable {X:Cx}
def Gf (hu:X.A.units+64 < cLine):J3 X (compareOp .Eq) (S9 X.K false):=by
 intro pins s σ H x y v u Q I rx ry h;(revert h;refine Jb λ_=>O1 λd e hd he sd se q=>?_);obtain⟨as,ra⟩:=hd.reads I rx;obtain⟨bs,rb⟩:=he.reads I ry;exact eq_dataH ra rb sd se hu (ϒ (.bl (OX d e)) H I rfl q)
def Gg (hu:X.A.units+64 < cLine):J3 X (compareOp .NotEq) (S9 X.K true):=by
 intro pins s σ H x y v u Q I rx ry h;(revert h;refine Jb λ_=>O1 λd e hd he sd se q=>?_);obtain⟨as,ra⟩:=hd.reads I rx;obtain⟨bs,rb⟩:=he.reads I ry;exact ne_dataH ra rb sd se hu (ϒ (.bl (!OX d e)) H I rfl q)
def Gh (hu:X.A.units+64 < cLine):J3 X (compareOp .Eq) (λx y H Q=>rEq x y H Q\/S9 X.K false x y H Q):=Hl.or (Gf hu)
def Gi (hu:X.A.units+64 < cLine):J3 X (compareOp .NotEq) (λx y H Q=>rNe x y H Q\/S9 X.K true x y H Q):=Hm.or (Gg hu)
abbrev Pn (p:List Nat->List Nat->Bool):R2:=λx y H Q=>∃i j,x=.str i/\y=.str j/\Q (.bl (p i.cps.toList j.cps.toList)) H
def Gj:J3 X (compareOp .Lt) (Pn λa b=>decide (a < b)):=by
 intro pins s σ H x y v u Q I rx ry h;(revert h;refine IY λi j Τ IK q=>?_;subst Τ;subst IK);obtain⟨t,rfl⟩:=rx;obtain⟨t',rfl⟩:=ry;exact PySem.P.lt_str (ϒ (.bl (decide (i.cps.toList < j.cps.toList))) H I rfl q)
def Gk:J3 X (compareOp .LtE) (Pn λa b=>!decide (b < a)):=by
 intro pins s σ H x y v u Q I rx ry h;(revert h;refine IY λi j Τ IK q=>?_;subst Τ;subst IK);obtain⟨t,rfl⟩:=rx;obtain⟨t',rfl⟩:=ry;exact PySem.P.le_str (ϒ (.bl (!decide (j.cps.toList < i.cps.toList))) H I rfl q)
def Gm:J3 X (compareOp .Lt) (λx y H Q=>Qw (λi j=>.bl (decide (i < j))) x y H Q\/Pn (λa b=>decide (a < b)) x y H Q):=Hn.or Gj
def Gn:J3 X (compareOp .LtE) (λx y H Q=>Qw (λi j=>.bl (decide (i<=j))) x y H Q\/Pn (λa b=>!decide (b < a)) x y H Q):=Ho.or Gk
def uu:J3 X (compareOp .Gt) (Qw λi j=>.bl (decide (j < i))):=Hq
def Go:J3 X (compareOp .GtE) (Qw λi j=>.bl (decide (j<=i))):=Hr
abbrev Vc (K:Ξ):R2:=λx y H Q=>∃l b xs zs,x=.ref l/\y=.ref b/\GT K H l xs/\GT K H b zs/\xs.length+zs.length<=sizeLine/\∀p,H p=none->Q (.ref p) (upd H p (.lst (xs++zs)))
def Es:J3 X (binaryOp .Add) (Vc X.K):=by
 intro pins s σ H x y v u Q I rx ry h;(revert h;refine O2 λl b xs zs Τ IK hH hB=>Jb λhz q=>?_;subst Τ;subst IK);cases rx;cases ry;(refine ϭ (I.list hH) λits r p z1=>?_);(refine ϭ (I.list hB) λU9 r2 p2 z2=>?_);have h1:=r.length;have h2:=r2.length;(refine ϭ p.isList λΤ ho hc=>Nc λn hd=>?_;obtain ⟨cl,dc,dt,sl⟩:=Τ);(refine ϭ p2.isList λΤ ho2 hc2=>Nc λn2 hd2=>?_;obtain ⟨cl2,dc2,dt2,sl2⟩:=Τ);simp only at hc hd hc2 hd2;subst hc hd hc2 hd2;refine concat_meets (Κ _ ho rfl) (Κ _ ho2 rfl) PySem.noFill_list_add PySem.seq_list_add F.slot_list_add F.entry_list_add (F.args_list_add_2 _ _) (list_addW l b its.toArray U9.toArray n n2 dc dc2 sl sl2 (by rw[ϋ,ϋ];omega)) ⟨ho,ho2,?_⟩;have ea:its.toArray++U9.toArray=(its++U9).toArray:=by simp
 rw[ea];exact(ϒ (.ref _) _ (I.ad6 (t':=s.toks) (r.append r2) (by rw[Ω];omega)) rfl (q _ I.fresh))
abbrev RN:R2:=λx y H Q=>∃i j,x=.str (S i)/\y=.str (S j)/\i.length+j.length<=sizeLine/\Q (.str (S (i++j))) H
def De:J3 X (binaryOp .Add) RN:=by
 intro pins s σ H x y v u Q I rx ry h;(revert h;refine NB λi j Τ IK hz q=>?_;subst Τ;subst IK);refine xR pins s σ H _ _ v u Q I rx ry (Ky (S i) (S j) rfl rfl ?_ ?_)
 ·rw[cm,cm];exact hz
 ·rw[C9];exact q
def Et:J3 X (binaryOp .Add) (λx y H Q=>Qw (λi j=>.int (i+j)) x y H Q\/(RN x y H Q\/Vc X.K x y H Q)):=FU.or (De.or Es)
def vM:PIp X .Add (λx y H Q=>Qw (λi j=>.int (i+j)) x y H Q):=λpins s σ H x y v u Q I rx ry h=>Eh pins s σ H x y v u Q I rx ry h
def AG:IP X (.builtin "len") (λxs H Q=>∃l,xs=[.str (S l)]/\l.length<=sizeLine/\Q (.int l.length) H):=by
 intro pins s σ H xs us Q I r h;(revert h;refine G' λl Τ hz q=>?_;subst Τ);refine uo pins s σ H _ us Q I r (ύ (S l) rfl ?_ ?_)
 ·rw[cm];exact hz
 ·rw[cm];exact q
def AH:IP X (.builtin "len") (λxs H Q=>(∃p ys,xs=[.ref p]/\(GT X.K H p ys\/JZ X.K H p ys)/\Q (.int ys.length) H)\/((∃l,xs=[.str (S l)]/\l.length<=sizeLine/\Q (.int l.length) H)\/(∃a ϔ,xs=[V.ref a]/\H a=some (.dK ϔ)/\Q (.int ϔ.length) H))):=
 um.or (AG.or AE)
abbrev JU (K:Ξ):List V->Hp->VK->Prop:=λxs H Q=>(∃x t n b,xs=[x,.ty n]/\MH K H x t/\Xw K t (.type n)=some b/\Q (.bl b) H)\/(∃x t C b,xs=[x,.ref C]/\MH K H x t/\Xw K t (.ref C)=some b/\Q (.bl b) H)
def nG:IP X (.builtin "isinstance") (JU X.K):=by
 intro pins s σ H xs us Q I r h;rcases h with⟨x,t,n,b,rfl,ty,e,q⟩ | ⟨x,t,n,b,rfl,ty,e,q⟩
 ·(refine KA (vals2 r) λu w Τ rx Tu=>?_;subst Τ)
  cases Tu;exact sP I rx ty e λtk=>(ϒ (.bl b) H (I.tok tk) rfl q)
 ·(refine KA (vals2 r) λu w Τ rx Tu=>?_;subst Τ)
  cases Tu;exact sP I rx ty e λtk=>(ϒ (.bl b) H (I.tok tk) rfl q)
def AI:IP X (.builtin "ord") (λxs H Q=>∃c,xs=[.str (S [c])]/\Q (.int (c:Nat)) H):=by
 intro pins s σ H xs us Q I r h;(revert h;refine Ϟ λc Τ q=>?_;subst Τ);exact CL pins s σ H _ us Q I r (ύ (S [c]) rfl rfl q)
def Eu (hu:X.A.units+1 < cLine):XM X (λx y H Q=>∃a v,x=.ref a/\Jc H a y (some v)/\Q v H):=by
 intro value slice pins s σ H x y v u Q I rx ry h hs;(revert h;refine IY λa z Τ g q=>?_;subst Τ);cases (show v=π a from rx);exact Y6 (vG I g) PySem.F.slot_dict_getitem.lookup (AB hu I g ry λw' s3 I3 Tu=>(ϒ z H I3 Tu q)) hs
abbrev Yo:R2:=λx y H Q=>∃l i c,x=.str (S l)/\y=.int i/\l.length<=sizeLine/\Wd l i=some c/\Q (.str (S [c])) H
def Ew:XM X Yo:=by
 intro value slice pins s σ H x y v u Q I rx ry h hs;(revert h;refine RG λl i c Τ IK hz he q=>?_;subst Τ;subst IK);exact F0 value slice pins s σ H _ _ v u Q I rx ry (IN (S l) i c rfl rfl (by rw[cm];exact hz) (by simpa using he) q) hs
abbrev Qb (K:Ξ):R2:=λx y H Q=>abz K x y H Q\/(abA K x y H Q\/(Yo x y H Q\/(∃a v,x=.ref a/\Jc H a y (some v)/\Q v H)))
def Gp (hu:X.A.units+1 < cLine):XM X (Qb X.K):=Ej.or (FZ.or (Ew.or (Eu hu)))
abbrev Yp (K:Ξ):V->Option Int->Option Int->Hp->VK->Prop:=λx lo hi H Q=>abC K x lo hi H Q\/abO x lo hi H Q
def Gq:ZH X (Yp X.K):=Ek.or Ge
abbrev aaI:V->V->V->Hp->(Hp->Prop)->Prop:=λo i v H Q=>aaB o i v H Q\/∃a H',o=.ref a/\Pm H a i v H'/\Q H'
def eK (hu:X.A.units+1 < cLine):abq X aaI:=by
 intro pins s σ H o i v ov iv u Q I ro ri rv h;rcases h with h | ⟨a,H',rfl,g,q⟩
 ·exact set_list pins s σ H o i v ov iv u Q I ro ri rv h
 ·cases (show ov=π a from ro)
  exact AD hu I g ri rv λs4 I4=>(Κ H' I4 q)
def Gr (hu:X.A.units+1 < cLine):J3 X (compareOp .In) (λy x H Q=>∃a o,x=.ref a/\Jc H a y o/\Q (.bl o.isSome) H):=by
 intro pins s σ H y x v u Q I ry rx h;(revert h;refine IY λa o Τ g q=>?_;subst Τ);cases (show u=π a from rx);exact Ic hu I g ry λs3 I3=>(ϒ (.bl o.isSome) H I3 rfl q)
def AJ (hu:X.A.units+1 < cLine):J3 X (compareOp .NotIn) (λy x H Q=>∃a o,x=.ref a/\Jc H a y o/\Q (.bl (!o.isSome)) H):=by
 intro pins s σ H y x v u Q I ry rx h;(revert h;refine IY λa o Τ g q=>?_;subst Τ);cases (show u=π a from rx);exact En hu I g ry λs3 I3=>(ϒ (.bl (!o.isSome)) H I3 rfl q)
abbrev Us (j i:Str):Bool:=!(LP j i 0 j.length 1).isEmpty
def Gs (hu:X.A.units+1 < cLine):J3 X (compareOp .In) (λx y H Q=>rIn X.K false x y H Q\/((∃i j,x=.str i/\y=.str j/\Q (.bl (Us j i)) H)\/(∃a o,y=.ref a/\Jc H a x o/\Q (.bl o.isSome) H))):=
 Ay.or (J3.or (r:=λx y H Q=>∃i j,x=.str i/\y=.str j/\Q (.bl (Us j i)) H) Av (Gr hu))
def AK (hu:X.A.units+1 < cLine):J3 X (compareOp .NotIn) (λx y H Q=>rIn X.K true x y H Q\/((∃i j,x=.str i/\y=.str j/\Q (.bl (!Us j i)) H)\/(∃a o,y=.ref a/\Jc H a x o/\Q (.bl (!o.isSome)) H))):=
 uj.or (J3.or (r:=λx y H Q=>∃i j,x=.str i/\y=.str j/\Q (.bl (!Us j i)) H) uk (AJ hu))
abbrev db (sep:List Nat):List (List Nat)->List Nat
 | []=>[]
 | [x]=>x
 | x::rest=>x++sep++db sep rest
def AL (ls:List (List Nat)):db [] ls=ls.flatten:=by
 induction ls with
 | nil=>rfl
 | cons a r ih=>
  cases r with
  | nil=>simp[db]
  | cons b t=>rw[db,ih];simp;intro h;cases h
def uv (sep:List Nat):∀ls:List (List Nat),asi (S sep) (ls.map S)=S (db sep ls)
 | []=>rfl
 | [x]=>rfl
 | x::y::r=>by
  have ih:=uv sep (y::r);show S x++S sep++asi (S sep) ((y::r).map S)=S (x++sep++db sep (y::r));rw[ih,C9,C9]
def xZ:∀{us:List Η},Vals (ls.map λl=>V.str (S l)) us->StrsAre us (ls.map S):=by
 induction ls with
 | nil=>intro us r;cases r;exact .nil
 | cons a r ih=>
  intro us h;cases h with
  | cons h1 h2=>
   obtain⟨t,rfl⟩:=h1;exact .cons _ t (ih h2)
abbrev rJoin (K:Ξ):V->List V->Hp->VK->Prop:=λx vs H Q=>∃sep p ls,x=.str (S sep)/\vs=[.ref p]/\GT K H p (ls.map λl=>V.str (S l))/\(ls.map Ϻ).sum+ls.length * sep.length<=16777216/\Q (.str (S (db sep ls))) H
def Ex:MtR X "str.join" (rJoin X.K):=by
 intro pins s σ H x vs v us Q I rx rv h;(revert h;refine RG λsep p ls Τ IK hq hz q=>?_;subst Τ;subst IK);obtain⟨t,rfl⟩:=rx;(refine ρ (vals1 rv) λu Τ ru=>?_;subst Τ);cases ru;(refine ϭ (I.list hq) λits r pl _=>?_);refine join_list pl.isList (ys:=ls.map S) (by simpa using xZ r) ?_ λt' k=>?_
 ·rw[χ,Ζ]
  have e:(afQ∘S)=Ϻ:=by funext l;exact cm l
  rw[e,cm];exact hz
 ·have e:Txt.join (S sep) (ls.map S)=S (db sep ls):=(ay8 _ _).trans (uv sep ls)
  rw[e];exact(ϒ (.str (S (db sep ls))) H (I.tok k) ⟨t',rfl⟩ q)
abbrev Yq (K:Ξ)(tl:TE):TI:=λσ H R=>tl σ H λx H1=>(∃a,x=.ref a/\(∃xs,GT K H1 a xs)/\R (U3 K a) H1)\/((∃a,x=.ref a/\(∃xs,JZ K H1 a xs)/\R (Itt K a) H1)\/(∃z,x=.str z/\R (Zf z) H1))
def Gu {l:bv}(hl:PE X l tl):PI X tg l (Yq X.K tl):=by
 intro pins s σ H R I h;refine IJ (hl pins s σ H _ I h) λv s1 x H1 I1 r1 q1=>?_;have aux:∀{e:Η} {t:TE} {R':It->Hp->Prop},True:=λ{_ _ _}=>trivial;have fp:∀b,b∈[s1.heap.objs.size]->K1 X pins H1 b:=λb hb=>by
  have e:b=s1.heap.objs.size:=by simpa using hb
  subst e;exact I1.P' (Φ _) (I1.At.fresh (Φ _))
 rcases q1 with⟨a,e,⟨xs,hq⟩,q⟩ | ⟨a,e,⟨xs,hq⟩,q⟩ | ⟨z,e,q⟩
 ·subst e
  cases r1;(refine ϭ (I1.list hq) λits rv p hz=>?_);refine Fk p.isList ?_;exact(Ov s1.heap.objs.size ([s1.heap.objs.size]) _ _ H1 rfl (I1.kept (t':=s1.toks) λb o e=>Δ _ e) (Aq a _) (ύ _ (θ _ rfl) rfl rfl) fp q)
 ·subst e
  cases r1;(refine ϭ (I1.tuple hq) λits rv p hz=>?_);refine aap (show s1.heap.IsTuple a its.toArray from p) ?_;exact(Ov s1.heap.objs.size ([s1.heap.objs.size]) _ _ H1 rfl (I1.kept (t':=s1.toks) λb o e=>Δ _ e) (xK a _) (ύ _ (θ _ rfl) rfl rfl) fp q)
 ·subst e
  obtain⟨t,rfl⟩:=r1;refine abd ?_;exact(Ov s1.heap.objs.size ([s1.heap.objs.size]) _ _ H1 rfl (I1.kept (t':=s1.toks) λb o e=>Δ _ e) (Dc _ z t) (ύ _ (θ _ rfl) rfl rfl) fp q)
end
def jX {D:Ε}{Q:Hp->Prop}(n:Nat)(hn:n<=sizeLine)(hD:H D=none)(item f:Nat->V)(p:Nat->Bool)
  (aen:∀H',Χ H H'->J.stop n H') (hgo:∀i H',Χ H H'->i < n->J.go i H') (hy:∀i H' x Kj,Χ H H'->i < n->J.WD i H' x Kj->Kj=H'/\x=item i)
  (ht:∀i H',i < n->Χ H H'->∀Qt:Bool->Hp->Prop,(∀Kj,Χ H' Kj->Qt (p i) Kj)->tt (some (item i)::σ) H' Qt)
  (he:∀i H',i < n->p i=true->Χ H H'->∀Qe:VK,(∀Kj,Χ H' Kj->Qe (f i) Kj)->te (some (item i)::σ) H' Qe)
  (hd:∀H',Χ H H'->H' D=some (.lst (((io n).filter p).map f))->Q H') :
  ∃W:Nat->Nat->List V->Hp->Prop,(∃m,W 0 m [] (upd H D (.lst [])))/\∀i m ys H2,W i m ys H2->
   (J.stop i H2/\H2 D=some (.lst ys)/\Q H2)\/(J.go i H2/\ys.length < sizeLine/\∀x H3,J.WD i H2 x H3->tt (some x::σ) H3 λb H4=>
    if b=true then te (some x::σ) H4 λy H5=>H5 D=some (.lst ys)/\∃m',m' < m/\W (i+1) m' (ys++[y]) (upd H5 D (.lst (ys++[y]))) else ∃m',m' < m/\W (i+1) m' ys H4):=by
 have aaJ:∀{H':Hp} {ys:List V},Χ H H'->Χ H (upd H' D (.lst ys)):=λ{H' ys} h b o e=>by
  rw[aj (aD e hD)];exact h b o e
 refine(Κ (λi m ys H2=>m=n - i/\i<=n/\ys=((io i).filter p).map f/\H2 D=some (.lst ys)/\Χ H H2) (RI n rfl (Ϛ _) rfl ae (aaJ (Χ.refl _))) ?_)
 rintro i m ys H2 ⟨rfl,hi,e,hH,hs⟩
 have hlen:ys.length<=i:=by
  rw[e,Ζ];exact ζ (NR _ _) (by rw[P1];exact Φ _)
 by_cases KI:i < n
 ·refine .inr ⟨hgo i H2 hs KI,by omega,λx H3 y=>?_⟩
  obtain⟨rfl,rfl⟩:=hy i H2 x H3 hs KI y;have grow:((io (i+1)).filter p).map f=if p i=true then ys++[f i] else ys:=by
   rw[NM,LV,ϖ,<-e]
   by_cases hp:p i=true
   ·rw[δ hp];simp[hp]
   ·have Vd:p i=false:=by simpa using hp
    rw[Υ hp];simp[Vd]
  refine ht i _ KI hs _ λH4 s4=>?_
  by_cases hp:p i=true
  ·rw[hp,δ rfl]
   rw[δ hp] at grow;refine he i H4 KI hp (hs.trans s4) _ λH5 s5=>⟨s5 _ _ (s4 _ _ hH),(P7 (n - (i+1)) (by omega) rfl KI grow.symm ae (aaJ ((hs.trans s4).trans s5)))⟩
  ·have Vd:p i=false:=by simpa using hp
   rw[Vd,Υ ϊ];rw[Υ hp] at grow;exact(P7 (n - (i+1)) (by omega) rfl KI grow.symm (s4 _ _ hH) (hs.trans s4))
 ·have ei:i=n:=by omega
  subst ei;rw[e] at hH;exact .inl ⟨aen _ hs,by rw[e];exact hH,hd _ hs hH⟩
def cV (l:List α):l.filter (λ_=>true)=l:=by induction l<;>simp_all
def Χ.upd {D:Ε}{o:HO}(hD:H D=none):Χ H (upd H D o):=λb u e=>by
 rw[aj (aD e hD)];exact e
def aW {xs:List α}{i:Int}{v:α}(h0:0<=i)(h:xs[i.toNat]?=some v):Wd xs i=some v:=by
 have:=eJ (xs:=xs) (j:=i.toNat) h
 rwa [show((i.toNat:Nat):Int)=i by omega] at this
def aK {K:Ξ}{x:V}{n:String}{b:Bool}(hT:∀t,MH K H x t↔t=.type T)(hk:Xw K (.type T) (.type n)=some b):JU K [x,.ty n] H Q↔Q (.bl b) H:=by
 constructor
 ·rintro(⟨x',t,n',b',e,ty,k,q⟩ | ⟨x',t,C,b',e,ty,k,q⟩)
  ·simp only[asj,V.ty.injEq,and_true] at e
   obtain⟨rfl,rfl⟩:=e;rw[(hT t).mp ty,hk] at k;cases k;exact q
  ·simp at e
 ·intro q
  exact .inl (LD x _ n (Jw b rfl ((hT _).mpr rfl) hk q))
def gU {K:Ξ}(t:Η):MH K H .cr t↔t=.type "NoneType":=⟨λh=>by cases h;rfl,λh=>h▸.cr⟩
def jY {K:Ξ}(b:Bool)(t:Η):MH K H (.bl b) t↔t=.type "bool":=⟨λh=>by cases h;rfl,λh=>h▸.bl b⟩
def gW {K:Ξ}(b:Int)(t:Η):MH K H (.int b) t↔t=.type "int":=⟨λh=>by cases h;rfl,λh=>h▸.int b⟩
def gX {K:Ξ}(b:Str)(t:Η):MH K H (.str b) t↔t=.type "str":=⟨λh=>by cases h;rfl,λh=>h▸.str b⟩
def qf {K:Ξ}(e:H a=some (.lst xs))(t:Η):MH K H (.ref a) t↔t=.type "list":=by
 constructor
 ·intro h
  cases h<;>first | rfl | (rename_i e';rw[e] at e';cases e') | (rename_i e' _ _ _ _ _;rw[e] at e';cases e')
 ·intro h
  exact h▸.lst e
def qg {K:Ξ}(e:H a=some (.tup xs))(t:Η):MH K H (.ref a) t↔t=.type "tuple":=by
 constructor
 ·intro h
  cases h<;>first | rfl | (rename_i e';rw[e] at e';cases e') | (rename_i e' _ _ _ _ _;rw[e] at e';cases e')
 ·intro h
  exact h▸.tup e
def Fq {K:Ξ}:JU K [.cr,.ty "int"] H Q↔Q (.bl false) H:=aK (gU) (by rfl)
def Ey {K:Ξ}:JU K [.cr,.ty "bool"] H Q↔Q (.bl false) H:=aK (gU) (by rfl)
def Fs {K:Ξ}:JU K [.cr,.ty "str"] H Q↔Q (.bl false) H:=aK (gU) (by rfl)
def Ez {K:Ξ}:JU K [.cr,.ty "list"] H Q↔Q (.bl false) H:=aK (gU) (by rfl)
def D9 {K:Ξ}:JU K [.cr,.ty "tuple"] H Q↔Q (.bl false) H:=aK (gU) (by rfl)
def EA {K:Ξ}:JU K [.cr,.ty "dict"] H Q↔Q (.bl false) H:=aK (gU) (by rfl)
def Gv {K:Ξ}{b:Bool}:JU K [(.bl b),.ty "int"] H Q↔Q (.bl true) H:=aK (jY _) (by rfl)
def Ft {K:Ξ}{b:Bool}:JU K [(.bl b),.ty "bool"] H Q↔Q (.bl true) H:=aK (jY _) (by rfl)
def Gw {K:Ξ}{b:Bool}:JU K [(.bl b),.ty "str"] H Q↔Q (.bl false) H:=aK (jY _) (by rfl)
def Fu {K:Ξ}{b:Bool}:JU K [(.bl b),.ty "list"] H Q↔Q (.bl false) H:=aK (jY _) (by rfl)
def EB {K:Ξ}{b:Bool}:JU K [(.bl b),.ty "tuple"] H Q↔Q (.bl false) H:=aK (jY _) (by rfl)
def Fv {K:Ξ}{b:Bool}:JU K [(.bl b),.ty "dict"] H Q↔Q (.bl false) H:=aK (jY _) (by rfl)
def Fw {K:Ξ}{b:Int}:JU K [(.int b),.ty "int"] H Q↔Q (.bl true) H:=aK (gW _) (by rfl)
def EC {K:Ξ}{b:Int}:JU K [(.int b),.ty "bool"] H Q↔Q (.bl false) H:=aK (gW _) (by rfl)
def Fx {K:Ξ}{b:Int}:JU K [(.int b),.ty "str"] H Q↔Q (.bl false) H:=aK (gW _) (by rfl)
def ED {K:Ξ}{b:Int}:JU K [(.int b),.ty "list"] H Q↔Q (.bl false) H:=aK (gW _) (by rfl)
def Ea {K:Ξ}{b:Int}:JU K [(.int b),.ty "tuple"] H Q↔Q (.bl false) H:=aK (gW _) (by rfl)
def EE {K:Ξ}{b:Int}:JU K [(.int b),.ty "dict"] H Q↔Q (.bl false) H:=aK (gW _) (by rfl)
def Fy {K:Ξ}{b:Str}:JU K [(.str b),.ty "int"] H Q↔Q (.bl false) H:=aK (gX _) (by rfl)
def EF {K:Ξ}{b:Str}:JU K [(.str b),.ty "bool"] H Q↔Q (.bl false) H:=aK (gX _) (by rfl)
def Fz {K:Ξ}{b:Str}:JU K [(.str b),.ty "str"] H Q↔Q (.bl true) H:=aK (gX _) (by rfl)
def EG {K:Ξ}{b:Str}:JU K [(.str b),.ty "list"] H Q↔Q (.bl false) H:=aK (gX _) (by rfl)
def Eb {K:Ξ}{b:Str}:JU K [(.str b),.ty "tuple"] H Q↔Q (.bl false) H:=aK (gX _) (by rfl)
def EH {K:Ξ}{b:Str}:JU K [(.str b),.ty "dict"] H Q↔Q (.bl false) H:=aK (gX _) (by rfl)
def vN {K:Ξ}(e:H a=some (.lst xs)):JU K [.ref a,.ty "int"] H Q↔Q (.bl false) H:=aK (qf e) (by rfl)
def oA {K:Ξ}(e:H a=some (.lst xs)):JU K [.ref a,.ty "str"] H Q↔Q (.bl false) H:=aK (qf e) (by rfl)
def uw {K:Ξ}(e:H a=some (.lst xs)):JU K [.ref a,.ty "list"] H Q↔Q (.bl true) H:=aK (qf e) (by rfl)
def vO {K:Ξ}(e:H a=some (.tup xs)):JU K [.ref a,.ty "int"] H Q↔Q (.bl false) H:=aK (qg e) (by rfl)
def vP {K:Ξ}(e:H a=some (.tup xs)):JU K [.ref a,.ty "str"] H Q↔Q (.bl false) H:=aK (qg e) (by rfl)
def sf {K:Ξ}(e:H a=some (.tup xs)):JU K [.ref a,.ty "tuple"] H Q↔Q (.bl true) H:=aK (qg e) (by rfl)
abbrev Ut (J:It)(g:TG)(tb:TS)(D:Ends)(σ:St)(H1:Hp):Prop:=∃W:Nat->Nat->St->Hp->Prop,(∃m,W 0 m σ H1)/\∀i m σ H,W i m σ H->
 (J.stop i H/\D.nx σ H)\/(J.go i H/\∃N:St->Hp->Prop,(∀σ' H',N σ' H'->∃m',m' < m/\W (i+1) m' σ' H')/\∀x H',J.WD i H x H'->g x σ H' λσ2 H2=>tb { D with nx:=N,ct:=N,bk:=D.nx } σ2 H2)
def HX (wi:TI)(g:TG)(tb:TS)(D:Ends)(σ:St)(H:Hp):ZD wi g tb D σ H=wi σ H λJ H1=>Ut J g tb D σ H1:=rfl
abbrev NX (J:It)(tt:TT)(te:TE)(σ:St)(H1:Hp)(Q:VK):Prop:=∀D,H1 D=none->∃W:Nat->Nat->List V->Hp->Prop,(∃m,W 0 m [] (upd H1 D (.lst [])))/\∀i m ys H2,W i m ys H2->
 (J.stop i H2/\H2 D=some (.lst ys)/\Q (.ref D) H2)\/(J.go i H2/\ys.length < sizeLine/\∀x H3,J.WD i H2 x H3->tt (some x::σ) H3 λb H4=>
  if b=true then te (some x::σ) H4 λy H5=>H5 D=some (.lst ys)/\∃m',m' < m/\W (i+1) m' (ys++[y]) (upd H5 D (.lst (ys++[y]))) else ∃m',m' < m/\W (i+1) m' ys H4)
def Hw (wi:TI)(tt:TT)(te:TE)(σ:St)(H:Hp)(Q:VK):RM wi tt te σ H Q=wi σ H λJ H1=>NX J tt te σ H1 Q:=rfl
def qh {z:Str}{D:Ends}(Pv:Nat->St->Hp->Prop)(h0:Pv 0 σ H)
  (hs:∀i c σ H,z.cps[i]?=some c->Pv i σ H->g (.str (S [c])) σ H λσ2 H2=>tb { D with nx:=Pv (i+1),ct:=Pv (i+1),bk:=D.nx } σ2 H2) (hd:∀σ H,Pv z.cps.size σ H->D.nx σ H):Ut (Zf z) g tb D σ H:=
 Er Pv h0 hs hd
def cv {K:Ξ}{D:Ends}(Pv:Nat->St->Hp->Prop)(h0:Pv 0 σ H)(hl:∀i σ H,i<=xs.length->Pv i σ H->GT K H a xs)
  (hs:∀i x σ H,xs[i]?=some x->Pv i σ H->g x σ H λσ2 H2=>tb { D with nx:=Pv (i+1),ct:=Pv (i+1),bk:=D.nx } σ2 H2) (hd:∀σ H,Pv xs.length σ H->D.nx σ H):Ut (U3 K a) g tb D σ H:=
 CF Pv h0 hl hs hd
def kY {lo:Int}{D:Ends}(Pv:Nat->St->Hp->Prop)(h0:Pv 0 σ H)
  (hs:∀i σ H,i < n->Pv i σ H->g (.int (lo+i)) σ H λσ2 H2=>tb { D with nx:=Pv (i+1),ct:=Pv (i+1),bk:=D.nx } σ2 H2) (hd:∀σ H,Pv n σ H->D.nx σ H):Ut (ZC lo n) g tb D σ H:=
 Au Pv h0 hs hd
def Im {P:Ϗ}{K:Ξ}{base:ϟ}{N:List Str}{s:Ι}{E:XK} :
  (NW CX P w K mg base N qual scope f cd A outer s H E).K=K:=rfl
def qi (a b:List Nat):(S a=S b)=(a=b):=propext ⟨C8,λh=>by rw[h]⟩
abbrev RO (K:Ξ):R2:=λx y H Q=>Qw (λi j=>.int (i+j)) x y H Q\/(RN x y H Q\/Vc K x y H Q)
abbrev Xa (K:Ξ):R2:=λx y H Q=>rEq x y H Q\/S9 K false x y H Q
abbrev Wh (K:Ξ):R2:=λx y H Q=>rNe x y H Q\/S9 K true x y H Q
abbrev rLt:R2:=λx y H Q=>Qw (λi j=>.bl (decide (i < j))) x y H Q\/Pn (λa b=>decide (a < b)) x y H Q
abbrev rLe:R2:=λx y H Q=>Qw (λi j=>.bl (decide (i<=j))) x y H Q\/Pn (λa b=>!decide (b < a)) x y H Q
abbrev Wi (K:Ξ):List V->Hp->VK->Prop:=λxs H Q=>(∃p ys,xs=[.ref p]/\(GT K H p ys\/JZ K H p ys)/\Q (.int ys.length) H)\/((∃l,xs=[.str (S l)]/\l.length<=sizeLine/\Q (.int l.length) H)\/(∃a ϔ,xs=[V.ref a]/\H a=some (.dK ϔ)/\Q (.int ϔ.length) H))
abbrev ZP (K:Ξ):R2:=λx y H Q=>rIn K false x y H Q\/((∃i j,x=.str i/\y=.str j/\Q (.bl (Us j i)) H)\/(∃a o,y=.ref a/\Jc H a x o/\Q (.bl o.isSome) H))
abbrev aeo (K:Ξ):R2:=λx y H Q=>rIn K true x y H Q\/((∃i j,x=.str i/\y=.str j/\Q (.bl (!Us j i)) H)\/(∃a o,y=.ref a/\Jc H a x o/\Q (.bl (!o.isSome)) H))
abbrev WI (K:Ξ):List V->Hp->VK->Prop:=λxs H Q=>∃p ys,xs=[.ref p]/\(GT K H p ys\/JZ K H p ys)/\∀l,H l=none->Q (.ref l) (upd H l (.lst ys))
abbrev aik:List V->Hp->VK->Prop:=λxs H Q=>∃c,xs=[.str (S [c])]/\Q (.int (c:Nat)) H
abbrev Yr (K:Ξ)(x:V)(H1:Hp)(R:It->Hp->Prop):Prop:=(∃a,x=.ref a/\(∃xs,GT K H1 a xs)/\R (U3 K a) H1)\/((∃a,x=.ref a/\(∃xs,JZ K H1 a xs)/\R (Itt K a) H1)\/(∃z,x=.str z/\R (Zf z) H1))
def HY (K:Ξ)(tl:TE)(σ:St)(H:Hp)(R:It->Hp->Prop):Yq K tl σ H R=tl σ H λx H1=>Yr K x H1 R:=rfl
abbrev abQ (K:Ξ)(ta:TE):TT:=λσ H Q=>ta σ H λx H'=>∃k,W' K x H' k/\Q k H'
section
variable {K:Ξ} {R:It->Hp->Prop} {x:V} {p:Ε} {zs:List V}
def gY (i j:Int):RO K (.int i) (.int j) H Q=Q (.int (i+j)) H:=by simp[RO,Qw,RN,Vc]
def qj (i j:Str):RO K (.str i) (.str j) H Q=∃l m,i=S l/\j=S m/\l.length+m.length<=sizeLine/\Q (.str (S (l++m))) H:=by simp[RO,Qw,RN,Vc]
def lV (h1:GT K H a xs)(h2:GT K H b zs)(hz:xs.length+zs.length<=sizeLine)(q:∀p,H p=none->Q (.ref p) (upd H p (.lst (xs++zs)))):RO K (.ref a) (.ref b) H Q:=.inr (.inr (O3 a b xs zs rfl rfl h1 h2 ⟨hz,q⟩))
def zx9 {p q r s t9:Prop}(h:p)(n:¬r)(e:q=s):((p/\q)\/(r/\t9))=s:=by
 subst e;exact propext ⟨λz=>z.elim (·.2) λz=>absurd z.1 n,λz=>.inl ⟨h,z⟩⟩
def zyy {i j:Int}:decide (V.int i=V.int j)=decide (i=j):=by simp
def zyz {i j:Str}:decide (V.str i=V.str j)=decide (i=j):=by simp
def zH (i j:Int):Xa K (.int i) (.int j) H Q=Q (.bl (decide (i=j))) H:=zx9 rfl ϊ (by rw[zyy])
def zI (i j:Int):Wh K (.int i) (.int j) H Q=Q (.bl (!(decide (i=j)))) H:=zx9 rfl ϊ (by rw[zyy])
def HZ (i j:Str):Xa K (.str i) (.str j) H Q=Q (.bl (decide (i=j))) H:=zx9 rfl ϊ (by rw[zyz])
def ux (i j:Str):Wh K (.str i) (.str j) H Q=Q (.bl (!(decide (i=j)))) H:=zx9 rfl ϊ (by rw[zyz])
def Gx {d e:Lb}(hr:(isRef x || isRef y)=true)(h1:Den K H x d)(h2:Den K H y e)(s1:Lx d=true)(s2:Lx e=true)(q:Q (.bl (!OX d e)) H):Wh K x y H Q:=.inr ⟨hr,(Kz d e h1 h2 s1 s2 q)⟩
def Df (i j:Int):rLt (.int i) (.int j) H Q=Q (.bl (decide (i < j))) H:=by simp[rLt,Qw,Pn]
def Ie (i j:Int):rLe (.int i) (.int j) H Q=Q (.bl (decide (i<=j))) H:=by simp[rLe,Qw,Pn]
def Ig (i j:Str):rLe (.str i) (.str j) H Q=Q (.bl (!decide (j.cps.toList < i.cps.toList))) H:=by simp[rLe,Qw,Pn]
def Gy (i:Str):Wi K [.str i] H Q=∃l,i=S l/\l.length<=sizeLine/\Q (.int l.length) H:=by simp[Wi]
def bY (h:GT K H p ys)(q:Q (.int ys.length) H):Wi K [.ref p] H Q:=.inl (ϒ p ys rfl (.inl h) q)
def Gz (h:JZ K H p ys)(q:Q (.int ys.length) H):Wi K [.ref p] H Q:=.inl (ϒ p ys rfl (.inr h) q)
def Ih (i j:Str):ZP K (.str i) (.str j) H Q=Q (.bl (Us j i)) H:=by simp[ZP,rIn]
def Dg (h:GT K H p xs\/JZ K H p xs)(f:OF x=true)(g:xs.all OF=true)(q:Q (.bl (inV x xs)) H):ZP K x (.ref p) H Q:=.inl (Kz p xs rfl h f g q)
def GA {o:Option V}(h:Jc H p x o)(q:Q (.bl (!o.isSome)) H):aeo K x (.ref p) H Q:=.inr (.inr (ϒ p o rfl h q))
def nH (h:GT K H p ys\/JZ K H p ys)(q:∀l,H l=none->Q (.ref l) (upd H l (.lst ys))):WI K [.ref p] H Q:=(ϒ p ys rfl h q)
def Ii (i:Str):Qb K (.str i) y H Q=Yo (.str i) y H Q:=by simp[Qb,abz,abA]
def aJ {i:Int}{v:V}(h:GT K H p xs)(e:Wd xs i=some v)(q:Q v H):Qb K (.ref p) (.int i) H Q:=.inl (O3 p xs i v rfl rfl h e q)
def bc {i:Int}{v:V}(h:JZ K H p xs)(e:Wd xs i=some v)(q:Q v H):Qb K (.ref p) (.int i) H Q:=.inr (.inl (O3 p xs i v rfl rfl h e q))
def aP {v:V}(h:Jc H p y (some v))(q:Q v H):Qb K (.ref p) y H Q:=.inr (.inr (.inr (ϒ p v rfl h q)))
def x2 (i:Str)(lo hi:Option Int):Yp K (.str i) lo hi H Q=abO (.str i) lo hi H Q:=by simp[Yp,abC]
def uy {lo hi:Option Int}(h:GT K H a xs)(q:∀p,H p=none->Q (.ref p) (upd H p (.lst (Rc xs lo hi)))):Yp K (.ref a) lo hi H Q:=.inl (ϒ a xs rfl h q)
def Ij (z:Str):Yr K (.str z) H R=R (Zf z) H:=by simp[Yr]
def bL (h:GT K H a xs)(q:R (U3 K a) H):Yr K (.ref a) H R:=.inl (ύ a rfl ⟨xs,h⟩ q)
def Dh (h:JZ K H a xs)(q:R (Itt K a) H):Yr K (.ref a) H R:=.inr (.inl (ύ a rfl ⟨xs,h⟩ q))
def eM {v:V}{Qh:Hp->Prop}(h:Pm H p y v H')(q:Qh H'):aaI (.ref p) y v H Qh:=.inr (ϒ p H' rfl h q)
def gI (b k:Bool):W' K (.bl b) H k=(k=b):=rfl
def Ik (k:Bool):W' K .cr H k=(k=false):=rfl
def Il (i:Int)(k:Bool):W' K (.int i) H k=(k=(i != 0)):=rfl
end
section
variable {X:Cx} {K:Ξ} {a b c o l:bv} {tb:TE} {p2:Pos} {f:Str} {lo hi:Option bv} {tlo thi:TO}
def aB (hK:autoParam (X.K=K) L2.Ϩ._auto_1):J3 X (binaryOp .Add) (RO K):=hK▸Et
def cC (hu:X.A.units+64 < cLine)(hK:autoParam (X.K=K) L2.Ϩ._auto_1):J3 X (compareOp .Eq) (Xa K):=hK▸Gh hu
def di (hu:X.A.units+64 < cLine)(hK:autoParam (X.K=K) L2.Ϩ._auto_1):J3 X (compareOp .NotEq) (Wh K):=hK▸Gi hu
def aO (hK:autoParam (X.K=K) L2.Ϩ._auto_1):IP X (.builtin "len") (Wi K):=hK▸AH
def jZ:IP X (.builtin "ord") aik:=AI
def kZ:J3 X (compareOp .Lt) rLt:=Gm
def fe:J3 X (compareOp .LtE) rLe:=Gn
def bo (hK:autoParam (X.K=K) L2.Ϩ._auto_1):IP X (.builtin "isinstance") (JU K):=hK▸nG
def iD (hK:autoParam (X.K=K) L2.Ϩ._auto_1):IP X (.type "list") (WI K):=hK▸uq
def ak (hu:X.A.units+1 < cLine)(hK:autoParam (X.K=K) L2.Ϩ._auto_1):XM X (Qb K):=hK▸Gp hu
def eN (hK:autoParam (X.K=K) L2.Ϩ._auto_1):ZH X (Yp K):=hK▸Gq
def uz (hu:X.A.units+1 < cLine)(hK:autoParam (X.K=K) L2.Ϩ._auto_1):J3 X (compareOp .In) (ZP K):=hK▸Gs hu
def AM (hu:X.A.units+1 < cLine)(hK:autoParam (X.K=K) L2.Ϩ._auto_1):J3 X (compareOp .NotIn) (aeo K):=hK▸AK hu
def gZ (hK:autoParam (X.K=K) L2.Ϩ._auto_1):MtR X "str.join" (rJoin K):=hK▸Ex
def aU (hl:PE X l tl)(hK:autoParam (X.K=K) L2.Ϩ._auto_1):PI X tg l (Yq K tl):=hK▸Gu hl
def av (he:PE X e ta)(hb:attributeBase e f X.env (eval e X.env)=eval e X.env)(hK:autoParam (X.K=K) L2.Ϩ._auto_1):PE X (.Attribute e f pos) (ad1 K ta f):=hK▸FY he hb
def aM (ha:PE X a ta)(he:∀whole,isTrue a X.env whole=(do let v <-whole;standAt a.pos;holding [v] (truthy v)))(hK:autoParam (X.K=K) L2.Ϩ._auto_1) :
  PT X a (abQ K ta):=hK▸CJ ha he
def bf {id:String}{r:V->List V->Hp->VK->Prop}(pa:ay4 T)(slot:Slot T name id)(hty:typeOf (.builtin id)=pure (.type "method_descriptor"))(hm:MtR X id r)(ho:PE X o to)(ha:PA X (e::es) t)
  (U7:autoParam (attributeBase o name X.env (eval o X.env)=eval o X.env) L2.Ϩ._auto_1)
  (Yj:autoParam (((backTo JS (starEach (e::es) X.env)).all (λx=>!x.1) && (backToKw JS (keywordEach [] X.env)).all (λx=>x.1.isSome)
   && decide ((e::es).length+([]:List MO).length+(if ([]:List MO).isEmpty then 0 else 1) < 30))=true) L2.Ϩ._auto_1)
  (U8:autoParam ((apos.endLine == JS.line)=true) L2.Ϩ._auto_1) (hs:autoParam (starEach (e::es) X.env=(false,eval e X.env)::starEach es X.env) L2.Ϩ._auto_1) (O8:autoParam ((backTo JS (starEach es X.env)).any (·.1)=false) L2.Ϩ._auto_1) (hK:autoParam (X.K=K) L2.Ϩ._auto_1) :
  PE X (.Call (.Attribute o name apos) (e::es) [] JS) (tBM K T r to t):=hK▸Hs pa slot hty hm ho ha U7 Yj U8 hs O8
def iE {k:Nat}{t:TGs}(hc:X.calm=true)(h:PGs X es t)
  (hn:autoParam ((assignEach es X.env).length=n) L2.Ϩ._auto_1) (Nk:autoParam ((assignEach es X.env).findIdx? (·.1)=none) L2.Ϩ._auto_1) (hK:autoParam (X.K=K) L2.Ϩ._auto_1):PG X (.Tuple es k pos) (adO K n t):=hK▸FQ hc h hn Nk
end
section
variable {X:Cx}
abbrev ail (neg:Bool)(ta:TE)(tr:TA):TE:=λσ H Q=>ta σ H λx H1=>tr σ H1 λvs H2=>∃i a b:Int,x=.int i/\vs=[.int a,.int b]/\Q (.bl (if neg then !(decide (a<=i) && decide (i < b)) else(decide (a<=i) && decide (i < b)))) H2
abbrev agd (neg:Bool)(ta:TE)(tr:TA):TE:=λσ H Q=>ta σ H λx H1=>tr σ H1 λvs H2=>∃i b:Int,x=.int i/\vs=[.int b]/\Q (.bl (if neg then !(decide (0<=i) && decide (i < b)) else(decide (0<=i) && decide (i < b)))) H2
def vQ {bs:List Bool}:∀{us:List Η},Vals (bs.map V.bl) us->LSm.BoolsAre us bs:=by
 induction bs with
 | nil=>intro us r;cases r;exact .nil
 | cons a r ih=>
  intro us h;cases h with
  | cons h1 h2=>
   cases (show _=JM a from h1);exact .cons _ (ih h2)
abbrev ZQ (K:Ξ):List V->Hp->VK->Prop:=λxs H Q=>∃(p:Ε) (bs:List Bool),xs=[.ref p]/\GT K H p (bs.map V.bl)/\Q (.bl (bs.all id)) H
def x3 {h h':ϟ}{o:Obj}(hk:∀b x,b∉[h.objs.size]->(h.push o).get? b=some x->h'.get? b=some x):∀b x,h.get? b=some x->h'.get? b=some x:=
 λb x e=>hk b x (λhm=>by rw[Μ.mp hm] at e;exact JD _ (γ e)) (Δ _ e)
def AN (hc:X.calm=true):IP X (.builtin "all") (ZQ X.K):=by
 intro pins s σ H xs us Q I r h;(revert h;refine IY λp bs Τ hq q=>?_;subst Τ);(refine ρ (vals1 r) λu Τ ru=>?_;subst Τ);cases ru;(refine ϭ (I.list hq) λits rv pl hz=>?_);have hb:=vQ rv;have hl:=pl.isList;have KI:p < s.heap.objs.size:=by (revert hl;refine Ϟ λ_ e _=>?_);exact γ e
 refine call_all_walk (Fk hl ?_)
 refine(Nf s.heap.objs.size ([s.heap.objs.size,p]) ([s.heap.objs.size]) its.toArray.size _ _ (RI (λi=>(bs[i]?).getD true) rfl (acO (A:=X.A.in1) (I.ok.hd hc) _ p (ϐ KI) its.toArray) 
  ⟨(ύ _ (θ _ rfl) rfl rfl),hl.push _⟩ (λi v s' Q' E' hP hQ=>?_) (λh' tk hk=>?_)))
 ·(refine ρ (hb.get i v (by simpa using hP)) λb e Τ=>?_;subst Τ)
  simp only[e,W1] at hQ;exact wS hQ
 ·have e:((io its.toArray.size).all λi=>(bs[i]?).getD true)=bs.all id:=by
   rw[ϋ,hb.length];exact LSm.range_all bs
  rw[e];exact(ϒ (.bl _) H (I.kept (x3 hk)) rfl q)
abbrev aep (K:Ξ):List V->Hp->VK->Prop:=λxs H Q=>∃(p:Ε) (ns:List Int),xs=[.ref p]/\GT K H p (ns.map V.int)/\Q (.int ns.sum) H
def AO (hc:X.calm=true):IP X (.builtin "sum") (aep X.K):=by
 intro pins s σ H xs us Q I r h;(revert h;refine IY λp ns Τ hq q=>?_;subst Τ);(refine ρ (vals1 r) λu Τ ru=>?_;subst Τ);cases ru;(refine ϭ (I.list hq) λits rv pl hz=>?_);have hi:=intsAre_of rv;obtain⟨xs,hx⟩:=hi.allInts.items;have Wj:s.heap.IsList p (intItems xs):=hx▸pl.isList;refine sum_intListG (I.ok.hd hc) Wj λh' tk t' hk=>?_;have e1:ns=xs.toList.map (·.1):=by
  rw[<-nums_intItems,<-hx];exact(show numsOf its.toArray.toList=ns from hi.numsOf).symm
 have e2:preSum (numAt xs) xs.size=ns.sum:=by
  rw[preSum_eq,ϩ (by simp),e1]
 rw[e2];exact(ϒ (.int _) H (I.kept hk) ⟨_,rfl⟩ q)
def dE {K:Ξ}(hc:autoParam (X.calm=true) L2.Ϩ._auto_1)(hK:autoParam (X.K=K) L2.Ϩ._auto_1):IP X (.builtin "all") (ZQ K):=hK▸AN hc
def AQ {K:Ξ}(hc:autoParam (X.calm=true) L2.Ϩ._auto_1)(hK:autoParam (X.K=K) L2.Ϩ._auto_1):IP X (.builtin "sum") (aep K):=hK▸AO hc
def k4 {K:Ξ}{p:Ε}{bs:List Bool}(h:GT K H p (bs.map V.bl))(q:Q (.bl (bs.all id)) H):ZQ K [.ref p] H Q:=(ϒ p bs rfl h q)
abbrev aim:List V->Hp->VK->Prop:=λxs H Q=>∃i j,xs=[.int i,.int j]/\Q (.int (max i j)) H
abbrev ain:List V->Hp->VK->Prop:=λxs H Q=>∃i j,xs=[.int i,.int j]/\Q (.int (min i j)) H
def AR (hc:X.calm=true):IP X (.builtin "max") aim:=by
 intro pins s σ H xs us Q I r h;(revert h;refine sK λi j Τ q=>?_;subst Τ);refine Aw hc pins s σ H _ us Q I r (gl i j rfl ?_);rw[show(if j > i then j else i)=max i j by split<;>omega];exact q
def AS (hc:X.calm=true):IP X (.builtin "min") ain:=by
 intro pins s σ H xs us Q I r h;(revert h;refine sK λi j Τ q=>?_;subst Τ);refine Ax hc pins s σ H _ us Q I r (gl i j rfl ?_);rw[show(if j < i then j else i)=min i j by split<;>omega];exact q
abbrev ϝ (i:Int):List Nat:=(toString i:Str).cps.toList
abbrev Ys:List V->Hp->VK->Prop:=λxs H Q=>∃i,xs=[.int i]/\i.natAbs.log2 < 1920/\Q (.str (S (ϝ i))) H
def a8 {K:Ξ}:IP X (.type "str") Ys:=by
 intro pins s σ H xs us Q I r h;(revert h;refine G' λi Τ hz q=>?_;subst Τ);refine ue pins s σ H _ us Q I r (ύ i rfl hz ?_);have e:(toString i:Str)=S (ϝ i):=xY _;rw[e];exact q
end
structure Qc (K:Ξ)(x qual:Str)(st:ϙ)(f:Ε)(fd:Jr)(items:List Η):Prop where
 ex:∃(oc:Η) (od:Option Ε) (kV doc pm:Η) (an:Option Ε) (Ϲ ct:Η) (SR:Array (Option Η)) (tD:Ε) (o:Obj) (n:Nat),
  fd=JO x qual (IR st) (Da st) (Λ st) (.ref tD) kV doc pm an Ϲ ct/\K.lookup f=some ⟨oc,od,.func fd,SR⟩/\NK K Ϲ qual=true/\K.lookup tD=some o/\o.data=.seq items.toArray n
 kp:Jg K (.ref f)=true
section
variable {P:Ϗ} {K:Ξ} {base:ϟ}
def Qc.ok {st:ϙ}{items:List Η}{N ps:List Str}{k:Nat}(F:Qc K x qual st f fd items)(S:η N ps (Λ st))(len:∀vs H Q E,sp vs H Q E->vs.length=ps.length)
  (MX:∀(Ϲ:Η) (A:K') (outer:List Env) (s:Ι) (H:Hp) (vs:List V) (Q:VK) (E:XK),Jf k (A.deeper (envOfC qual (Λ st) s.heap.objs.size f Ϲ))->sp vs H Q E->
   ∃t,Rt (NW IL P w K mg base N qual (Λ st) f Ϲ A outer s H E).Kf (Da st) t/\t { nx:=λ_ H'=>Q .cr H',rt:=Q } (start N vs) H):Ϥ P w K mg base IL (k+1) f fd ps sp:=by
 (refine P8 F.ex λoc od kV doc pm an=>ME λϹ ct SR tD o n Τ=>JT λlk SU _=>?_;subst Τ);refine zD lk SU S len λA outer s H vs Q E hr Rb=>?_;(refine ρ (MX Ϲ A outer s H vs Q E hr Rb) λt h q=>?_);exact(Κ t h.Kf q)
def Qc.binds {st:ϙ}{items:List Η}{ps:List Str}(ds:List Η)(m:Nat)(hm:m+ds.length=ps.length)(F:Qc K x qual st f fd items)
  (h:∀(tD:Ε) (kV doc pm:Η) (an:Option Ε) (Ϲ ct:Η) (us:List Η),us.length=m->
   ∃kk,bindArgs (JO x qual (IR st) (Da st) (Λ st) (.ref tD) kV doc pm an Ϲ ct) ⟨us,[]⟩=seqItems? (.ref tD) >>= kk/\kk (some items.toArray)=pure (ps.zip (us++ds))):Binds K fd ps ds:=by
 (refine P8 F.ex λoc od kV doc pm an=>ME λϹ ct SR tD o n Τ=>Um λlk SU ho hs=>?_;subst Τ);intro s us X hl;rw[Ω] at hl;(refine ρ (h tD kV doc pm an Ϲ ct us (by omega)) λkk h1 h2=>?_);exact ay9 rfl (X _ _ ho) hs h1 h2
def j1 {st:ϙ}{kV:Η}{tD:Ε}{tc:Η}{td:Option Ε}{tn:Nat}{items:List Η}
  (l:K.lookup f=some ⟨oc,od,.func (JO x qual (IR st) (Da st) (Λ st) (.ref tD) kV doc pm an Ϲ ct),SR⟩)
  (c:NK K Ϲ qual=true) (k:Jg K (.ref f)=true) (dl:K.lookup tD=some ⟨tc,td,.seq items.toArray tn,tsl⟩):Qc K x qual st f (JO x qual (IR st) (Da st) (Λ st) (.ref tD) kV doc pm an Ϲ ct) items:=
 ⟨(Nf oc od kV doc pm an (Nf Ϲ ct SR tD _ tn ⟨rfl,l,c,dl,rfl⟩)),k⟩
end
structure ϳ (A:List Ε)(H H':Hp):Prop where
 keep:∀b o,H b=some o->b∉A->H' b=some o
 tup:∀b xs,H b=some (.tup xs)->H' b=some (.tup xs)
def ϳ.refl {A:List Ε}(H:Hp):ϳ A H H:=⟨λ_ _ h _=>h,λ_ _ h=>h⟩
def ϳ.of_same {A:List Ε}(s:Χ H H'):ϳ A H H':=⟨λb o h _=>s b o h,λb xs h=>s b _ h⟩
def ϳ.trans {A:List Ε}(x:ϳ A H H1)(y:ϳ A H1 H2):ϳ A H H2:=⟨λb o h n=>y.keep b o (x.keep b o h n) n,λb xs h=>y.tup b xs (x.tup b xs h)⟩
def ϳ.mono {A B:List Ε}(x:ϳ A H H')(h:∀b,b∈A->b∈B):ϳ B H H':=⟨λb o e n=>x.keep b o e λz=>n (h b z),x.tup⟩
def ϳ.upd {A:List Ε}{o:HO}(ha:a∈A)(hm:∀xs,H a≠some (.tup xs)):ϳ A H (L2.upd H a o):=by
 refine⟨λb u e n=>?_,λb xs e=>?_⟩
 ·have hb:b≠a:=λz=>by subst z;exact n ha
  rw[aj hb];exact e
 ·have hb:b≠a:=λz=>by subst z;exact hm xs e
  rw[aj hb];exact e
def ϳ.new {A:List Ε}{o:HO}(ha:H a=none):ϳ A H (L2.upd H a o):=.of_same (Χ.upd ha)
def iF (h:H a=some (.dK ϔ)):∀xs,H a≠some (.tup xs):=λxs z=>by rw[h] at z;cases z
def uA {ϔ:List V}(h:H a=some (.lst ϔ)):∀xs,H a≠some (.tup xs):=λxs z=>by rw[h] at z;cases z
def bZ {fs:List (Str×V)}(h:H a=some (.ins C dx fs)):∀xs,H a≠some (.tup xs):=λxs z=>by rw[h] at z;cases z
def lW {K:Ξ}(hl:GT K H a xs)(hn:xs.length<=sizeLine)(p:V->Bool)(f:V->V)
  (ht:∀x H',x∈xs->Χ H H'->∀Qt:Bool->Hp->Prop,(∀Kj,Χ H' Kj->Qt (p x) Kj)->tt (some x::σ) H' Qt)
  (he:∀x H',x∈xs->p x=true->Χ H H'->∀Qe:VK,(∀Kj,Χ H' Kj->Qe (f x) Kj)->te (some x::σ) H' Qe)
  (hd:∀D H',H D=none->Χ H H'->H' D=some (.lst ((xs.filter p).map f))->Q (.ref D) H'):NX (U3 K a) tt te σ H Q:=λD hD=>
 jX (J:=U3 K a) xs.length hn hD (λi=>xs.getD i .cr) (λi=>f (xs.getD i .cr)) (λi=>p (xs.getD i .cr)) (λH' s=>(Κ xs (s.seq hl) (Φ _)))
  (λi H' s h=>(gl xs (xs[i]) (s.seq hl) (by simp)))
  (λi H' x Kj s hi y=>by
   obtain⟨rfl,z⟩:=y;have hz:=z xs (s.seq hl);refine⟨rfl,?_⟩;rw[υ,hz]
   rfl)
  (λi H' h s Qt q=>ht _ H' (by rw[υ,ξ h];exact Jk h) s Qt q)
  (λi H' h hp s Qe q=>he _ H' (by rw[υ,ξ h];exact Jk h) hp s Qe q)
  (λH' s h=>hd D H' hD s (by
   rw[h];congr 2;have e:(io xs.length).map (λi=>xs.getD i .cr)=xs:=by
    refine KW (by simp) λi h1 h2=>?_;simp at h1 h2 ⊢;rw[ξ h2];rfl
   conv=>rhs;rw[<-e]
   rw[List.filter_map,χ]
   rfl))
def cR {K:Ξ}(hl:GT K H a xs)(hn:xs.length<=sizeLine)(f:V->V)
  (he:∀x H',x∈xs->Χ H H'->∀Qe:VK,(∀Kj,Χ H' Kj->Qe (f x) Kj)->te (some x::σ) H' Qe)
  (hd:∀D H',H D=none->Χ H H'->H' D=some (.lst (xs.map f))->Q (.ref D) H'):NX (U3 K a) ND te σ H Q:=
 lW hl hn (λ_=>true) f (λx H' _ s Qt q=>q H' (Χ.refl _)) (λx H' h _ s Qe q=>he x H' h s Qe q) (λD H' h s e=>hd D H' h s (by rw[cV] at e;exact e))
def Hy {l:List Ε}(h:l.Nodup)(ha:l[i]?=some a)(hb:l[j]?=some b)(hij:i≠j):a≠b:=by
 intro e;subst e;obtain⟨hi,ea⟩:=Ο.mp ha;obtain⟨hj,eb⟩:=Ο.mp hb;have hp:=J1.mp h;rcases PX hij with q | q
 ·exact hp i j hi hj q (ea.trans eb.symm)
 ·exact hp j i hj hi q (eb.trans ea.symm)
section
variable {X:Cx} {s:Ι} {h':ϟ}
def Inv.Mg {l:List Ε}(I:Inv X pins σ H s)(k:∀b o,b∉l->s.heap.get? b=some o->h'.get? b=some o)(hf:∀b∈l,K1 X pins H b):Inv X pins σ H { s with heap:=h',toks:=t' }:=by
 have nit:∀b u,H b=some u->b∉l:=λb u e z=>by rw[(hf b z).1] at e;cases e
 refine I.step (g':=s.gens) (d':=s.drawn) (ch:=l) (λb hb=>?_) (λb o _ _ hc e _=>k b o hc e) (λb o _ _ hc e _=>⟨o.slots,k b o hc e⟩) (λ_ _ _ _ n=>n)
  (λb o hc e=>⟨o,k b o hc e⟩) (λ_ _ e=>e) (λ_ _ _ e=>e) (λb ps e=>⟨#[],by rw[e];simp⟩) (λm hm=>?_) (λb u e=>?_) I.bare
 ·(refine Q9 (hf b hb) λf0 f1 f2 f3 f4 f5=>?_)
  exact⟨f3,f1,f4,f5⟩
 ·(revert hm;refine Ka λo es ep ho r=>?_)
  exact(RH o es ep (k _ o (λz=>(hf _ z).2.1 rfl) ho) r)
 ·refine(I.At b u e).Ng (λc v hc q=>k c v ?_ q) (λ_ q=>q) λ_ _ q=>q
  rcases hc with z | z
  ·rw[z];exact nit b u e
  ·exact nit c _ z
def Inv.WJ {T:Ε}{o:HO}(I:Inv X pins σ H s)(f:K1 X pins H T)(new:EQ X.prog X.w (upd H T o) s.heap T o)(ht:∀xs,o=.tup xs->True):Inv X pins σ (upd H T o) { s with toks:=t' }:=by
 (revert f;refine P6 λf0 f1 f2 f3 f4 f5=>?_);refine I.step (h':=s.heap) (g':=s.gens) (d':=s.drawn) (ch:=[T]) (λb hb=>?_) (λb ob _ _ hc e _=>e) (λb ob _ _ hc e _=>⟨ob.slots,e⟩) (λb ob hc e n=>?_)
  (λb ob hc e=>⟨ob,e⟩) (λb xs e=>?_) (λb ob u e=>?_) (λb ps e=>⟨#[],?_⟩) (λm hm=>hm) (λb u e=>?_) I.bare
 ·have e:b=T:=by simpa using hb
  subst e;exact⟨f3,f1,f4,f5⟩
 ·rw[aj (λz=>hc (by simp[z]))];exact n
 ·rw[aj (aD e f0)];exact e
 ·rw[aj (aD e f0)];exact e
 ·rw[aj (aD e f0),e];simp
 ·by_cases hb:b=T
  ·subst hb
   rw[ae] at e;cases e;exact new
  ·rw[aj hb] at e
   refine(I.At b u e).Ng (λc v _ q=>q) (λc q=>?_) λc xs q=>?_
   ·rw[aj (aD q f0)];exact q
   ·rw[aj (aD q f0)];exact q
end
abbrev Itz (K:Ξ)(a b:Ε):It:=
 ⟨λi H=>∃xs ys x y,GT K H a xs/\GT K H b ys/\xs[i]?=some x/\ys[i]?=some y,
  λi H v H'=>∃T x y,v=.ref T/\H T=none/\H'=upd H T (.tup [x,y])/\(∀xs,GT K H a xs->xs[i]?=some x)/\∀ys,GT K H b ys->ys[i]?=some y,
  λi H=>∃xs ys,GT K H a xs/\GT K H b ys/\(xs.length<=i\/ys.length<=i)⟩
section
variable {X:Cx}
abbrev au8 (K:Ξ)(ta:TA):TI:=λσ H R=>ta σ H λvs H1=>∃a b xs ys,vs=[.ref a,.ref b]/\GT K H1 a xs/\GT K H1 b ys/\R (Itz K a b) H1
end
abbrev Ite (K:Ξ)(a:Ε):It:=
 ⟨λi H=>∃xs x,GT K H a xs/\xs[i]?=some x,
  λi H v H'=>∃T x,v=.ref T/\H T=none/\H'=upd H T (.tup [.int (i:Nat),x])/\∀xs,GT K H a xs->xs[i]?=some x,
  λi H=>∃xs,GT K H a xs/\xs.length<=i⟩
def AU {P:Ϗ}{K:Ξ}(a e it:Ε)(hei:e≠it) :
  Turn P w K (.Tuple elts k0 pos) (Ite K a) [e,it] e (λi h=>(∃old,XA h e it ((i:Nat):Int) old)/\h.IsListIter it a i) where
 mem:=by simp
 obj:=λi h st c hc=>by
  obtain⟨⟨old,he⟩,⟨o1,e1,c1,d1⟩⟩:=st;simp only[Θ,Ρ,ϛ] at hc;rcases hc with rfl | rfl
  ·exact(Κ _ he (λv q=>by cases q))
  ·exact(Κ _ e1 (λv q=>by rw[d1] at q;cases q))
 keep:=λi h h' st k=>by
  obtain⟨⟨old,he⟩,h1⟩:=st;exact⟨⟨old,k _ (by simp) _ he⟩,h1.at λo e=>k _ (by simp) o e⟩
 item:=by
  intro X hP hw hK hc i pins s σ H E I hf st hg;subst hP hw hK;obtain⟨⟨old,he⟩,h1⟩:=st;(revert hg;refine sK λxs x hx ex=>?_);(refine ϭ (I.list hx) λits rv p _=>?_);(refine ρ (rv.get ex) λu hu ru=>?_);refine wpAny_pyNext_enum_item he h1 p.isList (x:=u) (by simpa using hu) hei λh' a1 a2 a3 a4 hk=>?_;refine(Κ _ rfl (VT a1 λWk abR sb=>?_));have fT:K1 X pins H s.heap.objs.size:=I.P' (Φ _) I.fresh;have I1:Inv X pins σ H { s with heap:=Wk,toks:=s.toks+1 }:=I.Mg (t':=s.toks+1) (l:=[e,it]) (λc o hc q=>sb.extBut _ _ (λz=>hc (by simp[z])) (hk c o (λz=>hc (by simp[z])) (λz=>hc (by simp[z])) q)) hf;have hTe:s.heap.objs.size≠e:=xL (γ he);have Wl:Wk.get? s.heap.objs.size=some { cls:=.type "tuple",data:=.seq #[.int i s.toks,u] }:=sb.extBut _ _ hTe a3;have I2:Inv X pins σ (upd H s.heap.objs.size (.tup [.int (i:Nat),x])) { s with heap:=Wk,toks:=s.toks+1 }:=I1.WJ (t':=s.toks+1) fT ⟨(by show 2<=sizeLine;decide),(Κ ([.int i s.toks,u]) (.cons ⟨_,rfl⟩ (.cons ru .nil)) (ύ _ Wl rfl (MF _ rfl)))⟩ (λ_ _=>trivial);refine(Kz (.ref s.heap.objs.size) _ I2 rfl (Ky _ x rfl I.fresh rfl (λzs hq=>by rw[I.jl hq hx];exact ex)) ?_ (λc hc=>?_))
  ·exact⟨⟨u,by rw[show(((i+1:Nat)):Int)=(i:Int)+1 by omega];exact abR⟩,a2.extBut sb.extBut (ω hei)⟩
  ·have Qy:c < s.heap.objs.size:=by
    (revert h1;refine Ϟ λo1 e1 _=>?_);simp only[Θ,Ρ,ϛ] at hc;rcases hc with rfl | rfl
    ·exact γ he
    ·exact γ e1
   rw[aj (ϐ Qy)];exact(hf c hc).1
 done:=by
  intro X hP hw hK hc i pins s σ H E I hf st hg;subst hP hw hK;obtain⟨⟨old,he⟩,h1⟩:=st;(revert hg;refine Ϟ λxs hx ZR=>?_);(refine ϭ (I.list hx) λits rv p _=>?_);have l1:=rv.length;refine wpAny_pyNext_enum_end (I.ok.hd hc) he h1 p.isList (by simp;omega) λh' hk=>⟨rfl,?_⟩
  exact I.Mg (t':=s.toks) (l:=[e,it]) (λc o hc q=>hk c o (λz=>hc (by simp[z])) q) hf
 self:=λ_ _ _ _ _ st h=>by
  obtain⟨⟨old,he⟩,_⟩:=st;exact NA he h
section
variable {X:Cx}
abbrev aaK (K:Ξ)(ta:TA):TI:=λσ H R=>ta σ H λvs H1=>∃a xs,vs=[.ref a]/\GT K H1 a xs/\R (Ite K a) H1
def Di {a:bv}{ta:TA}(hg:Gl X "enumerate")(hm:X.mg "enumerate"=none)(ha:PA X [a] ta)(hs:autoParam (starEach [a] X.env=[(false,eval a X.env)]) L2.Ϩ._auto_1) :
  PI X (.Tuple elts k0 X1) (.Call (.Name "enumerate" p) [a] [] pos) (aaK X.K ta):=by
 intro pins s σ H R I h;refine WZ (cZ I hg hm afU (ϯ (Ow (ha pos pins s σ H _ I h) λus s1 vs H1 I1 r1 q1=>?_) hs rfl));(revert q1;refine IY λl1 xs Τ hx q=>?_;subst Τ);(refine ρ (vals1 r1) λu Τ ru=>?_;subst Τ);cases ru;(refine ϭ (I1.list hx) λits rx px _=>?_);refine call_enumerate_list px.isList λh' z1 z2 z3 hk=>?_;have I2:Inv X pins σ H1 { s1 with heap:=h' }:=I1.kept (t':=s1.toks) hk;refine NA z1 (Ov _ _ _ _ H1 rfl I2 (AU l1 _ _ (xL (GM _))) ⟨⟨_,z1⟩,z2⟩ (λc hc=>?_) q);have Qy:s1.heap.objs.size<=c:=by
  simp only[Θ,Ρ,ϛ] at hc;rcases hc with rfl | rfl<;>omega
 exact I1.P' Qy (I1.At.fresh Qy)
def uB {K:Ξ}{a:bv}{ta:TA}(hg:Gl X "enumerate")(hm:X.mg "enumerate"=none)(ha:PA X [a] ta)(hs:autoParam (starEach [a] X.env=[(false,eval a X.env)]) L2.Ϩ._auto_1)
  (hK:autoParam (X.K=K) L2.Ϩ._auto_1):PI X (.Tuple elts k0 X1) (.Call (.Name "enumerate" p) [a] [] pos) (aaK K ta):=hK▸Di hg hm ha hs
end
def AV {K:Ξ}{D:Ends}(Pv:Nat->St->Hp->Prop)(h0:Pv 0 σ H)(hl:∀i σ H,i<=xs.length->Pv i σ H->GT K H a xs)
  (hs:∀i x T σ H,xs[i]?=some x->H T=none->Pv i σ H->g (.ref T) σ (upd H T (.tup [.int (i:Nat),x])) λσ2 H2=>tb { D with nx:=Pv (i+1),ct:=Pv (i+1),bk:=D.nx } σ2 H2)
  (hd:∀σ H,Pv xs.length σ H->D.nx σ H):Ut (Ite K a) g tb D σ H:=by
 refine(Κ (λi m σ H=>m=xs.length - i/\i<=xs.length/\Pv i σ H) (ύ _ rfl (Ϛ _) h0) ?_)
 rintro i m σ H ⟨rfl,hi,p⟩
 have lx:=hl i σ H hi p
 by_cases KI:i < xs.length
 ·refine .inr ⟨(gl xs (xs[i]) lx (by simp)),(Κ (Pv (i+1)) (λσ' H' p'=>(Jw (xs.length - (i+1)) (by omega) rfl KI p')) (λv H' y=>?_))⟩
  (revert y;refine NB λT x Τ hT IK h1=>?_;subst Τ;subst IK);exact hs i x T σ _ (h1 xs lx) hT p
 ·have e:i=xs.length:=by omega
  subst e;exact .inl ⟨(Κ xs lx (by omega)),hd σ H p⟩
abbrev JG (c k:Int):Int:=((c % 2147483647 * 48271+7919 * k+1) % 2147483647) * ((c % 2147483647 * 48271+7919 * k+1) % 2147483647) % 2147483647
def zJ (c k:Int):0<=JG c k/\JG c k < 2147483647:=by unfold JG;omega
abbrev Dj:Sp:=λvs H Q _=>∃c k,vs=[.int c,.int k]/\Q (.int (JG c k)) H
abbrev x4 (K:Ξ):Sp:=λvs H Q _=>∃(p:Ε) (ns:List Int) (k:Int),vs=[.ref p,.int k]/\GT K H p (ns.map V.int)/\0<=k/\Q (.int (ns.getD k.toNat 0)) H
abbrev T62:List Nat:=[48,49,50,51,52,53,54,55,56,57,97,98,99,100,101,102,103,104,105,106,107,108,109,110,111,112,113,114,115,116,117,118,119,120,121,122,65,66,67,68,69,70,71,72,73,74,75,76,77,78,79,80,81,82,83,84,85,86,87,88,89,90]
abbrev T34:List Nat:=[32,33,34,35,36,38,39,40,41,42,43,44,45,46,47,58,59,60,61,62,63,64,91,92,93,94,95,96,123,124,125,126,10,9]
abbrev T96:List Nat:=T62++T34
abbrev sgn (n m:Int):Nat:=T96.getD (n % m).toNat 0
abbrev Ia:Sp:=λvs H Q _=>∃n m:Int,vs=[.int n,.int m]/\0 < m/\m<=96/\Q (.str (S [sgn n m])) H
abbrev JI (c:Nat):Bool:=decide (32<=c) && decide (c<=126) && decide (c≠37)
abbrev x5 (K:Ξ):Sp:=λvs H Q _=>∃(p:Ε) (ns:List Int),vs=[.ref p]/\GT K H p (ns.map V.int)/\ns.length<=63/\∀H',Q (.bl true) H'
def aeq (a b:Nat):([a] < [b])↔a < b:=by
 rw[List.cons_lt_cons_iff];simp
def g9 {l:List Nat}(hn:l.length<=sizeLine)(f:Nat->V)
  (he:∀c H',c∈l->Χ H H'->∀Qe:VK,(∀Kj,Χ H' Kj->Qe (f c) Kj)->te (some (.str (S [c]))::σ) H' Qe)
  (hd:∀D H',H D=none->Χ H H'->H' D=some (.lst (l.map f))->Q (.ref D) H'):NX (Zf (S l)) ND te σ H Q:=λD hD=>
 jX (J:=Zf (S l)) l.length hn hD (λi=>.str (S [l.getD i 0])) (λi=>f (l.getD i 0)) (λ_=>true) (λ_ _=>by show(S l).cps.size<=l.length;simp) (λi _ _ h=>by show i < (S l).cps.size;simpa using h)
  (λi H' x Kj _ hi y=>by
   (revert y;refine Jb λΤ=>Ϟ λc hc IK=>?_;subst Τ;subst IK);have SS:l[i]?=some c:=by simpa using hc
   refine⟨rfl,?_⟩;rw[υ,SS]
   rfl)
  (λi H' _ _ Qt q=>q H' (Χ.refl _))
  (λi H' h _ s Qe q=>he _ H' (by rw[υ,ξ h];exact Jk h) s Qe q)
  (λH' s h=>hd D H' hD s (by
   rw[cV] at h;rw[h];congr 2;refine KW (by simp) λi h1 h2=>?_;simp at h1 h2 ⊢;rw[ξ h2]
   rfl))
abbrev RP (l:List Nat):Prop:=∀c∈l,c < 1114112
def zK {a b:List Nat}(ha:RP a)(hb:RP b):RP (a++b):=λc hc=>(ϑ.mp hc).elim (ha c) (hb c)
def a9 {i:Int}(h0:-(2 ^ 64) < i)(h1:i < 2 ^ 64):i.natAbs.log2 < 1920:=by
 by_cases hz:i.natAbs=0
 ·rw[hz];decide
 ·exact ϓ ((Nat.log2_lt hz).mpr (show i.natAbs < 2 ^ 64 by omega)) (by decide)
def uC (z:String):RP (Α z).cps.toList:=by
 intro c hc;rw[Str.ofString_eq_toList] at hc;have SS:c∈z.toList.map adr:=by simpa using hc
 (refine ρ (τ.mp SS) λch _ Τ=>?_;subst Τ);have h:=ch.valid;show ch.val.toNat < 1114112;rcases h with h | h
 ·have h':ch.val.toNat < 0xd800:=h
  omega
 ·exact h.2
def qk (i:Int):RP (ϝ i):=uC _
abbrev wd (n:Nat)(d:Lb):Prop:=d.canLay0=true/\d.depth<=n
def Dk (n:Nat){l:List Nat}(h:RP l):wd n (.str (S l)):=by
 refine⟨?_,Ϛ _⟩;show(S l).cps.all (· < 0x110000)=true;simp;exact h
def x6 {n:Nat}:∀{ds:List Lb},(∀d∈ds,wd n d)->Wy ds=true/\XC ds<=n
 | [],_=>⟨rfl,Ϛ _⟩
 | d::r,h=>by
  obtain⟨h1,h2⟩:=h d zn;obtain⟨h3,h4⟩:=x6 (n:=n) (ds:=r) λx hx=>h x (ε _ hx);refine⟨?_,?_⟩
  ·rw[Wy,h1,h3];rfl
  ·rw[XC];exact Nat.max_le.mpr ⟨h2,h4⟩
def uD {ds:List Lb}(h:∀d∈ds,wd n d):wd (n+1) (.list ds):=by
 obtain⟨h1,h2⟩:=x6 h;exact⟨by rw[XT];exact h1,by rw[Zt];omega⟩
def Dl {ds:List Lb}(h:∀d∈ds,wd n d):wd (n+1) (.tuple ds):=by
 obtain⟨h1,h2⟩:=x6 h;exact⟨by rw[XT];exact h1,by rw[Zt];omega⟩
def wd.shaped {d:Lb}(h:wd n d)(hn:autoParam (n<=64) L2.Kh._auto_1):Lx d=true:=by
 unfold Lx;rw[h.1,j' (ζ h.2 hn)];rfl
abbrev Scr (K:Ξ)(H:Hp)(A:List Ε)(p:Ε)(xs:List V):Prop:=(GT K H p xs/\p∉A)\/∀H',GT K H' p xs
def Scr.sq {K:Ξ}{A:List Ε}{p:Ε}(h:Scr K H A p xs):GT K H p xs:=h.elim (·.1) (· H)
def Scr.Ji {K:Ξ}{A:List Ε}{p:Ε}(h:Scr K H A p xs)(c:ϳ A H H'):Scr K H' A p xs:=by
 rcases h with⟨h,hp⟩ | h
 ·refine .inl ⟨?_,hp⟩
  rcases h with(h | ⟨o,h⟩) | h
  ·exact .inl (.inl (c.keep _ _ h hp))
  ·exact .inl (.inr ⟨o,c.keep _ _ h hp⟩)
  ·exact .inr h
 ·exact .inr h
def Scr.of {K:Ξ}{A:List Ε}{p:Ε}(h:GT K H p xs)(f:∀b∈A,H b=none):Scr K H A p xs:=by
 rcases h with(h' | ⟨o,h'⟩) | h'
 ·exact .inl ⟨.inl (.inl h'),λz=>by rw[f p z] at h';cases h'⟩
 ·exact .inl ⟨.inl (.inr ⟨o,h'⟩),λz=>by rw[f p z] at h';cases h'⟩
 ·exact .inr λ_=>.inr h'
abbrev Ip (H:Hp):List Ε->List (List V)->Prop:=Paired λt xs=>H t=some (.tup xs)
abbrev Jd (H:Hp)(D:Ε)(rows:List (List V)):Prop:=∃ts,H D=some (.lst (ts.map V.ref))/\Ip H ts rows
def Ip.Ji {A:List Ε}(h:Ip H ts rows)(c:ϳ A H H'):Ip H' ts rows:=Paired.S7 h λ_ _ e=>c.tup _ _ e
def Jd.Ji {A:List Ε}{D:Ε}(h:Jd H D rows)(c:ϳ A H H')(hD:D∉A):Jd H' D rows:=by
 (revert h;refine Ϟ λts e t=>?_);exact(Κ ts (c.keep _ _ e hD) (t.Ji c))
def Jd.same {D:Ε}(h:Jd H D rows)(s:Χ H H'):Jd H' D rows:=h.Ji (A:=[]) (ϳ.of_same s) (by simp)
def Ip.get (h:Ip H ts rows):∀{i:Nat} {t:Ε},ts[i]?=some t->∃xs,rows[i]?=some xs/\H t=some (.tup xs):=by
 unfold Ip at h
 induction h with
 | nil=>intro i t e;simp at e
 | @cons a b as bs e r ih=>
  intro i t q;cases i with
  | zero=>simp at q;subst q;exact(Κ b rfl e)
  | succ i=>simpa using ih (by simpa using q)
def Ip.length (h:Ip H ts rows):ts.length=rows.length:=Paired.length h
def Ip.snoc {t:Ε}(h:Ip H ts rows)(e:H t=some (.tup xs)):Ip H (ts++[t]) (rows++[xs]):=by
 unfold Ip at h ⊢
 induction h with
 | nil=>exact .cons e .nil
 | cons e' r ih=>exact .cons e' ih
noncomputable abbrev Yt:=List Nat×Option (List Nat)×Int
abbrev wV:Option (List Nat)->V
 | none=>.cr
 | some l=>.str (S l)
abbrev Ta (x:Yt):List V:=[.str (S x.1),wV x.2.1,.int x.2.2]
set_option genInjectivity false in
structure Iz where
 first:Int
 last:Int
 drawn:Int
 L:Int->Option Yt
abbrev NE:Iz:=⟨0,0,0,λ_=>none⟩
abbrev Ve (M:Iz)(d:Ε):List (Str×V):=[("first",.int M.first),("end",.int M.last),("drawn",.int M.drawn),("letters",.ref d)]
abbrev RQ (H:Hp):Option Yt->V->Prop
 | none,v=>v=.cr
 | some x,v=>∃t,v=.ref t/\H t=some (.tup (Ta x))
abbrev NY (H:Hp)(ϔ:List (Key×V))(L:Int->Option Yt):Prop:=∀p:Int,RQ H (L p) ((Io ϔ (.inl p)).getD .cr)/\((Io ϔ (.inl p)).isSome=(L p).isSome)
def RQ.Ji {A:List Ε}{o:Option Yt}{v:V}(c:ϳ A H H')(h:RQ H o v):RQ H' o v:=by
 cases o with
 | none=>exact h
 | some x=>(revert h;refine Ϟ λt e ht=>?_);exact(Κ t e (c.tup _ _ ht))
def NY.Ji {A:List Ε}{L:Int->Option Yt}(c:ϳ A H H')(h:NY H ϔ L):NY H' ϔ L:=λp=>⟨(h p).1.Ji c,(h p).2⟩
def NY.put {L:Int->Option Yt}(h:NY H ϔ L){p:Int}{x:Yt}{t:Ε}(ht:H t=aaq (.tup (Ta x))):NY H (putK ϔ (.inl p) (.ref t)) (λq=>if q=p then aaq x else L q):=by
 intro q;rw[fb]
 by_cases e:q=p
 ·subst e
  rw[δ rfl];dsimp only;rw[δ rfl];exact⟨(Κ t rfl ht),rfl⟩
 ·have e':¬(NG q:Key)=NG p:=λz=>e (Zr z)
  rw[Υ e'];dsimp only;rw[Υ e];exact h q
structure KD (C:Ε)(H:Hp)(r d:Ε)(M:Iz):Prop where
 obj:∃dx,H r=some (.ins C dx (Ve M d))
 dict:∃ϔ,H d=some (.dK ϔ)/\(ϔ.length:Int)<=M.last/\NY H ϔ M.L
 f0:0<=M.first
 fl:M.first<=M.last
 dr:0<=M.drawn
 within:∀p,(M.L p).isSome=true->M.first<=p/\p < M.last
def KD.Ji {A:List Ε}{M:Iz}(h:KD C H r d M)(c:ϳ A H H')(hr:r∉A)(hd:d∉A):KD C H' r d M:=by
 obtain⟨dx,e⟩:=h.obj;(refine ϭ h.dict λϔ e2 l t=>?_);exact⟨⟨dx,c.keep _ _ e hr⟩,(ύ ϔ (c.keep _ _ e2 hd) l (t.Ji c)),h.f0,h.fl,h.dr,h.within⟩
def KD.ne {M:Iz}(h:KD C H r d M):r≠d:=by
 obtain⟨dx,e⟩:=h.obj;(refine ρ h.dict λϔ e2 _=>?_);exact jj e e2 (by intro z;cases z)
abbrev Iz.add (M:Iz)(x:Yt):Iz:={ M with last:=M.last+1,L:=λq=>if q=M.last then some x else M.L q }
abbrev Iz.Iq (M:Iz)(lo:Int)(n:Nat):List Int:=((io n).map λ(i:Nat)=>lo+(i:Int)).filter λq=>(M.L q).isSome
def gJ (M:Iz)(lo:Int)(i:Nat):M.Iq lo (i+1)=M.Iq lo i++(if (M.L (lo+(i:Int))).isSome=true then[lo+(i:Int)] else[]):=by
 unfold Iz.Iq;rw[NM,ϖ,LV];congr 1;simp only[ο,Ja,XU,RD]
def uE (M:Iz)(lo:Int)(h:i<=n):∃more,M.Iq lo n=M.Iq lo i++more:=by
 obtain⟨k,rfl⟩:∃k,n=i+k:=⟨n - i,by omega⟩
 clear h
 induction k with
 | zero=>exact⟨[],by simp⟩
 | succ k ih=>
  obtain⟨m,hm⟩:=ih;rw[<-Nat.add_assoc,gJ,hm,Kv];exact⟨_,rfl⟩
def uF (M:Iz)(lo:Int)(n:Nat):(M.Iq lo n).length<=n:=by
 unfold Iz.Iq;exact ζ (NR _ _) (by simp)
abbrev Iz.Vf (M:Iz)(p:Int):List V:=match M.L p with
 | some x=>[.int p,.str (S x.1),wV x.2.1]
 | none=>[]
abbrev Iz.Qz (M:Iz)(start limit most:Int):List Int:=(M.Iq (max start M.first) (min limit M.last - max start M.first).toNat).take most.toNat
abbrev vR (C:Ε):Sp:=λvs H Q _=>∃(r d:Ε) (M:Iz) (st li mo:Int),vs=[.ref r,.int st,.int li,.int mo]/\KD C H r d M/\M.last<=100000/\0<=st/\st<=10 ^ 12/\0<=li/\0<=mo/\
 ∀D H',H D=none->Χ H H'->Jd H' D ((M.Qz st li mo).map M.Vf)->Q (.ref D) H'
abbrev vS (C:Ε):Sp:=λvs H Q _=>∃x dx,vs=[.ref x]/\H x=some (.ins C dx [])/\∀d H',H d=none->d≠x->ϳ [x] H H'->KD C H' x d NE->Q .cr H'
abbrev x8 (C:Ε):Sp:=λvs H Q _=>∃(r d:Ε) (M:Iz) (x:Yt),vs=[.ref r,.str (S x.1),wV x.2.1,.int x.2.2]/\KD C H r d M/\M.last<=100000/\∀H',ϳ [r,d] H H'->KD C H' r d (M.add x)->Q (.int M.last) H'
abbrev AW (C:Ε):Sp:=λvs H Q _=>∃(r d:Ε) (M:Iz) (p:Int),vs=[.ref r,.int p]/\KD C H r d M/\∀v,RQ H (M.L p) v->Q v H
def x9 (M:Iz)(d:Ε):(Ve M d).lookup (Α "first")=some (.int M.first):=rfl
def vT (M:Iz)(d:Ε):(Ve M d).lookup (Α "end")=some (.int M.last):=rfl
def lX (M:Iz)(d:Ε):(Ve M d).lookup (Α "letters")=some (.ref d):=rfl
def Dm (M:Iz)(d:Ε):(Ve M d).lookup (Α "add")=none:=rfl
def EI (M:Iz)(d:Ε):(Ve M d).lookup (Α "at")=none:=rfl
section
variable {X:Cx}
abbrev Qf (lo:Int)(n:Nat):List V:=(io n).map λ(i:Nat)=>V.int (lo+(i:Int))
abbrev avb (ta:TA):TE:=λσ H Q=>ta σ H λvs H1=>∃j:Int,vs=[.int j]/\-(2 ^ 62)<=j/\j<=sizeLine/\∀l,H1 l=none->Q (.ref l) (upd H1 l (.lst (Qf 0 j.toNat)))
abbrev air (ta:TA):TE:=λσ H Q=>ta σ H λvs H1=>∃i j:Int,vs=[.int i,.int j]/\(-(2 ^ 62)<=i/\i < 2 ^ 62/\-(2 ^ 62)<=j/\j < 2 ^ 62)/\j - i<=sizeLine/\∀l,H1 l=none->Q (.ref l) (upd H1 l (.lst (Qf i (j - i).toNat)))
def ya {lo:Int}{acc:Array Η}(h:ItemsOf (λi v=>∃t,v=.int (lo+i * 1) t) acc n):Vals (Qf lo n) acc.toList:=by
 obtain⟨hs,hv⟩:=h;have key:∀(k:Nat) (l:List Η),l.length=k->∀lo:Int,(∀(j:Nat) v,l[j]?=some v->∃t,v=Oq (lo+(j:Int) * 1) t)->Vals (Qf lo k) l:=by
  intro k
  induction k with
  | zero=>intro l hl lo _;cases l with
   | nil=>exact .nil
   | cons=>cases hl
  | succ k ih=>
   intro l hl lo hv;cases l with
   | nil=>cases hl
   | cons u us=>
    have e:Qf lo (k+1)=V.int lo::Qf (lo+1) k:=by
     unfold Qf;rw[List.range_succ_eq_map,ο,χ];congr 1
     ·simp
     ·refine im λa _=>?_
      simp only[On];congr 1
      push_cast
      omega
    rw[e];obtain⟨t,ht⟩:=hv 0 u rfl;refine .cons ⟨t,by rw[ht];simp⟩ (ih us (by simpa using hl) (lo+1) λj v hj=>?_);obtain⟨t',ht'⟩:=hv (j+1) v (by simpa using hj);exact⟨t',by rw[ht'];congr 1;push_cast;omega⟩
 exact key n acc.toList (by simpa using hs) lo λj v hj=>by simpa using hv j v (by simpa using hj)
def vU {s:Ι}{lo:Int}{t u v:Tok}(hc:X.calm=true)(I:Inv X pins σ H s)(h1:-(2 ^ 62)<=lo)(h2:lo < 2 ^ 62)(h3:-(2 ^ 62)<=hi)(h4:hi < 2 ^ 62)
  (hn:hi - lo<=sizeLine) (q:∀l,H l=none->Q (.ref l) (upd H l (.lst (Qf lo (hi - lo).toNat)))) :
  wpAny (model X.prog X.w) X.A (call (.type "list") [.ref s.heap.objs.size]) (EP X pins σ Q) E { s with heap:=s.heap.push { cls:=.type "range",data:=.fields #[.int lo t,.int hi u,.int 1 v] },toks:=tk }:=by
 have I1:Inv X pins σ H { s with heap:=s.heap.push { cls:=.type "range",data:=.fields #[.int lo t,.int hi u,.int 1 v] },toks:=tk }:=I.kept λb o e=>Δ _ e;have e2:ac lo hi 1=(((hi - lo).toNat:Nat):Int):=by rw[ag4];split<;>omega
 have hsl:sizeLine<=2 ^ 24:=by decide
 refine call_list_range (n:=(hi - lo).toNat) (I.ok.hd hc) (UK ..) (azY h1 h2 h3 h4) e2 (by omega) λh' tk' ait c' kp e aiu=>?_;have hv:=ya aiu;exact(ϒ (.ref _) _ (I1.laid (t':=tk') kp (Φ _) (show EQ X.prog X.w _ h' _ (.lst _) from⟨by rw[Qf];simp;omega,(gl ait.toList c' hv e)⟩)) rfl (q _ (I1.At.fresh (Φ _))))
def si {a b:bv}{ta:TA}{p':Pos}(hc:X.calm=true)(hg':Gl X "list")(hm':X.mg "list"=none)(hg:Gl X "range")(hm:X.mg "range"=none)(ha:PA X [a,b] ta)
  (hs:autoParam (starEach [a,b] X.env=[(false,eval a X.env),(false,eval b X.env)]) L2.Ϩ._auto_1) (U4:autoParam (starEach [b] X.env=[(false,eval b X.env)]) L2.Ϩ._auto_1)
  (he:autoParam (starEach [.Call (.Name "range" p) [a,b] [] pos] X.env=[(false,eval (.Call (.Name "range" p) [a,b] [] pos) X.env)]) L2.Ϩ._auto_1) :
  PE X (.Call (.Name "list" p') [.Call (.Name "range" p) [a,b] [] pos] [] pos') (air ta):=by
 intro pins s σ H Q I h;refine Ϸ (cZ I hg' hm' P2 ?_ (by decide) (by decide));refine ϯ ?_ he rfl;rw[he];show wpAny _ _ (spliced [(false,eval (.Call (.Name "range" p) [a,b] [] pos) X.env)]) _ _ s;refine ci (WZ (cZ I hg hm VO (ϯ (Ow (ha pos pins s σ H _ I h) λus s1 vs H1 I1 r1 q1=>?_) (by rw[hs,U4]) (by rw[U4];rfl))));(revert q1;refine NB λi j e Τ q5 q=>?_;obtain ⟨q1,q2,q3,q4⟩:=Τ);subst e;cases r1 with
 | cons r rr=>
  cases rr with
  | cons r' rr=>
   cases rr;obtain⟨t,rfl⟩:=r;obtain⟨t',rfl⟩:=r';exact ase (Ix (vU hc I1 q1 q2 q3 q4 q5 q))
end
abbrev Wm (l:List Str)(x:Str):List Str:=if l.any (· == x) then l else l++[x]
abbrev JW (l:List Str):List Str:=l.foldl Wm []
def fg (l:List Str)(x:Str):JW (l++[x])=Wm (JW l) x:=by simp[JW]
def AX:∀(n:Nat) (l:List Str),l.length=n->∀k,(JW l).any (· == k)=l.any (· == k):=by
 intro n
 induction n with
 | zero=>intro l hl k;cases l with
  | nil=>rfl
  | cons=>cases hl
 | succ n ih=>
  intro l hl k;obtain⟨m,x,rfl⟩:∃m x,l=m++[x]:=⟨l.dropLast,l.getLast (by intro z;rw[z] at hl;cases hl),(Lq _).symm⟩
  have hm:m.length=n:=by simpa using hl
  rw[fg,RE];unfold Wm
  split
  ·rename_i h
   rw[ih m hm] at h ⊢
   by_cases e:x=k
   ·subst e;rw[h];simp
   ·simp[e]
  ·rw[RE,ih m hm]
def lY:∀(n:Nat) (l:List Str),l.length=n->(JW l).length<=n:=by
 intro n
 induction n with
 | zero=>intro l hl;cases l with
  | nil=>exact Φ _
  | cons=>cases hl
 | succ n ih=>
  intro l hl;obtain⟨m,x,rfl⟩:∃m x,l=m++[x]:=⟨l.dropLast,l.getLast (by intro z;rw[z] at hl;cases hl),(Lq _).symm⟩
  have:=ih m (by simpa using hl);rw[fg];unfold Wm
  split
  ·omega
  ·rw[Ω,jp];omega
def vV:∀(n:Nat) (l:List Str),l.length=n->l.Nodup->(JW l).length=n:=by
 intro n
 induction n with
 | zero=>intro l hl;cases l with
  | nil=>intro _;rfl
  | cons=>cases hl
 | succ n ih=>
  intro l hl hd;obtain⟨m,x,rfl⟩:∃m x,l=m++[x]:=⟨l.dropLast,l.getLast (by intro z;rw[z] at hl;cases hl),(Lq _).symm⟩
  have hm:m.length=n:=by simpa using hl
  have hx:x∉m:=λz=>by
   have:=ϴ.mp hd;exact this.2.2 x z x (by simp) rfl
  rw[fg];unfold Wm;rw[Υ,Ω,ih m hm (ϴ.mp hd).1,jp];rw[AX n m hm];intro z;(refine ρ (XV.mp z) λy hy e=>?_);exact hx (by rw[<-eq_of_beq e];exact hy)
section
variable {s:Ι}
def vW {K:Type}[DecidableEq K][BEq K][LawfulBEq K]{knd:KeyKind prog w K}{h:ϟ}{S S':K->Bool}(hS:h.SetOf knd a S n)(e:∀k,S k=S' k)(en:n=n'):h.SetOf knd a S' n':=by
 rw[<-funext e,<-en];exact hS
def AY {I S:Ε}{wr:List Ε}{G:Array M6->Array M6->Prop}{ls:List Str}{P:Nat->Η->Prop}{St:Nat->Ι->Prop}(W:WalksS prog w A.in1 I fp wr G ls.length P St)(hSf:S∉fp)
  (aiv:∀i v,P i v->∃x t,ls[i]?=some x/\v=.str x t) (hb:ls.length+1 < scanBound) :
  ∀(k i:Nat) (s:Ι),ls.length - i=k->i<=ls.length->St i s->
   s.heap.SetOf (strKind prog w) S (λx=>(JW (ls.take i)).any (· == x)) (JW (ls.take i)).length->
   (∀s',Moved (S::wr) G s s'->s'.heap.SetOf (strKind prog w) S (λx=>(JW ls).any (· == x)) (JW ls).length->R (.ok (.ret .none)) s')->
   codeAny (model prog w) A (.builtin "set.update.loop" ⟨[.ref S,.ref I],[]⟩) R s:=by
 have hSw:S∉wr:=λh=>hSf (W.sub _ h);have Uu:∀b∈wr,b∈S::wr:=λb hb=>ε _ hb;have carry:∀{T:Str->Bool} {m:Nat} {s s':Ι},Moved wr G s s'->s.heap.SetOf (strKind prog w) S T m->s'.heap.SetOf (strKind prog w) S T m:=by
  rintro T m s s' hm ⟨o,es,ep,t,ho,rest⟩
  exact(LD o es ep (Κ t (hm.heap S _ hSw ho) rest))
 intro k
 induction k with
 | zero=>
  intro i s hk hi Nk hS hR;have hin:i=ls.length:=by omega
  refine Md MS ?_;rw[UY Ju _];show wpAny _ A.in1 (pyNext (.ref I) >>= _) _ _ s;rw[hin] at Nk hS;rw[sB] at hS;refine Β (W.done s _ _ Nk λs' hm=>?_);show wpAny _ A.in1 (ret be) _ _ s';exact ν (hR s' (hm.mono Uu) (carry hm hS))
 | succ k ih=>
  intro i s hk hi Nk hS hR;refine Md MS ?_;rw[UY Ju _];show wpAny _ A.in1 (pyNext (.ref I) >>= _) _ _ s;refine Β (W.item i s _ _ (by omega) Nk λv s' hP aiw hm=>?_);(refine RJ (aiv i v hP) λx t hx Τ=>?_;subst Τ);have hS':=carry hm hS;show wpAny _ A.in1 (holding [FS x t] (setAdd S (.str x t)) >>= _) _ _ s';refine Β (ID ?_);unfold setAdd;refine ID ?_;refine Β ((strKind prog w).pyHash (k:=x) (ay' _ _ _ _) ?_);have aes:(JW (ls.take i)).length+1 < scanBound:=by
   have:=lY _ (ls.take i) rfl;rw[Ϭ] at this;omega
  refine wpAny_setAddHashed_of (knd:=strKind prog w) (s:={ s' with toks:=s'.toks+1 }) (ay' _ _ _ _) rfl hS' aes λh' hsb hS2=>?_;have et:ls.take (i+1)=ls.take i++[x]:=by rw[Zu,hx];rfl
  have hSi:h'.SetOf (strKind prog w) S (λy=>(JW (ls.take (i+1))).any (· == y)) (JW (ls.take (i+1))).length:=by
   refine vW hS2 (λy=>?_) ?_
   ·rw[et,fg]
    unfold Wm
    by_cases h:(JW (ls.take i)).any (· == x)=true
    ·rw[δ h]
     by_cases e:y=x
     ·subst e;rw[h];rfl
     ·simp[e]
    ·rw[Υ h,RE]
     by_cases e:y=x
     ·subst e;simp
     ·have e':¬x=y:=λz=>e z.symm
      simp[e,e']
   ·rw[et,fg]
    unfold Wm
    split<;>simp
  refine ν ⟨plainId_quiet Ju _,ih (i+1) _ (by omega) (by omega) (W.frame _ s' _ _ aiw (Lj _) λb hb o e=>?_) hSi λs'' aiy aiz=>?_⟩
  ·rw[hsb.2 b (λh:b=S=>hSf (by rw[<-h];exact hb))];exact e
  ·refine hR s'' (Moved.trans W.gtrans ((hm.mono Uu).then_heap (Lj _) λb o hb e=>?_) aiy) aiz
   rw[hsb.2 b (λh:b=S=>hb (by rw[h];exact zn))];exact e
end
section
variable {s:Ι}
abbrev JJ (led:Bool):Obj:={ cls:=.type "set",dict:=none,data:=.set #[] 0 (.fresh 0 0 led) }
abbrev Ru (prog:Ϗ)(w:IH)(s:Ι)(ls:List Str)(s₂:Ι):Prop:=∃h' tk,s₂={ s with heap:=h',toks:=tk }/\h'.SetOf (strKind prog w) s.heap.objs.size (λx=>(JW ls).any (· == x)) (JW ls).length/\
 ∀b o,s.heap.get? b=some o->h'.get? b=some o
def AZ {l:Ε}{ls:List Str}{led:Bool}(hh:A.handled=none)(hl:s.heap.IsList l items)(hs:items.size=ls.length)(hi:∀(i:Nat) (v:Η),items[i]?=some v->∃x t,ls[i]?=some x/\v=.str x t)(hb:ls.length+1 < scanBound) :
  wpAny (model prog w) A.in1.in1 (Lz.«set.__init__» ⟨[.ref s.heap.objs.size,.ref l],[]⟩)
   (λfin s'=>match fin with | .done f=>wants (λr s₂=>r=.none/\Ru prog w s ls s₂) E (.ok f) s' | .again c'=>c'.quiet=true/\codeAny (model prog w) A.in1 c' (wants (λr s₂=>r=.none/\Ru prog w s ls s₂) E) s')
   (λe s'=>wants (λr s₂=>r=.none/\Ru prog w s ls s₂) E (.error e) s') { s with heap:=s.heap.push (JJ led) }:=by
 (refine ϭ (id hl) λΤ Yb Qy=>Nc λnl VX=>?_;obtain ⟨avg,aet,asI,abS⟩:=Τ);simp only at Qy VX;subst Qy;subst VX;have hlS:l < s.heap.objs.size:=γ Yb;have aiA:(s.heap.push (JJ led)).get? l=some { cls:=.type "list",dict:=aet,data:=.seq items nl,slots:=abS }:=Δ _ Yb;have hS:(s.heap.push (JJ led)).get? s.heap.objs.size=some (JJ led):=θ _ rfl;have VZ:(s.heap.push (JJ led)).IsList l items:=(ύ _ aiA rfl (MF nl rfl))
 have avh:=PySem.F.sub_list_set;have avi:=PySem.F.sub_list_frozenset;have hne:(Pe "list" == Pe "dict")=false:=by decide
 unfold Lz.«set.__init__» noKeywords Y9;generalize hPI:pyIter=PI
 wp_walk
 subst hPI;refine Fk VZ ?_;refine Β (afM ?_);have aiB:l≠(s.heap.push (JJ led)).objs.size:=by rw[ϣ];exact ϐ (KB hlS)
 have hSf:s.heap.objs.size∉[(s.heap.push (JJ led)).objs.size,l]:=by
  rw[ϣ];simp only[Θ,Ρ,ϛ,ads];exact⟨ϐ (GM _),xL hlS⟩
 have W:=(acO (prog:=prog) (w:=w) (A:=A.in1.in1.in1) (by simp[hh]) _ l aiB items).toS;rw[hs] at W;refine AY W hSf hi hb (ls.length - 0) 0 _ (by omega) (Ϛ _) ⟨(ύ _ (θ _ rfl) rfl rfl),(VZ.push _)⟩ ?_ λs' hm hS'=>?_
 ·exact vW ((adt (knd:=strKind prog w) led).setOf (Δ _ hS) (by unfold scanBound;omega)) (λ_=>rfl) rfl
 ·obtain⟨h',g',d',tk',os'⟩:=s'
  have eg:g'=s.gens:=hm.gens;have ed:d'=s.drawn:=hm.drawn;have eo:os'=s.os:=hm.os;subst eg;subst ed;subst eo;show wpAny _ _ _ _ _ _;refine ν ?_;show wpAny _ _ (ret be) _ _ _;refine ν ⟨rfl,(ϒ h' tk' rfl hS' (λb o e=>?_))⟩;have hb':=γ e;refine hm.heap b o ?_ (Δ _ (Δ _ e));rw[ϣ];simp only[Θ,Ρ,ϛ,ads];exact⟨ϐ hb',ϐ (KB hb')⟩
def A3 {l:Ε}{ls:List Str}{Q:Η->Ι->Prop}(hh:A.handled=none)(hl:s.heap.IsList l items)(hs:items.size=ls.length)(hi:∀(i:Nat) (v:Η),items[i]?=some v->∃x t,ls[i]?=some x/\v=.str x t)(hb:ls.length+1 < scanBound)
  (h:∀s',Ru prog w s ls s'->Q (.ref s.heap.objs.size) s'):wpAny (model prog w) A (call (.type "set") [.ref l]) Q E s:=by
 have ft:=PySem.F.called_set;(refine V7 ft.mro λc tl aiC=>?_);have aev:=ft.made;have Uu:=ft.sub;refine KC (UO ?_);show wpAny _ _ (callAny (.type "set") _) _ _ _;refine ν ⟨LW _ (s!"d"),Md PySem.F.entry_type_call ?_⟩;rw[V2 (XW "set" [.ref l] []) rfl];have h1:=ft.notType;have h2:=ft.canCreate;have hct:=PySem.F.typeCall_set_1 (.ref l)
 repeat (any_goals (first | assumption | wp_step))
 refine IV (code_set_new_1 (.ref l) (E:=E) (Q₁:=λobj s₁=>∃led:Bool,obj=.ref s.heap.objs.size/\s₁={ s with heap:=s.heap.push (JJ led) }) λled=>(Κ led rfl rfl)) λr s₁ hr=>?_;cases r with
 | error e=>exact hr
 | ok fl=>
  cases fl with
  | ret obj=>
   (revert hr;refine Ϟ λled Τ IK=>?_;subst Τ;subst IK);have hS:(s.heap.push (JJ led)).get? s.heap.objs.size=some (JJ led):=θ _ rfl;have hT:az6 { s with heap:=s.heap.push (JJ led) } (.ref s.heap.objs.size) "set":=(Κ _ hS rfl)
   have hli:=ft.init.lookup;have hbi:=ft.init.bind (.ref s.heap.objs.size)
   repeat (any_goals (first | assumption | wp_step))
   refine IV (J8 ft.init.plain PySem.F.entry_set_init (check_set_init_1 hT (AZ (E:=E) hh hl hs hi hb))) λr₂ s₂ abT=>?_;cases r₂ with
   | error e=>exact abT
   | ok aiD=>
    cases aiD with
    | ret r=>
     obtain⟨rfl,hd⟩:=abT
     repeat (any_goals (first | assumption | wp_step))
     exact h _ hd
    | _=>exact abT.elim
  | _=>exact hr.elim
end
section
variable {X:Cx}
def zL:∀{ls:List Str} {us:List Η},Vals (ls.map V.str) us->∀(i:Nat) (v:Η),us[i]?=some v->∃x t,ls[i]?=some x/\v=.str x t
 | [],us,r,i,v,h=>by cases r;simp at h
 | x::ls,us,r,i,v,h=>by
  cases r with
  | cons r1 r2=>
   cases i with
   | zero=>obtain⟨t,rfl⟩:=r1;simp at h;exact(gl x t rfl h.symm)
   | succ i=>simpa using zL r2 i v (by simpa using h)
abbrev WK (K:Ξ)(te:TE):TE:=λσ H Q=>te σ H λx H1=>∃(p:Ε) (ls:List Str),x=.ref p/\GT K H1 p (ls.map V.str)/\ls.length<=4000/\Q (.int (JW ls).length) H1
def A4 {K:Ξ}{p':Pos}(hc:X.calm=true)(hg':Gl X "len")(hm':X.mg "len"=none)(hg:Gl X "set")(hm:X.mg "set"=none)(hE:PE X e te)(hK:autoParam (X.K=K) L2.Ϩ._auto_1)
  (hs:autoParam (starEach [e] X.env=[(false,eval e X.env)]) L2.Ϩ._auto_1)
  (he:autoParam (starEach [.Call (.Name "set" p) [e] [] pos] X.env=[(false,eval (.Call (.Name "set" p) [e] [] pos) X.env)]) L2.Ϩ._auto_1) :
  PE X (.Call (.Name "len" p') [.Call (.Name "set" p) [e] [] pos] [] pos') (WK K te):=by
 subst hK;intro pins s σ H Q I h;refine Ϸ (cZ I hg' hm' u8 ?_ (by decide) (by decide));refine Os ?_ he rfl;rw[he];show wpAny _ _ (spliced [(false,eval (.Call (.Name "set" p) [e] [] pos) X.env)]) _ _ s;refine ci (WZ (cZ I hg hm boot_set (ϯ ?_ hs rfl)));rw[hs];show wpAny _ _ (spliced [(false,eval e X.env)]) _ _ s;refine ci (IJ (hE pins s σ H _ I h) λu s1 v H1 I1 r1 q1=>?_);(revert q1;refine NB λa ls Τ hq hl q=>?_;subst Τ);cases r1;(refine ϭ (I1.list hq) λits rv pl hz=>?_);have hlen:its.length=ls.length:=by have:=rv.length;simpa using this.symm
 refine Ix (A3 (ls:=ls) (I1.ok.hd hc) pl.isList (by simpa using hlen) (λi v hi=>zL rv i v (by simpa using hi)) (by rw[show scanBound=4096 from rfl];omega) λs2 hd=>?_);(revert hd;refine IY λh' tk Τ hS kp=>?_;subst Τ);have I2:Inv X pins σ H1 { s1 with heap:=h',toks:=tk }:=I1.kept kp;(revert hS;refine O2 λo es ep t ho hex hd VY=>Um λavm hb hf hn=>?_);have hle:=lY _ ls rfl;refine Ix (call_len_set ho hex hd hf (by omega) ?_);rw[hn];exact(ϒ (.int (JW ls).length) H1 (I2.tok _) ⟨_,rfl⟩ q)
abbrev Uv (K:Ξ)(mg:Str->Option Η)(x:Str)(xs:List V):Prop:=∃p,mg x=some (.ref p)/\∀H,JZ K H p xs
abbrev tCT (K:Ξ)(xs:List V):TE:=λ_ H Q=>∀p,(∀H',JZ K H' p xs)->Q (.ref p) H
def sY {K:Ξ}(c:Uv K X.mg x xs)(hg:autoParam (Gl X x) L2.Ϩ._auto_1)(hd:autoParam ((x == ("__debug__":Str))=false) L2.Kh._auto_1):PE X (.Name x pos) (tCT K xs):=by
 intro pins s σ H Q I h;(revert c;refine Ϟ λp hm hq=>?_);exact pJ (v:=.ref p) hg hm rfl hd pins s σ H Q I (h p hq)
end
section
variable {X:Cx} {c:bv} {xs:List Str} {y:Str} {N M:List Str} {wi:TI}   
def A5 (LF:X.calm=true)(hX:X.N=N)(SV:X.env.scope=sc)(O:Op N M sc xs scope)(hi:PI X tg iter wi)
  (Va:∀(C:Ε) (s₀:Ι) (H₀:Hp) (fp:List Ε) (pins:List (Ε×Obj)) (s:Ι) (σ:St) (H:Hp) (Q:Bool->Hp->Prop),Inv (Kl X xs scope M C s₀ H₀ fp) pins σ H s->tt σ H Q->
   wpAny (model X.prog X.w) X.A (forIn ifs true λc r=>if r=true then do let ok <-isTrue c (Kl X xs scope M C s₀ H₀ fp).env (eval c (Kl X xs scope M C s₀ H₀ fp).env);pure (ap ok) else pure (ap r)) (TP (Kl X xs scope M C s₀ H₀ fp) pins σ Q) (λ_ _=>False) s)
  (VY:∀(C:Ε) (s₀:Ι) (H₀:Hp) (fp:List Ε),PE (Kl X xs scope M C s₀ H₀ fp) elt te) (hg:∀(C:Ε) (s₀:Ι) (H₀:Hp) (fp:List Ε),PG (Kl X xs scope M C s₀ H₀ fp) tg g) (hs:autoParam (∀x,foldedSetIterable iter X.env x=pure x) L2.S6._auto_1) :
  PE X (.ListComp elt [⟨tg,iter,ifs,0⟩] scope pos) (Wg xs.length wi g tt te):=by
 intro pins s σ H Q I h;rw[aho];have Qy:closureFor scope X.env=pure (wT X.env.cells scope.names []):=qc λz hz hf=>by
  have q:=O.free z hz hf;rw[<-SV] at q;exact I.ok.has z.1 q
 refine Wx (use:=none) rfl hs Qy O.kind O.names (J2 (hi pins s σ H _ I h) λv s1 h1=>J2 h1 λitv s2 h2=>?_);(revert h2;refine Ld λit fp tn J H2 e=>MD λI2 T Ze f2 q2=>?_);subst e;refine oz (Qd:=λD H'=>Q (.ref D) H') (RR:=λacc C=>compPost (model X.prog X.w) X.A X.xe none (EP X pins σ Q) acc C) (λ_ _ _ _ _=>LF) hX SV O Va (λC s H f _=>VY C s H f) hg I2 T Ze f2 (λD hD=>q2 D hD) ?_;intro D C H' s' I' hC hm q';obtain⟨m,hm⟩:=hm;(revert hC;refine P6 λc0 c1 c2 c3 c4 c5=>?_);exact(Κ m hm (λh' hs'=>(ϒ (.ref D) H' (I'.turned (t':=s'.toks) (λb o hb e=>hs'.extBut b o hb e) c0 c1 c3 c4 c5) rfl q')))
def vX (N M:List Str)(sc:Oi)(xs:List Str)(O:Op N M sc xs scope)(hi:PI X tg iter wi)(hg:∀(C:Ε) (s₀:Ι) (H₀:Hp) (fp:List Ε),PG (Kl X xs scope M C s₀ H₀ fp) tg g)(VY:∀(C:Ε) (s₀:Ι) (H₀:Hp) (fp:List Ε),PE (Kl X xs scope M C s₀ H₀ fp) elt te)
  (LF:autoParam (X.calm=true) L2.Ϩ._auto_1) (hX:autoParam (X.N=N) L2.Ϩ._auto_1) (SV:autoParam (X.env.scope=sc) L2.Ϩ._auto_1) (hs:autoParam (∀x,foldedSetIterable iter X.env x=pure x) L2.S6._auto_1) :
  PE X (.ListComp elt [⟨tg,iter,[],0⟩] scope pos) (Wg xs.length wi g ND te):=
 A5 LF hX SV O hi (λC s₀ H₀ fp pins s σ H Q I h=>UN (Κ H I h)) VY hg hs
end
abbrev Iti (d:Ε)(od:Obj)(ϔ:List (Key×V)):It:=
 ⟨λi H=>H d=some (.Ra od (.dK ϔ))/\i < ϔ.length,λi H v H'=>∃T k x,v=.ref T/\H T=none/\H'=upd H T (.tup [kV k,x])/\ϔ[i]?=some (k,x)/\Io ϔ k=some x,λi H=>H d=some (.Ra od (.dK ϔ))/\ϔ.length<=i⟩
abbrev Itk (d:Ε)(od:Obj)(ϔ:List (Key×V)):It:=
 ⟨λi H=>H d=some (.Ra od (.dK ϔ))/\i < ϔ.length,λi H v H'=>H'=H/\∃k x,v=kV k/\ϔ[i]?=some (k,x)/\Io ϔ k=some x,λi H=>H d=some (.Ra od (.dK ϔ))/\ϔ.length<=i⟩
noncomputable abbrev TIF:=St->Hp->(Ε->Obj->List (Key×V)->It->Hp->Prop)->Prop
abbrev aiE (td:TE):TIF:=λσ H R=>td σ H λx H1=>∃d ϔ,x=.ref d/\H1 d=some (.dK ϔ)/\∀od,R d od ϔ (Iti d od ϔ) (upd H1 d (.Ra od (.dK ϔ)))
abbrev asK (td:TE):TIF:=λσ H R=>td σ H λx H1=>∃d ϔ,x=.ref d/\H1 d=some (.dK ϔ)/\∀od,R d od ϔ (Itk d od ϔ) (upd H1 d (.Ra od (.dK ϔ)))
abbrev aaN (d:Ε)(od:Obj)(ϔ:List (Key×V))(D:Ends):Ends:=
 { D with nx:=λσ H=>H d=some (.Ra od (.dK ϔ))/\D.nx σ (upd H d (.dK ϔ)),rt:=λv H=>H d=some (.Ra od (.dK ϔ))/\D.rt v (upd H d (.dK ϔ)) }
abbrev aey (wi:TIF)(g:TG)(tb:TS):TS:=λD σ H=>wi σ H λd od ϔ J H1=>Ut J g tb (aaN d od ϔ D) σ H1
def Hz (wi:TIF)(g:TG)(tb:TS)(D:Ends)(σ:St)(H:Hp):aey wi g tb D σ H=wi σ H λd od ϔ J H1=>Ut J g tb (aaN d od ϔ D) σ H1:=rfl
abbrev Yu (n:Nat)(l:List Nat):List Nat:=(ϥ n l).flatten
def nI (xs:List (Array Nat)):∀a:Array Nat,(xs.foldl (·++·) a).toList=a.toList++(xs.map PR).flatten:=by
 induction xs with
 | nil=>intro a;simp
 | cons x r ih=>intro a;rw[List.foldl_cons,ih];simp
def HA (l:List Nat)(n:Int):Txt.mul (S l) n=S (Yu n.toNat l):=by
 unfold Txt.mul Yu
 by_cases h1:n < 1
 ·rw[δ h1]
  have:n.toNat=0:=by omega
  rw[this];rfl
 ·rw[Υ h1]
  by_cases h2:(n == 1 || (S l).length == 0)=true
  ·rw[δ h2]
   rw[Y'] at h2;rcases h2 with h2 | h2
   ·have:n=1:=by simpa using h2
    subst this;simp
   ·have:l=[]:=by
     have:(S l).length=0:=by simpa using h2
     rw[cm] at this;exact List.length_eq_zero_iff.mp this
    subst this;congr 1;simp
  ·rw[Υ h2]
   show(⟨_⟩:Str)=⟨_⟩;congr 1;apply Array.toList_inj.mp;rw[nI];simp
abbrev WL:R2:=λx y H Q=>∃l n,x=.str (S l)/\y=.int n/\-(2 ^ 62)<=n/\n<=65536/\l.length<=200/\Q (.str (S (Yu n.toNat l))) H
section
variable {X:Cx}
def EJ:J3 X (binaryOp .Mult) WL:=by
 intro pins s σ H x y v u Q I rx ry h;(revert h;refine O1 λl n Τ IK h0 h1=>Jb λhl q=>?_;subst Τ;subst IK);obtain⟨t,rfl⟩:=rx;obtain⟨t',rfl⟩:=ry;refine SB.mul ⟨?_,λh2 _=>?_,λh2 _=>?_⟩ λt'' k=>(ϒ (.str (S (Yu n.toNat l))) H (I.tok k) ⟨t'',by rw[HA]⟩ q)
 ·rw[Ϧ (by omega),Ϧ (by omega)];rfl
 ·rw[cm]
  intro h3;have h4:(2 ^ 63 - 1:Int) / n≥(2 ^ 63 - 1) / 65536:=by
   refine Int.le_ediv_of_mul_le (by omega) ?_;have:(2 ^ 63 - 1:Int) / 65536 * n<=(2 ^ 63 - 1:Int) / 65536 * 65536:=Int.mul_le_mul_of_nonneg_left h1 (by decide);have:(2 ^ 63 - 1:Int) / 65536 * 65536<=2 ^ 63 - 1:=by decide
   omega
  have h5:(2 ^ 63 - 1:Int) / 65536 > 200:=by decide
  omega
 ·rw[cm]
  have h3:l.length * n.toNat<=200 * 65536:=Nat.mul_le_mul hl (by omega);have e:afV (l.length * n.toNat)=decide (l.length * n.toNat > sizeLine):=rfl;rw[e,Ϧ];rw[KH];omega
abbrev RS:R2:=λx y H Q=>rI Yd (λi j=>.int (i * j)) x y H Q\/WL x y H Q
def iG:J3 X (binaryOp .Mult) RS:=FV.or EJ
def Ib (i j:Int):RS (.int i) (.int j) H Q=(Yd i j/\Q (.int (i * j)) H):=by
 simp[RS,rI,WL]
def EK (z:Str)(n:Int):RS (.str z) (.int n) H Q=∃l,z=S l/\-(2 ^ 62)<=n/\n<=65536/\l.length<=200/\Q (.str (S (Yu n.toNat l))) H:=by
 simp[RS,rI,WL]
abbrev agh (td:TE):TE:=λσ H Q=>td σ H λx H1=>∃a ϔ,x=.ref a/\H1 a=some (.dK ϔ)/\Q .cr (upd H1 a (.dK []))
end
abbrev aiG (K:Ξ)(a:Ε)(n:Nat):It:=
 ⟨λi H=>i < n/\∃xs,GT K H a xs/\xs.length=n,λi H x H'=>H'=H/\∀xs,GT K H a xs->xs[n - 1 - i]?=some x,λi H=>n<=i⟩
section
variable {X:Cx}
abbrev avq (K:Ξ)(ta:TA):TI:=λσ H R=>ta σ H λvs H1=>∃a xs,vs=[.ref a]/\GT K H1 a xs/\R (aiG K a xs.length) H1
end
def Dn (l:List Nat)(k:Nat):Re l none (some (k:Int))=l.take k:=by
 unfold Re;rw[HT.lQ,HT.lP,S0,Nat.sub_zero]
 by_cases h:k<=l.length
 ·rw[JA h]
 ·rw[Nq (by omega),ϩ (Φ _),ϩ (by omega)]
def ql (l:List Nat)(k:Nat):Re l (some (k:Int)) none=l.drop k:=by
 unfold Re;rw[HT.lQ,HT.lP]
 by_cases h:k<=l.length
 ·rw[JA h,ϩ (by rw[sw];omega)]
 ·rw[Nq (by omega),II (Φ _),II (by omega),MT]
def vY (l:List V)(k:Nat):Rc l (some (k:Int)) none=l.drop k:=by
 unfold Rc;rw[HT.lQ,HT.lP]
 by_cases h:k<=l.length
 ·rw[JA h,ϩ (by rw[sw];omega)]
 ·rw[Nq (by omega),II (Φ _),II (by omega),MT]
def Dp (l:List V)(k j:Nat):Rc l (some (k:Int)) (some ((k+j:Nat):Int))=(l.drop k).take j:=by
 unfold Rc;rw[HT.lQ,HT.lQ]
 by_cases h:k<=l.length
 ·rw[JA h]
  by_cases h2:k+j<=l.length
  ·rw[JA h2];congr 1;omega
  ·rw[Nq (by omega),ϩ (by rw[sw];omega),ϩ (by rw[sw];omega)]
 ·rw[show min k l.length=l.length by omega,II (Φ _),II (show l.length<=k by omega),MT,MT]
abbrev Tb (H:Hp):V->List V
 | .ref t=>match H t with
  | some (.tup xs)=>xs
  | _=>[]
 | _=>[]
def Ip.comp (h:Ip H ts rows)(q:List V->Bool)(g:List V->V):((ts.map V.ref).filter λx=>q (Tb H x)).map (λx=>g (Tb H x))=(rows.filter q).map g:=by
 unfold Ip at h
 induction h with
 | nil=>rfl
 | @cons t xs ts' asM e _ ih=>
  have et:Tb H (.ref t)=xs:=by simp only[Tb,e]
  simp only[ο,XU,et];cases q xs with
  | true=>simp only[Om,ο,et];rw[ih]
  | false=>simpa using ih
def Ip.mem (h:Ip H ts rows){x:V}(hx:x∈ts.map V.ref):∃t xs,x=.ref t/\xs∈rows/\H t=some (.tup xs):=by
 (refine ρ (τ.mp hx) λt ht Τ=>?_;subst Τ);obtain⟨i,hi⟩:=Lc ht;(refine ρ (h.get hi) λxs h1 h2=>?_);exact(ϒ t xs rfl (Ν h1) h2)
def uG {K:Ξ}(hl:Jd H a rows)(hn:rows.length<=sizeLine)(q:List V->Bool)(g:List V->V)
  (ht:∀t xs H',xs∈rows->Χ H H'->H' t=some (.tup xs)->∀Qt:Bool->Hp->Prop,(∀Kj,Χ H' Kj->Qt (q xs) Kj)->tt (some (.ref t)::σ) H' Qt)
  (he:∀t xs H',xs∈rows->Χ H H'->H' t=some (.tup xs)->∀Qe:VK,(∀Kj,Χ H' Kj->Qe (g xs) Kj)->te (some (.ref t)::σ) H' Qe)
  (hd:∀D H',H D=none->Χ H H'->H' D=some (.lst ((rows.filter q).map g))->Q (.ref D) H'):NX (U3 K a) tt te σ H Q:=by
 (revert hl;refine Ϟ λts e hT=>?_);refine lW (xs:=ts.map V.ref) (.inl (.inl e)) (by rw[Ζ,hT.length];exact hn) (λx=>q (Tb H x)) (λx=>g (Tb H x)) ?_ ?_ ?_
 ·intro x H' hx s Qt qt
  (refine KA (hT.mem hx) λt xs Τ hm h1=>?_;subst Τ);have et:Tb H (.ref t)=xs:=by simp only[Tb,h1]
  rw[et] at qt;exact ht t xs H' hm s (s _ _ h1) Qt qt
 ·intro x H' hx _ s Qe qe
  (refine KA (hT.mem hx) λt xs Τ hm h1=>?_;subst Τ);have et:Tb H (.ref t)=xs:=by simp only[Tb,h1]
  rw[et] at qe;exact he t xs H' hm s (s _ _ h1) Qe qe
 ·intro D H' hD s h
  refine hd D H' hD s ?_;rw[h,hT.comp]
def k6 {K:Ξ}(hl:Jd H a rows)(hn:rows.length<=sizeLine)(g:List V->V)
  (he:∀t xs H',xs∈rows->Χ H H'->H' t=some (.tup xs)->∀Qe:VK,(∀Kj,Χ H' Kj->Qe (g xs) Kj)->te (some (.ref t)::σ) H' Qe)
  (hd:∀D H',H D=none->Χ H H'->H' D=some (.lst (rows.map g))->Q (.ref D) H'):NX (U3 K a) ND te σ H Q:=
 uG hl hn (λ_=>true) g (λt xs H' _ s _ Qt qt=>qt H' (Χ.refl _)) he (λD H' h s e=>hd D H' h s (by rw[cV] at e;exact e))
inductive Tv (H:Hp):V->Prop
 | cr:Tv H .cr
 | bl (b:Bool):Tv H (.bl b)
 | int (i:Int):Tv H (.int i)
 | str (l:List Nat) (h:l.length<=1000):Tv H (.str (S l))
 | lst {p:Ε} {xs:List V} (h:H p=some (.lst xs)):Tv H (.ref p)
 | tup {p:Ε} {xs:List V} (h:H p=some (.tup xs)):Tv H (.ref p)
abbrev K2 (x:V)(lo hi:Int):Bool:=match x with
 | .str z=>decide (lo<=z.length) && decide ((z.length:Int)<=hi)
 | _=>false
abbrev Jl (x:V)(lo hi:Int)(p:Nat->Bool):Bool:=match x with
 | .str z=>decide (lo<=z.length) && (decide ((z.length:Int)<=hi) && z.cps.toList.all p)
 | _=>false
abbrev NZ (x:V)(lo hi:Int):Bool:=match x with
 | .int i=>decide (lo<=i) && decide (i<=hi)
 | _=>false
abbrev Yv:List Nat:=[97,98,99,100,101,102,103,104,105,106,107,108,109,110,111,112,113,114,115,116,117,118,119,120,121,122,48,49,50,51,52,53,54,55,56,57]
def GB:(Α "abcdefghijklmnopqrstuvwxyz0123456789")=S Yv:=by decide +kernel
abbrev Vg (c:Nat):Bool:=decide (c∈Yv)
def zM (l:List Nat)(c:Nat):Us (S l) (S [c])=decide (c∈l):=by
 have:=PySem.StrLaws.found_one (S l) c;unfold Us;exact this.trans (by simp)
abbrev yb:Sp:=λvs H Q _=>∃(x:V) (lo hi:Int),vs=[x,.int lo,.int hi]/\Tv H x/\Q (.bl (K2 x lo hi)) H
abbrev yc:Sp:=λvs H Q _=>∃x:V,vs=[x]/\Tv H x/\∀H',Χ H H'->Q (.bl (Jl x 1 12 Vg)) H'
abbrev vZ:Sp:=λvs H Q _=>∃(x:V) (lo hi:Int),vs=[x,.int lo,.int hi]/\Tv H x/\Q (.bl (NZ x lo hi)) H
def fh {l:List Nat}{p:Nat->Bool}:(l.map p).all id=l.all p:=by simp[P3,VU]
def dF {l:List Nat}{lo:Int}{p:Nat->Bool}(h:K2 (.str (S l)) lo hi=true):Jl (.str (S l)) lo hi p=l.all p:=by
 simp only[K2,Jl,Ϣ] at h ⊢;rw[h.1,h.2];simp
def lZ {x:V}{lo:Int}{p:Nat->Bool}(h:¬K2 x lo hi=true):Jl x lo hi p=false:=by
 cases x with
 | str z=>
  simp only[K2,Jl,Ϣ] at h ⊢
  by_cases h1:decide (lo<=(z.length:Int))=true
  ·rw[h1,JB]
   have h2:¬decide ((z.length:Int)<=hi)=true:=λe=>h ⟨h1,e⟩;rw[MQ.mpr h2,wP]
  ·rw[MQ.mpr h1,wP]
 | _=>rfl
def pM {x:V}{lo:Int}(t:Tv H x)(h:K2 x lo hi=true):∃l:List Nat,x=.str (S l)/\l.length<=1000:=by
 cases t with
 | str l hl=>exact(Κ l rfl hl)
 | _=>simp[K2] at h
abbrev RT (l:List Nat):Int:=l.foldl (λ(h:Int) (c:Nat)=>Rn (h * 37+(c:Int)) 65535) 1
abbrev Uw (l:List Nat):Int:=Xs (RT l) (RT l / 2 ^ (8:Int).toNat)
def qm {l:List Nat}{c:Nat}(h:(S l).cps[i]?=some c):RT (l.take (i+1))=Rn (RT (l.take i) * 37+(c:Int)) 65535:=by
 have h':l[i]?=some c:=by simpa using h
 rw[bi,h'];simp[RT,XE]
set_option genInjectivity false in
structure Jn where
 name:List Nat
 rows:Nat
 kind:Str
abbrev Jn.v (x:Jn):List V:=[.str (S x.name),.int x.rows,.str x.kind]
abbrev WM (x:Jn):Prop:=(1<=x.name.length/\x.name.length<=12/\x.name.all Vg=true)/\(1<=x.rows/\x.rows<=9)/\(x.kind=Α "table" \/ x.kind=Α "stream")
structure JK (xs:List Jn):Prop where
 lo:1<=xs.length
 hi:xs.length<=6
 each:∀x∈xs,WM x
 nd:(xs.map Jn.name).Nodup
structure Rf (C:Ε)(H:Hp)(s l:Ε)(xs:List Jn):Prop where
 obj:∃dx,H s=some (.ins C dx [("shelves",.ref l)])
 lst:Jd H l (xs.map Jn.v)
def Rf.Ji {A:List Ε}{s l:Ε}{xs:List Jn}(h:Rf C H s l xs)(c:ϳ A H H')(hs:s∉A)(hl:l∉A):Rf C H' s l xs:=by
 obtain⟨dx,e⟩:=h.obj;exact⟨⟨dx,c.keep _ _ e hs⟩,h.lst.Ji c hl⟩
abbrev Ϝ (xs:List Jn)(k:Nat):Nat:=((xs.take k).map Jn.rows).sum
def b0 {xs:List Jn}{k:Nat}{x:Jn}(h:xs[k]?=some x):Ϝ xs (k+1)=Ϝ xs k+x.rows:=by
 unfold Ϝ;rw[bi,h];simp
def k7 {xs:List Jn}(h:∀x∈xs,x.rows<=9):∀k,Ϝ xs k<=9 * k:=by
 intro k
 induction k with
 | zero=>simp[Ϝ]
 | succ k ih=>
  cases e:xs[k]? with
  | none=>
   have:Ϝ xs (k+1)=Ϝ xs k:=by unfold Ϝ;rw[bi,e];simp
   omega
  | some x=>
   have:=h x (Ν e);rw[b0 e];omega
abbrev yd (C:Ε):Sp:=λvs H Q _=>∃(s l:Ε) (xs:List Jn),vs=[.ref s]/\Rf C H s l xs/\xs.length<=1000/\∀H',Χ H H'->Q (.int (Ϝ xs xs.length)) H'
abbrev Mh (xs:List Jn)(k:Nat)(x:Jn)(key:List Nat):Nat:=Ϝ xs k+(Uw key % (x.rows:Int)).toNat
abbrev A6:Sp:=λvs H Q _=>∃l:List Nat,vs=[.str (S l)]/\Q (.int (Uw l)) H
abbrev sZ:Sp:=λvs H Q _=>∃(l:List Nat) (m:Int),vs=[.str (S l),.int m]/\0 < m/\Q (.int (Uw l % m)) H
abbrev it (i:Nat)(xs:List V):V:=xs.getD i .cr
abbrev Yw (n:Int):Nat:=Yv.getD (n % 36).toNat 0
abbrev Hf:Sp:=λvs H Q _=>∃x y:Int,vs=[.int x,.int y]/\Q (.bl (decide (x=y))) H
abbrev Hg:Sp:=λvs H Q _=>∃n:Int,vs=[.int n]/\Q (.str (S [Yw n])) H
def l8 {lo:Int}(hn:n<=sizeLine)(Pv:Ε->Nat->List V->Hp->Prop)(h0:∀D,H D=none->Pv D 0 [] (upd H D (.lst [])))
  (hl:∀D i ys H',i<=n->Pv D i ys H'->H' D=some (.lst ys)/\ys.length<=i)
  (hs:∀D i ys H',H D=none->i < n->Pv D i ys H'->∀Qe:VK,(∀y H5,H5 D=some (.lst ys)->Pv D (i+1) (ys++[y]) (upd H5 D (.lst (ys++[y])))->Qe y H5)->te (some (.int (lo+i))::σ) H' Qe)
  (hd:∀D ys H',H D=none->Pv D n ys H'->Q (.ref D) H'):NX (ZC lo n) ND te σ H Q:=by
 intro D hD;refine(Κ (λi m ys H=>m=n - i/\i<=n/\Pv D i ys H) (ύ n rfl (Ϛ _) (h0 D hD)) ?_)
 rintro i m ys H2 ⟨rfl,hi,p⟩
 obtain⟨h1,h2⟩:=hl D i ys H2 hi p
 by_cases KI:i < n
 ·refine .inr ⟨KI,by omega,λx H3 y=>?_⟩
  obtain⟨rfl,rfl⟩:H3=H2/\x=.int (lo+i):=y;simp only[ND,Om];exact hs D i ys H3 hD KI p _ λy H5 z1 z2=>⟨z1,(Jw (n - (i+1)) (by omega) rfl KI z2)⟩
 ·have e:i=n:=by omega
  subst e;exact .inl ⟨Φ _,h1,hd D ys H2 hD p⟩
def oB {K:Ξ}(hn:xs.length<=sizeLine)(Pv:Ε->Nat->List V->Hp->Prop)(h0:∀D,H D=none->Pv D 0 [] (upd H D (.lst [])))
  (hl:∀D i ys H',i<=xs.length->Pv D i ys H'->H' D=some (.lst ys)/\ys.length<=i/\GT K H' a xs)
  (hs:∀D i ys H' x,H D=none->xs[i]?=some x->Pv D i ys H'->∀Qe:VK,(∀y H5,H5 D=some (.lst ys)->Pv D (i+1) (ys++[y]) (upd H5 D (.lst (ys++[y])))->Qe y H5)->te (some x::σ) H' Qe)
  (hd:∀D ys H',H D=none->Pv D xs.length ys H'->Q (.ref D) H'):NX (U3 K a) ND te σ H Q:=by
 intro D hD;refine(Κ (λi m ys H=>m=xs.length - i/\i<=xs.length/\Pv D i ys H) (ύ xs.length rfl (Ϛ _) (h0 D hD)) ?_)
 rintro i m ys H2 ⟨rfl,hi,p⟩
 (refine IT (hl D i ys H2 hi p) λh1 h2 h3=>?_)
 by_cases KI:i < xs.length
 ·refine .inr ⟨(gl xs (xs[i]) h3 (by simp)),by omega,λx H3 y=>?_⟩
  obtain⟨rfl,z⟩:=y;simp only[ND,Om];exact hs D i ys _ x hD (z xs h3) p _ λy H5 z1 z2=>⟨z1,(Jw (xs.length - (i+1)) (by omega) rfl KI z2)⟩
 ·have e:i=xs.length:=by omega
  subst e;exact .inl ⟨(Κ xs h3 (Φ _)),h1,hd D ys H2 hD p⟩
def iH {xs:List Jn}{a b:Nat}{x:Jn}(hx:xs[a]?=some x)(h:a < b):Ϝ xs a+x.rows<=Ϝ xs b:=by
 rw[<-b0 hx];have mono:∀m n:Nat,m<=n->Ϝ xs m<=Ϝ xs n:=by
  intro m n hmn
  induction n with
  | zero=>
   have:m=0:=by omega
   subst this;exact Φ _
  | succ n ih=>
   by_cases e:m=n+1
   ·subst e;exact Φ _
   ·refine ζ (ih (by omega)) ?_
    cases e2:xs[n]? with
    | none=>unfold Ϝ;rw[bi,e2];simp
    | some y=>rw[b0 e2];omega
 exact mono _ _ h
def Ip.drop (h:Ip H ts rows)(n:Nat):Ip H (ts.drop n) (rows.drop n):=by
 unfold Ip at h ⊢
 induction h generalizing n with
 | nil=>simp;exact .nil
 | cons r t ih=>
  cases n with
  | zero=>exact .cons r t
  | succ n=>exact ih n
def aV (s:Χ H H')(h:H' b=none):H b=none:=by
 cases e:H b with
 | none=>rfl
 | some o=>rw[s _ _ e] at h;cases h
def Χ.wr {o:HO}(s:Χ H H')(h:H b=none):Χ H (L2.upd H' b o):=λc u hc=>(aj (aD hc h)).trans (s c u hc)
abbrev Yx:R2:=λx y H Q=>∃b c,x=.bl b/\y=.bl c/\Q (.bl (!decide (b=c))) H
section
variable {X:Cx}
def zN:J3 X (compareOp .IsNot) Yx:=by
 intro pins s σ H x y v u Q I rx ry h;(revert h;refine IY λb c Τ IK q=>?_;subst Τ;subst IK);cases (show v=JM b from rx);cases (show u=JM c from ry);refine wpAny_isNot_plain (by cases b<;>cases c<;>rfl) (ϒ (.bl (!decide (b=c))) H I ?_ q);show JM _=JM _;cases b<;>cases c<;>rfl
def HB (b c:Bool):Yx (.bl b) (.bl c) H Q=Q (.bl (!decide (b=c))) H:=by simp[Yx]
end
def KD.same {M:Iz}(h:KD C H r d M)(s:Χ H H'):KD C H' r d M:=h.Ji (A:=[]) (ϳ.of_same s) (by simp) (by simp)
end
section
open PySem
abbrev TrD (h B:ϟ)(e:Ε)(cls:Η)(dc:Option Ε)(a0 fl:Η):Prop:=
 ∃oe vs T oT ts,h.get? e=some oe/\oe.cls=cls/\oe.dict=dc/\oe.data=.fields vs/\vs[2]?=some a0/\vs[1]?=some (.ref T)/\B.get? T=none/\T≠e/\h.get? T=some oT/\oT.data=.fields ts/\ts[3]?=some fl
structure WN (B:ϟ)(l:List Env)(e:Ε)(cls:Η)(dc:Option Ε)(a0 fl:Η)(h:ϟ):Prop where
 Ng:B.StaysIn h
 new:B.get? e=none
 aez:h.FunFrames B l
 ZS:TrD h B e cls dc a0 fl
section
variable {M:M7} {s:Ι}
def A7 (g:Array Η->Array Η)(o:Obj):(o.mapFields g).dict=o.dict:=by
 obtain⟨c,d,t,sl⟩:=o;cases t<;>rfl
def tf {B:ϟ}{out:List Env}{L e:Ε}{top:Η}{nx:Bool}{Q:Unit->Ι->Prop}
  (fr:A.frames=some (env::out)) (ff:s.heap.FunFrames B (env::out)) (ef:env.frame=some L) (ge:s.heap.get? e=some oe) (kb:B.StaysIn s.heap) (nb:B.get? e=none) (dt:oe.data=.fields vs) (sz:1 < vs.size) (z0:vs[2]?=some a0)
  (k:∀h',WN B (env::out) e oe.cls oe.dict a0 (rawInt L) h'->s.heap.UpToSlots h'->Q () { s with heap:=h' }) :
  wpAny M A (do
   let fo <-frameOf env
   let pl <-entryPlaceOf L nx
   let en <-To top fo .none (rawInt L) .none pl
   setField (.ref e) 1 en) Q E s:=by
 have apart:e∉(env::out).filterMap (·.frame):=by
  intro m;(refine MU (ff.mem m) λ_=>Ϟ λo g nf=>?_);rw[ge] at g;cases g;exact nf vs dt
 refine Β (wpAny_frameOf_fun fr ff ef λg1 so=>Β (wpAny_entryPlaceOf λpl ip=>?_));unfold To newFields;refine Β (JX ?_ (ip.sizeOk5 _ _ _ _ _));generalize hen:([top,π L,be,rawInt L,be]++(if pl.isEmpty then ϥ 6 be else pl)).toArray=ts;have e3:ts[3]?=some (rawInt L):=by rw[<-hen];simp
 generalize ho:({ cls:=.type "traceback",dict:=none,data:=.fields ts }:Obj)=on;have ge1:g1.get? e=some oe:=(so.2.1 e apart).trans ge;have kb1:B.StaysIn g1:=λb o q=>by
  refine(so.2.1 b λm=>?_).trans (kb b o q);rw[(ff.mem m).1] at q;cases q
 have ge2:(g1.push on).get? e=some oe:=Δ _ ge1;have QA:∀b o,s.heap.get? b=some o->(∀ws,o.data≠.fields ws)->b≠e:=λb o q nf z=>by
  subst z;rw[ge] at q;cases q;exact nf vs dt
 refine J5 ge2 dt sz (k _ ?_ ?_)
 all_goals have nTe:g1.objs.size≠e:=xL (γ ge1)
 all_goals have dt3:=Js dt (·.setIfInBounds 1 (π g1.objs.size))
 all_goals have ge3:=IU (JE (·.setIfInBounds 1 (π g1.objs.size))) ge2 (KU dt3)
 all_goals have gT:((g1.push on).update e (JE (·.setIfInBounds 1 (π g1.objs.size)))).get? g1.objs.size=some on:=(re _ _ (ω nTe)).trans (θ g1 (by rw[<-ho];rfl))
 all_goals have keep:∀b o,b≠e->g1.get? b=some o->((g1.push on).update e (JE (·.setIfInBounds 1 (π g1.objs.size)))).get? b=some o:=λb o nbe q=>(re _ _ (ω nbe)).trans (Δ _ q)
 ·refine⟨λb o q=>keep b o (λz=>by rw[z,nb] at q;cases q) (kb1 b o q),nb,ff.of_keeps λb o q nf=>?_,?_⟩
  ·obtain⟨sl,q'⟩:=so.2.2 b o q
   exact(Κ _ (keep b _ (QA b o q nf) q') rfl)
  ·refine(Ov _ _ g1.objs.size on ts ge3 (Qo _ _) (A7 _ _) dt3 ?_ ⟨by simp[sz],kb1.fresh,nTe,gT,⟨by rw[<-ho],e3⟩⟩)
   rw[Array.getElem?_setIfInBounds_ne (by decide)];exact z0
 ·intro b o q nf
  obtain⟨sl,q'⟩:=so.2.2 b o q;exact⟨sl,keep b _ (QA b o q nf) q'⟩
def ye {B:ϟ}{out:List Env}{L e:Ε}{Q:Unit->Ι->Prop}
  (fr:A.frames=some (env::out)) (ff:s.heap.FunFrames B (env::out)) (ef:env.frame=some L) (ge:s.heap.get? e=some oe) (kb:B.StaysIn s.heap) (nb:B.get? e=none) (dt:oe.data=.fields vs) (z1:vs[1]?=some .none) (z0:vs[2]?=some a0)
  (k:∀h',WN B (env::out) e oe.cls oe.dict a0 (rawInt L) h'->s.heap.UpToSlots h'->Q () { s with heap:=h' }):wpAny M A (noteFrame (.ref e) env) Q E s:=by
 unfold noteFrame;simp only[ef];refine Β (ϫ ge dt z1 ?_);rw[Υ (by decide)];exact tf fr ff ef ge kb nb dt (JP.mp z1).1 z0 k
def tj {B:ϟ}{out:List Env}{L e:Ε}{Q:Unit->Ι->Prop}
  (fr:A.frames=some (env::out)) (ef:env.frame=some L) (fl:WN B (env::out) e cls dc a0 .none s.heap)
  (k:∀h',WN B (env::out) e cls dc a0 (rawInt L) h'->s.heap.UpToSlots h'->Q () { s with heap:=h' }):wpAny M A (noteFrame (.ref e) env) Q E s:=by
 obtain⟨kb,nb,ff,oe,vs,T,oT,ts,ge,hc,hdc,dt,z0,z1,nT,nTe,gT,dT,z3⟩:=fl;subst hc hdc;unfold noteFrame;simp only[ef];refine Β (ϫ ge dt z1 ?_);rw[δ (by simp)];refine Β (ϫ gT dT z3 ?_);rw[Υ (by simp[rawInt])];refine Β (J5 gT dT (JP.mp z3).1 ?_);have ZT:∀b,b≠T->(s.heap.update T (JE (·.setIfInBounds 3 be))).get? b=s.heap.get? b:=λb q=>re _ _ (ω q);have QA:∀b o,s.heap.get? b=some o->(∀ws,o.data≠.fields ws)->b≠T:=λb o q nf z=>by
  subst z;rw[gT] at q;cases q;exact nf ts dT
 refine tf fr (ff.of_keeps λb o q nf=>(Κ o ((ZT b (QA b o q nf)).trans q) rfl)) ef ((ZT e (ω nTe)).trans ge) (λb o q=>(ZT b λz=>by rw[z,nT] at q;cases q).trans (kb b o q)) nb dt (JP.mp z1).1 z0 λh' f' u'=>k h' f' λb o q nf=>u' b o ((ZT b (QA b o q nf)).trans q) nf
def d7 {B:ϟ}{l:List Env}{e:Ε}{Q:Unit->Ι->Prop}(f:WN B l e cls dc a0 fl s.heap)
  (k:∀h',WN B l e cls dc a0 .none h'->s.heap.UpToSlots h'->Q () { s with heap:=h' }):wpAny M A (setFlight (.ref e) none) Q E s:=by
 obtain⟨kb,nb,ff,oe,vs,T,oT,ts,ge,hc,hdc,dt,z0,z1,nT,nTe,gT,dT,z3⟩:=f;have z3':3 < ts.size:=(JP.mp z3).1;have ZT:∀b,b≠T->(s.heap.update T (JE (·.setIfInBounds 3 ((none:Option Ε).elim be λf=>rawInt f)))).get? b=s.heap.get? b:=λb q=>re _ _ (ω q);have QA:∀b o,s.heap.get? b=some o->(∀ws,o.data≠.fields ws)->b≠T:=λb o q nf z=>by
  subst z;rw[gT] at q;cases q;exact nf ts dT
 unfold setFlight;refine Β (ϫ ge dt z1 ?_);rw[δ (by simp)];refine J5 gT dT z3' (k _ ⟨λb o q=>(ZT b λz=>by rw[z,nT] at q;cases q).trans (kb b o q),nb,ff.of_keeps λb o q nf=>(Κ o ((ZT b (QA b o q nf)).trans q) rfl),?_⟩ λb o q nf=>⟨o.slots,(ZT b (QA b o q nf)).trans q⟩);exact(Ov oe vs T _ _ ((ZT e (ω nTe)).trans ge) hc hdc dt z0 ⟨z1,nT,nTe,IU _ gT (KU (Js dT _)),⟨Js dT _,by simp[z3']⟩⟩)
def WN.pop {B:ϟ}{out:List Env}{e:Ε}{h:ϟ}(f:WN B (env::out) e cls dc a0 fl h):WN B out e cls dc a0 fl h:=
 ⟨f.Ng,f.new,let ⟨_,_,z⟩:=f.aez;z,f.ZS⟩
def v5 {B:ϟ}{out:List Env}{L e:Ε}{Q:Unit->Ι->Prop}
  (fr:A.frames=some (env::out)) (ff:s.heap.FunFrames B (env::out)) (ef:env.frame=some L) (ge:s.heap.get? e=some oe) (kb:B.StaysIn s.heap) (nb:B.get? e=none) (dt:oe.data=.fields vs) (z1:vs[1]?=some .none) (z0:vs[2]?=some a0)
  (k:∀h',WN B out e oe.cls oe.dict a0 .none h'->s.heap.UpToSlots h'->Q () { s with heap:=h' }):wpAny M A (leaving env (.ref e)) Q E s:=by
 unfold leaving;exact Β (ye fr ff ef ge kb nb dt z1 z0 λh1 f1 u1=>d7 f1 λh2 f2 u2=>k h2 f2.pop (u1.trans u2))
def yf {B:ϟ}{out:List Env}{L e:Ε}{Q:Unit->Ι->Prop}
  (fr:A.frames=some (env::out)) (ef:env.frame=some L) (fl:WN B (env::out) e cls dc a0 .none s.heap)
  (k:∀h',WN B out e cls dc a0 .none h'->s.heap.UpToSlots h'->Q () { s with heap:=h' }):wpAny M A (leaving env (.ref e)) Q E s:=by
 unfold leaving;exact Β (tj fr ef fl λh1 f1 u1=>d7 f1 λh2 f2 u2=>k h2 f2.pop (u1.trans u2))
end
end
section
open PySem PySem.Spec PyProof.Rows
structure Bas (l:List Env)(H H':Hp)(h B:ϟ):Prop where
 keep:∀b o,h.get? b=some o->H b=none->b∉NP l->B.get? b=some o
 free:∀b o,h.get? b=some o->H b=none->H' b=none
 there:∀b o,h.get? b=some o->b∉NP l->∃o',B.get? b=some o'
 Nh:∀b xs,H b=some (.tup xs)->H' b=some (.tup xs)
 MV:∀b o u,H b=some (.Ra o u)->H' b=some (.Ra o u)
 Ni:∀b ps,H b=some (.Zc ps)->∃more,H' b=some (.Zc (ps++more))
abbrev Slo (l:List Env)(h h':ϟ):Prop:=∀b o,b∈NP l->h.get? b=some o->∃sl,h'.get? b=some { o with slots:=sl }
structure SW (P:Ϗ)(w:IH)(l:List Env)(H:Hp)(s:Ι)(ea C:Ε)(dx:Option Ε)(fl:Η)(B:ϟ)(H':Hp)(s':Ι):Prop where
 os:s'.os=s.os
 bare:Nz s'.gens
 ZU:WN B l ea (.ref C) dx .none fl s'.heap
 At:NO P w H' B
 ZV:Bas l H H' s.heap B
 slo:Slo l s.heap s'.heap
abbrev Oy (P:Ϗ)(w:IH):Wc:=λl H s E e s'=>∃ea C dx B H',e=.ref ea/\SW P w l H s ea C dx .none B H' s'/\E (.ref C) dx H'
section
variable {P:Ϗ} {l:List Env} {s:Ι} {dx:Option Ε} {B:ϟ}
def SW.Ng (t:SW P w l H s ea C dx fl B H' s'):B.StaysIn s'.heap:=t.ZU.Ng
def SW.held (t:SW P w l H s ea C dx fl B H' s'):NO P w H' s'.heap:=t.At.kept t.Ng
def SW.un (t:SW P w l H s ea C dx fl B H' s'):Un (NP l) [] H H' s.heap s'.heap where
 keep:=λb o e n hb _=>t.Ng b o (t.ZV.keep b o e n hb)
 slot:=λb o e _ hb _=>t.slo b o hb e
 free:=λb o e n _=>t.ZV.free b o e n
 there:=λb o e _=>by
  by_cases hb:b∈NP l
  ·obtain⟨sl,q⟩:=t.slo b o hb e;exact⟨_,q⟩
  ·obtain⟨o',q⟩:=t.ZV.there b o e hb;exact⟨o',t.Ng b o' q⟩
 Nh:=t.ZV.Nh
 MV:=t.ZV.MV
 Ni:=t.ZV.Ni
def Ux {X:Cx}:Passes (Oy P w) X E0:=λ_ _ _ _ _ _ _ ⟨_,_,_,_,_,_,_,h⟩=>h.elim
end
section
variable {X:Cx} {s:Ι} {dx:Option Ε} {B:ϟ}
def Inv.low (I:Inv X pins σ H s){o:Obj}(e:X.s₀.heap.get? b=some o)(hb:b∉NP X.outer):b∉NP X.stack:=λz=>by
 rcases Θ.mp (I.P9 b z) with r | r
 ·exact absurd (γ e) (by rw[r];exact NI.mpr I.ok.above)
 ·exact hb r
def Bas.out (I:Inv X pins σ H s)(hex:X.ex=[])(t:Bas X.stack H H' s.heap B):Bas X.outer X.H₀ H' X.s₀.heap B where
 keep:=λb o e n hb=>t.keep b o (I.base.keep b o e n hb (by rw[hex];simp)) (I.base.free b o e n (by rw[hex];simp)) (I.low e hb)
 free:=λb o e n=>by
  obtain⟨o',q⟩:=I.base.there b o e (by rw[hex];simp);exact t.free b o' q (I.base.free b o e n (by rw[hex];simp))
 there:=λb o e hb=>by
  obtain⟨o',q⟩:=I.base.there b o e (by rw[hex];simp);exact t.there b o' q (I.low e hb)
 Nh:=λb xs q=>t.Nh b xs (I.base.Nh b xs q)
 MV:=λb o u q=>t.MV b o u (I.base.MV b o u q)
 Ni:=λb ps q=>by
  obtain⟨m1,e1⟩:=I.base.Ni b ps q;obtain⟨m2,e2⟩:=t.Ni b _ e1;exact⟨m1++m2,by rw[e2,Wu]⟩
def Inv.inner (I:Inv X pins σ H s)(hb:b∈NP X.outer):b∈NP X.stack:=by
 rcases I.ok.stk with e | ⟨e,hf⟩
 ·rw[e];exact hb
 ·rw[e]
  unfold NP;rw[Lv,hf];exact ε _ hb
def Slo.out {h':ϟ}(I:Inv X pins σ H s)(hex:X.ex=[])(t:Slo X.stack s.heap s'.heap)(u:s'.heap.UpToSlots h'):Slo X.outer X.s₀.heap h':=λb o hb e=>by
 (refine MU (I.ok.NU.mem hb) λ_=>Ϟ λo1 ho1 nf=>?_);rw[e] at ho1;cases ho1;obtain⟨sl,e1⟩:=I.base.slot b o e (I.ok.XJ b hb) hb (by rw[hex];simp);obtain⟨sl2,e2⟩:=t b _ (I.inner hb) e1;obtain⟨sl3,e3⟩:=u b _ e2 nf;exact⟨sl3,e3⟩
end
section
variable {P:Ϗ} {K:Ξ} {base:ϟ} {N:List Str} {s:Ι} {E:XK}
def Jm:Passes (Oy P w) (NW (Oy P w) P w K mg base N qual scope f cd A outer s H E) E:=by
 rintro pins σ H1 s1 e s' I ⟨ea,C,dx,B,H',rfl,T,q⟩
 have fl:=T.ZU;show wpAny _ _ (leaving _ _) _ _ _;refine yf I.ok.frames rfl fl λh2 f2 u2=>(LD ea C dx (ϒ B H' rfl ⟨T.os.trans I.os,T.bare,f2,T.At,T.ZV.out I rfl,T.slo.out I rfl u2⟩ q))
end
noncomputable abbrev NF (C t:Ε)(dx:Option Ε):Obj:={ cls:=.ref C,dict:=dx,data:=.fields #[.ref t,.none,.none,.none,.bool false,.none] }
abbrev xo (ea C t:Ε)(dx:Option Ε):HO:=.ext λh=>h.get? ea=some (NF C t dx)
def FA {P:Ϗ}{h:ϟ}{t:Ε}{dx:Option Ε}(e:h.get? ea=some (NF C t dx)):EQ P w H h ea (xo ea C t dx):=
 ⟨e,⟨_,e⟩,λ_ _ q k=>k _ q⟩
def uH {P:Ϗ}{h:ϟ}{t:Ε}{dx:Option Ε}(x:NO P w H h)(e:H ea=some (xo ea C t dx)):h.get? ea=some (NF C t dx):=
 (show EQ P w H h ea (xo ea C t dx) from x _ _ e).1
abbrev del (H:Hp)(a:Ε):Hp:=λb=>if b=a then none else H b
def dG (h:b≠a):del H a b=H b:=by unfold del;rw[Υ h]
def qo:del H a a=none:=by unfold del;rw[δ rfl]
abbrev WO (X:Cx)(E:XK):Prop:=∀(pins:List (Ε×Obj)) (σ:St) (H:Hp) (s:Ι) (ea C t:Ε) (dx:Option Ε),Inv X pins σ H s->H ea=some (xo ea C t dx)->X.s₀.heap.objs.size<=ea->E (.ref C) dx (del H ea)->X.xe (.ref ea) s
section
variable {X:Cx} {s:Ι} {t:Ε} {dx:Option Ε}
abbrev Rv (X:Cx)(s:Ι)(ea:Ε):ϟ:=aus s.heap (ea::NP X.stack)
def GC (I:Inv X pins σ H s)(he:H ea=some (xo ea C t dx)):NO X.prog X.w (del H ea) (Rv X s ea):=λb u q=>by
 have nb:b≠ea:=λz=>by rw[z,qo] at q;cases q
 rw[dG nb] at q;have U2:∀c y,H c=some (.own y)->c≠ea:=λc y r z=>by rw[z,he] at r;cases r
 have abj:∀c xs,H c=some (.tup xs)->c≠ea:=λc xs r z=>by rw[z,he] at r;cases r
 have nfr:∀c u,H c=some u->c∉NP X.stack:=λc u r z=>by rw[I.Rs c z] at r;cases r
 refine(I.At b u q).Ng (λc v hc r=>PZ _ r λm=>?_) (λc r=>by rw[dG (U2 c b r)];exact r) λc xs r=>by rw[dG (abj c xs r)];exact r
 rcases Θ.mp m with z | z
 ·rcases hc with r' | r'
  ·exact nb (r'.symm.trans z)
  ·exact U2 c b r' z
 ·rcases hc with r' | r'
  ·rw[r'] at z;exact nfr b u q z
  ·exact nfr c _ r' z
def GD (I:Inv X pins σ H s)(hex:X.ex=[])(he:H ea=some (xo ea C t dx))(hn:X.s₀.heap.objs.size<=ea):Bas X.outer X.H₀ (del H ea) X.s₀.heap (Rv X s ea) where
 keep:=λb o e n hb=>PZ _ (I.base.keep b o e n hb (by rw[hex];simp)) λm=>by
  rcases Θ.mp m with z | z
  ·exact absurd (γ e) (by rw[z];exact NI.mpr hn)
  ·exact I.low e hb z
 free:=λb o e n=>by
  rw[dG λz=>absurd (γ e) (by rw[z];exact NI.mpr hn)];exact I.base.free b o e n (by rw[hex];simp)
 there:=λb o e hb=>by
  obtain⟨o',q⟩:=I.base.there b o e (by rw[hex];simp);refine⟨o',PZ _ q λm=>?_⟩;rcases Θ.mp m with z | z
  ·exact absurd (γ e) (by rw[z];exact NI.mpr hn)
  ·exact I.low e hb z
 Nh:=λb xs q=>by
  have r:=I.base.Nh b xs q;rw[dG λz=>by rw[z,he] at r;cases r];exact r
 MV:=λb o u q=>by
  have r:=I.base.MV b o u q;rw[dG λz=>by rw[z,he] at r;cases r];exact r
 Ni:=λb ps q=>by
  obtain⟨m,r⟩:=I.base.Ni b ps q;exact⟨m,by rw[dG λz=>by rw[z,he] at r;cases r];exact r⟩
def EL (I:Inv X pins σ H s):s.heap.FunFrames (Rv X s ea) X.stack:=by
 refine W.funFrames_hide I.stack λenv hm a e=>ε _ ?_;exact Pi.mpr (Κ env hm e)
end
section
variable {P:Ϗ} {K:Ξ} {base:ϟ} {N:List Str} {s:Ι} {E:XK}
def Yy:WO (NW (Oy P w) P w K mg base N qual scope f cd A outer s H E) E:=by
 intro pins σ H1 s1 ea C t dx I he hn q;have ge:=uH I.At he;show wpAny _ _ (leaving _ _) _ _ _;refine v5 (B:=Rv _ s1 ea) I.ok.frames (EL I) rfl ge (λb o z=>afK _ z) (acI _ zn) rfl rfl rfl λh2 f2 u2=>?_;exact(LD ea C dx (ϒ _ _ rfl ⟨I.os,I.bare,f2,GC I he,GD I rfl he hn,Slo.out I rfl (λb o _ e=>⟨o.slots,e⟩) u2⟩ q))
end
section
variable {P:Ϗ} {K:Ξ} {base:ϟ}
def WG.Rw {st:ϙ}{N ps:List Str}{k:Nat}(F:WG K x qual st f fd)(S:η N ps (Λ st))(len:∀vs H Q E,sp vs H Q E->vs.length=ps.length)
  (MX:∀(Ϲ:Η) (A:K') (outer:List Env) (s:Ι) (H:Hp) (vs:List V) (Q:VK) (E:XK),Jf k (A.deeper (envOfC qual (Λ st) s.heap.objs.size f Ϲ))->sp vs H Q E->
   ∃t,Rt (NW (Oy P w) P w K mg base N qual (Λ st) f Ϲ A outer s H E) (Da st) t/\t { nx:=λ_ H'=>Q .cr H',rt:=Q } (start N vs) H):Ϥ P w K mg base (Oy P w) (k+1) f fd ps sp:=by
 (refine P8 F.ex λoc od kV doc pm an=>Kx λϹ ct SR Τ lk SU=>?_;subst Τ);exact zD lk SU S len λA outer s H vs Q E hr Rb=>MX Ϲ A outer s H vs Q E hr Rb
end
end
section
open PySem PySem.Spec PyProof.Rows Builtin Builtin.ObjectAttr
abbrev Po:List Η:=[.type "ValueError",.type "Exception",.type "BaseException",.type "object"]
abbrev QB:List Η->Bool
 | .ref _::r=>QB r
 | l=>l == Po
def jq:∀{l:List Η},QB l=true->∃rs:List Ε,l=rs.map π++Po
 | [],h=>by cases h
 | v::r,h=>by
  cases v with
  | ref a=>
   obtain⟨rs,e⟩:=jq (l:=r) h;exact⟨a::rs,by rw[e];rfl⟩
  | _=>exact⟨[],Q6.mp h⟩
def v7 {X:String}{b:Bool}(e:Po.contains (.type X)=b):∀rs:List Ε,(rs.map π++Po).contains (.type X)=b
 | []=>e
 | a::r=>by
  rw[ο,ii,F',v7 e r];rfl
def dH {l:List Η}(h:QB l=true){X:String}{b:Bool}(e:Po.contains (.type X)=b):l.contains (.type X)=b:=by
 obtain⟨rs,rfl⟩:=jq h;exact v7 e rs
def yg (self:Η){l:List Η}(h:QB l=true):refuseLoop self "__setattr__" l=pure ():=by
 obtain⟨rs,rfl⟩:=jq h;clear h
 induction rs with
 | nil=>exact PySem.F.store_ValueError.passes self
 | cons a r ih=>rw[ο,ii,afW];exact ih
abbrev xIn (K:Ξ)(C:Ε):Bool:=match K.lookup C with
 | some ⟨.type "type",_,.cls cd,sl⟩=>(match cd.mro,sl.toList with
  | .ref C'::bm,[_,_,_,_,some (.builtin n),_]=>C' == C && (!cd.hasDel && (cd.hasDict && (QB bm && n == "ValueError.__new__")))
  | _,_=>false)
 | _=>false
def ma {K:Ξ}(q:xIn K C=true):∃nm qn N bs bm sn sub ab col dd k0 k1 k2 k3 k5,
  K.lookup C=some (excClassObj nm qn C N bs bm true sn sub ab col dd k0 k1 k2 k3 k5 "ValueError.__new__")/\QB bm=true:=by
 unfold xIn at q
 split at q
 ·rename_i dd cd sl ho
  split at q
  ·rename_i C' bm k0 k1 k2 k3 n k5 hm hs
   simp only[Ϣ,Q6,P4] at q;(revert q;refine MD λΤ q1 q2 q3 IK=>?_;subst Τ;subst IK);obtain⟨nm,bs,mro,ns,qn,hd,sn,sub,ab,col,de⟩:=cd;dsimp only at hm q1 q2;subst hm q1 q2;obtain⟨sl⟩:=sl;dsimp only at hs;subst hs;exact(Nf nm qn ns bs bm sn (Nf sub ab col dd k0 k1 (RH k2 k3 k5 ho q3)))
  ·cases q
 ·cases q
structure Uy (K:Ξ)(C:Ε):Prop where
 x:xIn K C=true
 kp:Jg K (.ref C)=true
 sa:GE K (.ref C) "__setattr__"=some (some (.builtin "object.__setattr__"))
 ga:GE K (.ref C) "__getattribute__"=some (some (.builtin "BaseException.__getattribute__"))
 gn:GE K (.ref C) "__getattr__"=some none
 hd:SY K C=true
section
variable {M:M7} {h:ϟ} {g:Array M6} {d:Y0} {t:Nat} {os:Xo}
variable {nm:Str} {N:Ε} {bs:List Η} {k0 k1 k2:Option Η}
def EM {us:List Η}{Q:Unit->Ι->Prop}(hC:h.get? C=some (excClassObj nm qn C N bs bm adA sn sub ab col dd k0 k1 k2 k3 k5 "ValueError.__new__"))(ho:QB bm=true)
  (q:Q () ⟨h,g,d,t,os⟩):wpAny M A (checkBuiltinCall "ValueError.__new__" ⟨.ref C::us,[]⟩) Q E ⟨h,g,d,t,os⟩:=by
 have F:=PySem.F.excBase_ValueError;have c1:(π C::bm).contains (.type "ValueError")=true:=by rw[F',dH ho (b:=true) (by decide),LA]
 have st:=F.noStar;simp only[checkBuiltinCall,F.newKind,F.newSplit,F.newRow]
 repeat (first | (refine Jh hC ?_) | (refine MC hC ?_;rw[c1]) | (refine wpAny_staticBase_exc hC ?_) | (refine acP hC ?_) | (simp only[bne_self_eq_false,W3,if_false]) | wp_step)
 exact q
end
section
variable {h:ϟ} {g:Array M6} {d:Y0} {t:Nat} {os:Xo}
variable {nm:Str} {N:Ε} {bs:List Η} {k0 k1 k2:Option Η}
noncomputable abbrev Uz (us:List Η):Obj:={ cls:=.type "tuple",data:=.seq us.toArray }
def HC {us:List Η}(hC:h.get? C=some (excClassObj nm qn C N bs bm adA sn sub ab col dd k0 k1 k2 k3 k5 "ValueError.__new__"))(ho:QB bm=true)
  (q:R (.ok (.ret (.ref (h.objs.size+1)))) ⟨(h.push (Uz us)).push (NF C h.objs.size none),g,d,t,os⟩) (hl:us.length<=sizeLine) :
  codeAny (model prog w) A (.builtin "ValueError.__new__" ⟨.ref C::us,[]⟩) R ⟨h,g,d,t,os⟩:=by
 have F:=PySem.F.excBase_ValueError;have en:=F.ends;have c1:(π C::bm).contains (.type "ValueError")=true:=by rw[F',dH ho (b:=true) (by decide),LA]
 have c2:(π C::bm).contains (.type "AttributeError")=false:=by rw[F',dH ho (b:=false) (by decide)];rfl
 have c3:(π C::bm).contains (.type "NameError")=false:=by rw[F',dH ho (b:=false) (by decide)];rfl
 refine codeAny_builtinAt F.entry ?_;unfold Lz.«BaseException.__new__»;refine PySem.wpAt_bind ?_;show PySem.wpAt _ _ _ (stack >>= _) _ _ _;refine PySem.wpAt_bind (PySem.wpAt_stack λ_ _=>PySem.wpAt_of_wpAny ?_)
 wp_walk
 refine PySem.wpAt_of_wpAny ?_;rw[F.owner]
 repeat (first | (with_reducible refine wpAny_madeHere_exc F.canon hC ?_) | (with_reducible refine Jh hC ?_) | (with_reducible refine MC hC ?_;first | rw[c1] | rw[c2] | rw[c3]) | wp_step)
 show R _ _;rw[ϣ];exact q
def EN {K:Ξ}{hh:ϟ}{us:List Η}{Q:Fin->Ι->Prop}(X:K.In hh)(c:Uy K C)(hi:GE K (.ref C) "__init__"=some (some (.ref f)))(hf:SJ K (.ref f)=true)(hl:us.length<=sizeLine)
  (hq:wpAny (model prog w) A (call (.ref f) (.ref (hh.objs.size+1)::us)) (λr s'=>r=.none/\Q (.done (.ret (.ref (hh.objs.size+1)))) s') E ⟨(hh.push (Uz us)).push (NF C hh.objs.size none),g,d,t,os⟩) :
  wpAny (model prog w) A (Lz.«type.__call__» ⟨.ref C::us,[]⟩) Q E ⟨hh,g,d,t,os⟩:=by
 (refine P8 (ma c.x) λnm qn N bs bm sn=>JY λsub ab col dd k0 k1=>Ka λk2 k3 k5 hK ho=>?_);have hC:=X _ _ hK;have F:=PySem.F.excBase_ValueError;have k:∀b o,hh.get? b=some o->((hh.push (Uz us)).push (NF C hh.objs.size none)).get? b=some o:=λb o e=>Δ _ (Δ _ e)
 repeat (first | (with_reducible refine Jh hC ?_) | (with_reducible refine acP hC ?_) | wp_step)
 refine codeAny_call_builtin_code (LW _ F.quiet) (EM hC ho ?_);refine HC hC ho ?_ hl;show wpAny _ _ _ _ _ _;have hC1:=k _ _ hC;have hx:((hh.push (Uz us)).push (NF C hh.objs.size none)).get? (hh.objs.size+1)=some ({ cls:=.ref C,dict:=none,data:=.fields #[.ref hh.objs.size,.none,.none,.none,.bool false,.none] }:Obj):=by heap_get
 have c4:(π C::bm).contains (.ref C)=true:=by simp
 unfold isInstance
 repeat (first | (with_reducible refine Jh hx ?_) | (with_reducible refine MC hC1 ?_;rw[c4]) | wp_step)
 show wpAny _ _ (typeLookup (.ref C) _) _ _ _;refine((MP X hi).keeps k).at ?_;refine ID (Β (((auw X (.ref (hh.objs.size+1)) (Q6.mp hf)).keeps k).at ?_));refine Β (ul hq (λr s' z=>?_) λ_ _ z=>z);obtain⟨rfl,z⟩:=z
 wp_walk
 exact z
def GF {K:Ξ}{s:Ι}{us:List Η}{Q:Η->Ι->Prop}(X:K.In s.heap)(c:Uy K C)(hi:GE K (.ref C) "__init__"=some (some (.ref f)))(hf:SJ K (.ref f)=true)(hl:us.length<=sizeLine)
  (hq:wpAny (model prog w) (A.under (.builtin "type.__call__" ⟨.ref C::us,[]⟩)) (call (.ref f) (.ref (s.heap.objs.size+1)::us)) (λr s'=>r=.none/\Q (.ref (s.heap.objs.size+1)) s') E
   { s with heap:=(s.heap.push (Uz us)).push (NF C s.heap.objs.size none) }):wpAny (model prog w) A (call (.ref C) us) Q E s:=by
 obtain⟨hh,g,d,t,os⟩:=s;(refine P8 (ma c.x) λnm qn N bs bm sn=>JY λsub ab col dd k0 k1=>Ka λk2 k3 k5 hK ho=>?_);have hC:=X _ _ hK;dsimp only at hC;have f1:=tc_lookup;have f2:=tc_bind (.ref C);have hT:(⟨hh,g,d,t,os⟩:Ι).TypeIs (.ref C) "type":=(Κ _ hC rfl)
 refine KC (UO ?_);show wpAny _ _ (callAny (.ref C) _) _ _ _
 repeat (any_goals (first | assumption | (with_reducible refine Jh hC ?_) | wp_step))
 refine⟨rfl,?_⟩;exact codeAny_call_builtin_at (LW _ (s!"d")) entry_typeCall (wpAny_check_type_call_sub hC (EN X c hi hf hl hq))
end
section
variable {s:Ι} {K:Ξ} {x:Ε} {v:Η}
def HD {ox:Obj}{od:Option Obj}{expr:Bool}{Q:Η->Ι->Prop}(X:K.In s.heap)(I:Ro s.heap x ox C od)(c:xIn K C=true)(hga:GE K (.ref C) "__getattribute__"=some (some (.builtin "BaseException.__getattribute__")))(hgn:GE K (.ref C) "__getattr__"=some none)
  (hf:W.findObj K C od name=some (.value v)) (hh:Y4 v=true) (h:Q v { s with toks:=s.toks+1 }):wpAny (model prog w) A (getAttr (.ref x) name expr) Q E s:=by
 obtain⟨h0,g,d,t,os⟩:=s;(refine P8 (ma c) λnm qn N bs bm sn=>JY λsub ab col dd k0 k1=>Ka λk2 k3 k5 hK ho=>?_);have L0:=I.type (M:=model prog w);have L1:=MP (M:=model prog w) X hga;have L2:=MP (M:=model prog w) X hgn;have L3:=W.looks_find (M:=model prog w) X I hf;unfold getAttr getAttrBy;refine Β (wpAny_mkText (ID (Β (L0.at (Β (L1.at ?_))))));show wpAny _ _ (getAttrByItsOwn _ _ _ _ _ _) _ _ _;unfold getAttrByItsOwn;have G:=PySem.F.excAttr_ValueError.ga;have e1:callGetattribute (.ref x) (.str name t) (.builtin "BaseException.__getattribute__") expr=boundAndCalled (.builtin "BaseException.__getattribute__") (.ref x) (.str name t):=by
  unfold callGetattribute;cases expr<;>rfl
 have LB:Wz (model prog w) h0 (isInstance (.ref x) (.type "BaseException")) true:=L0.andThen (adu X (by
  obtain⟨cd,hc,hcm⟩:∃cd,Zv K C=some cd/\cd.mro=.ref C::bm:=(Κ _ (by unfold Zv;rw[hK]) rfl)
  unfold afO
  rw[hc,W4,hcm,Υ (by simp),F',dH ho (b:=true) (by decide),LA]))
 refine Β (show wpAny _ _ (typeLookup (.ref C) "__getattr__") _ _ _ from L2.at ?_);refine Β (Kq (ID ?_));rw[e1];unfold boundAndCalled;rw[G.bind];refine Β (ν (KC (J8 G.plain PySem.F.entry_bexc_ga (@afX (model prog w) _ _ ⟨h0,g,d,t+1,os⟩ "BaseException.__getattribute__" "BaseException" "__getattribute__" (.ref x) [.str name t] [] _ (s!"d") (s!"d") LB (PySem.F.args_bexc_ga _ _) ?_))));refine Β (ν (Β (ν (Β (L0.at (Β (L3.at ?_)))))));refine ν ?_;show wpAny _ _ (handedOut v) _ _ _;rw[W.handedOut_of hh];exact ν h
end
end
section
open PySem PySem.Spec PyProof.Rows Builtin Builtin.ObjectAttr
abbrev Yz (d:Ε)(fs:List (Str×V)):HO:=.ext λh=>∃mA,h.Ns1 d mA/\∀f,K0 (fs.lookup f) (mA f)
def Dq {P:Ϗ}{h:ϟ}{fs:List (Str×V)}(e:h.Ns1 d mA)(r:∀f,K0 (fs.lookup f) (mA f)):EQ P w H h d (Yz d fs):=by
 refine⟨(Κ mA e r),?_,λh1 h2 ⟨m,e1,r1⟩ k=>(Κ m ?_ r1)⟩
 ·(revert e;refine Ka λo _ _ e1 _=>?_)
  exact⟨o,e1⟩
 ·exact e1.at k
def zO {P:Ϗ}{h:ϟ}{fs:List (Str×V)}(x:NO P w H h)(e:H d=some (Yz d fs)):∃mA,h.Ns1 d mA/\∀f,K0 (fs.lookup f) (mA f):=
 (show EQ P w H h d (Yz d fs) from x _ _ e).1
def A8 {fs:List (Str×V)}(r:∀f,K0 (fs.lookup f) (mA f)):PySem.Within mA (fs.map (·.1)):=λy hy=>by
 cases e:fs.lookup y with
 | none=>
  have:=r y;rw[e] at this;exact absurd (K0.none_of this) hy
 | some v=>exact τ.mpr (Κ (y,v) (PySem.mem_of_lookup e) rfl)
section
variable {s:Ι} {K:Ξ} {x t:Ε} {v:Η}
def FC {ox:Obj}{od:Option Obj}{tk:Tok}(X:K.In s.heap)(I:Ro s.heap x ox C od)(c:Uy K C)(ht:Pj K C name=some none)
  (h:∀b,wpAny (model prog w) A.in1 (storeInOwnDict (.ref x) (.ref C) (.str name tk) name v b)
   (λfin s'=>match fin with | .done f=>R (.ok f) s' | .again c'=>c'.quiet=true/\codeAny (model prog w) A c' R s') (λe s'=>R (.error e) s') s) :
  codeAny (model prog w) A (.call (.builtin "object.__setattr__") ⟨[.ref x,.str name tk,v],[]⟩) R s:=by
 have SF:=PySem.F.store_object;(refine P8 (ma c.x) λnm qn N bs bm sn=>JY λsub ab col dd k0 k1=>Ka λk2 k3 k5 hK ho=>?_);obtain⟨cd,hc,hcm⟩:∃cd,Zv K C=some cd/\cd.mro=.ref C::bm:=(Κ _ (by unfold Zv;rw[hK]) rfl)
 have Uu:Wz (model prog w) s.heap (isInstance (.ref x) (.type "object")) true:=I.type.andThen (adu X (by
  unfold afO;rw[hc,W4,hcm,Υ (by simp)]
  rw[F',dH ho (b:=true) (by decide),LA]))
 refine J8 SF.slot.plain SF.entry (@afX (model prog w) _ _ s "object.__setattr__" "object" "__setattr__" (.ref x) [.str name tk,v] [] _ SF.kind SF.split Uu (SF.args (.ref x) (.str name tk) v) ?_);(refine ρ (az7.mp ht) λattr ha hr=>?_);have hm:Wz (model prog w) s.heap (mroOf (.ref C)) (.ref C::bm):=hcm▸(P0 X hc).andThen .now;have L3:Wz (model prog w) s.heap (storeTaker? attr) none:=by
  cases attr with
  | none=>cases hr;exact .now
  | some a=>
   (refine ρ (Ϙ.mp hr) λb hb e=>?_);cases b with
   | true=>cases e
   | false=>exact(W.looks_takesIn X hb).andThen .now
 rw[W.osa_eq,refuse_eq];refine Β (Β (I.type.here (Β (hm.here ?_))));rw[afW,yg _ ho];refine ν (Β (I.type.here (Β ((MP X ha).here (Β (L3.here ?_))))));exact h _
def GG {Q:Unit->Ι->Prop}(X:K.In s.heap)(hx:s.heap.get? x=some (NF C t none))(c:Uy K C)(ht:Pj K C name=some none)
  (h:∀h' tk,h'.Ns1 s.heap.objs.size (λy=>if y=name then some v else none)->h'.get? x=some (NF C t (some s.heap.objs.size))->(∀b o,b≠x->s.heap.get? b=some o->h'.get? b=some o)->Q () { s with heap:=h',toks:=tk }) :
  wpAny (model prog w) A (setAttr (.ref x) name v) Q E s:=by
 have J:Ro s.heap x (NF C t none) C none:=⟨hx,rfl,rfl,trivial⟩
 refine Xu X J c.sa (FC (s:={ s with toks:=s.toks+1 }) X J c ht λb=>?_);(refine ρ (Y5 c.hd) λcd hc hd=>?_);obtain⟨hh,g,dr,tk,os⟩:=s;dsimp only at hx X h ⊢;refine Β (ν (Β (Β (VQ hx (Β (Ki (s:=⟨hh,g,dr,tk+1,os⟩) (P0 X hc) ?_))))));rw[hd];have ZW:(hh.push IE).get? x=some (NF C t none):=Δ _ hx;have nx:x≠hh.objs.size:=ϐ (γ hx);refine Β (wpAny_alloc' (Β (wpAny_update' ZW (ν (Β (ν (Β ?_)))))));have gd:((hh.push IE).update x λo=>{ o with dict:=some hh.objs.size }).get? hh.objs.size=some IE:=
  (WA _ _ _ _ (ω nx)).trans (Heap.get?_push_at rfl rfl)
 have nd:((hh.push IE).update x λo=>{ o with dict:=some hh.objs.size }).Ns hh.objs.size (λ_=>none):=(lc _ (#[]) _ gd rfl (λe he=>absurd he (by simp)) (λ_=>rfl))
 refine Xv (VR nd) λh' n' sb=>?_;(refine abh (n'.count (aar name v az8)) λoD esD epD hoD hdD hcD=>?_);refine Β (Tj hoD (by rw[hdD];exact Tk (ζ hcD (by rw[Ψ,ϕ,KH];omega))) ?_);refine ν (h h' _ n' ?_ λb o hb e=>?_)
 ·refine(sb.2 x nx).trans ?_
  exact IU _ ZW rfl
 ·exact(sb.2 b (ϐ (γ e))).trans ((WA _ _ _ _ hb).trans (Δ _ e))
def GH {ns:List Str}{Q:Unit->Ι->Prop}(X:K.In s.heap)(hx:s.heap.get? x=some (NF C t (some dx)))(hn:s.heap.Ns1 dx mA)(ne:dx≠x)(c:Uy K C)(ht:Pj K C name=some none)
  (hw:PySem.Within mA ns) (hz:ns.length<=1000) (h:∀h' tk,h'.Ns1 dx (λy=>if y=name then some v else mA y)->Ly dx s.heap h'->Q () { s with heap:=h',toks:=tk }) :
  wpAny (model prog w) A (setAttr (.ref x) name v) Q E s:=by
 (refine ρ (nA hn) λod ho _=>?_);have J:Ro s.heap x (NF C t (some dx)) C (some od):=⟨hx,rfl,rfl,ho⟩
 refine Xu X J c.sa (FC (s:={ s with toks:=s.toks+1 }) X J c ht λb=>?_);(refine ρ (Y5 c.hd) λcd hc hd=>?_);refine Β (ν (Β (Β (VQ hx (Β (Ki (s:={ s with toks:=s.toks+1 }) (P0 X hc) ?_))))));rw[hd];refine ν (a:=some dx) (Β (ν (Β ?_)));refine Xv (s:={ s with toks:=s.toks+1 }) hn λh' n' sb=>?_;(refine abh (n'.count (aar name v hw)) λoD esD epD hoD hdD hcD=>?_);refine Β (Tj hoD (by rw[hdD];exact Tk (ζ hcD (by rw[Ψ,KH];omega))) ?_);exact ν (h h' _ n' sb)
end
abbrev sXs (K:Ξ)(ta tv:TE)(f:Str):TS:=λD σ H=>tv σ H λy H1=>ta σ H1 λx H2=>∃ea C t,x=.ref ea/\Uy K C/\wE K C f/\
 ((H2 ea=some (xo ea C t none)/\∀d,H2 d=none->d≠ea->D.nx σ (upd (upd H2 d (Yz d [(f,y)])) ea (xo ea C t (some d))))\/
  ∃d fs,d≠ea/\H2 ea=some (xo ea C t (some d))/\H2 d=some (Yz d fs)/\fs.length<=100/\D.nx σ (upd H2 d (Yz d (MW f y fs))))
section
variable {X:Cx} {o:bv} {f:Str}  
def EO (ha:PE X o ta)(hv:PE X value tv)(hs:swapsWith value (some (.Attribute o f pos')) pos.line X.env=pure false):PS X (.Assign [.Attribute o f pos'] value pos) (sXs X.K ta tv f):=by
 intro pins s σ H D I h;refine SZ (IJ (hv pins s σ H _ I h) λu s1 y H1 I1 ry q=>J2 (ha pins s1 σ H1 _ I1 q) λov s2 zz=>KA zz λx H2 I2 rx=>Q8 λea C t ex c n q2=>?_) hs;subst ex;obtain rfl:ov=π ea:=rx;rcases q2 with⟨he,q3⟩ | ⟨d,fs,nd,he,hd,hl,q3⟩
 ·have ge:=uH I2.At he
  refine GG I2.LZ ge c n.Yf λh' tk n' gx k=>?_;have hfr:H2 s2.heap.objs.size=none:=I2.At.fresh (Φ _);have nde:s2.heap.objs.size≠ea:=xL (γ ge);refine(gl σ _ (I2.un (t':=tk) (h':=h') ?_ ?_) (q3 _ hfr nde))
  ·have ne1:∀b,H2 b=none->b≠ea:=λb e z=>by rw[z,he] at e;cases e
   have kp:∀b o,s2.heap.get? b=some o->H2 b=none->h'.get? b=some o:=λb o e n=>k b o (ne1 b n) e;refine⟨λb o e n _ _=>kp b o e n,λb o e n _ _=>⟨o.slots,kp b o e n⟩,λb o e n _=>?_,λb o e _=>?_,λb xs e=>?_,λb o u e=>?_,λb ps e=>⟨#[],?_⟩⟩
   ·rw[aj (ne1 b n),aj (ϐ (γ e))];exact n
   ·by_cases hb:b=ea
    ·rw[hb];exact⟨_,gx⟩
    ·exact⟨o,k b o hb e⟩
   ·rw[aj (jj e he (by unfold xo;intro z;cases z)),aj (aD e hfr)];exact e
   ·rw[aj (jj e he (by unfold xo;intro z;cases z)),aj (aD e hfr)];exact e
   ·rw[aj (jj e he (by unfold xo;intro z;cases z)),aj (aD e hfr),e];simp
  ·intro b u e
   by_cases hb:b=ea
   ·subst hb;rw[ae] at e;cases e;exact FA gx
   ·rw[aj hb] at e
    by_cases hb2:b=s2.heap.objs.size
    ·subst hb2;rw[ae] at e;cases e
     refine Dq n' λg=>?_;show K0 (I8 g [(f,y)]) (if g=f then some u else none)
     by_cases z:g=f
     ·subst z;rw[δ rfl];simp only[I8,beq_self_eq_true];exact ry
     ·have zb:(g == f)=false:=Iw.mpr z
      rw[Υ z];simp only[I8,zb];trivial
    ·rw[aj hb2] at e
     have nc:∀c z,H2 c=some z->(∀φ,z≠.ext φ)->c≠ea/\c≠s2.heap.objs.size:=λc z r hz=>⟨λw'=>by rw[w',he] at r;exact hz _ (ϗ r).symm,aD r hfr⟩
     refine(I2.At b u e).Ng (λc v hc r=>k c v ?_ r) (λc r=>?_) λc xs r=>?_
     ·rcases hc with z | z
      ·rw[z];exact hb
      ·exact(nc c _ z (λφ w'=>by cases w')).1
     ·rw[aj (nc c _ r (λφ w'=>by cases w')).1,aj (nc c _ r (λφ w'=>by cases w')).2];exact r
     ·rw[aj (nc c _ r (λφ w'=>by cases w')).1,aj (nc c _ r (λφ w'=>by cases w')).2];exact r
 ·have ge:=uH I2.At he
  (refine ρ (zO I2.At hd) λmA hn hr=>?_);refine GH I2.LZ ge hn nd c n.Yf (A8 hr) (by rw[Ζ];omega) λh' tk n' sb=>?_;refine(gl σ _ (I2.write (x:=d) (e:=d) (t':=tk) (h':=h') (by rw[hd];exact IF) (.inl rfl) (λb o hb e=>(sb.2 b hb).trans e) ?_ (Dq n' λg=>?_)) q3)
  ·(revert n';refine Ka λo _ _ e _=>?_);exact⟨o,e⟩
  ·show K0 ((MW f y fs).lookup g) (if g=f then some u else mA g)
   rw[jm]
   by_cases z:g=f
   ·rw[δ z,δ z];exact ry
   ·rw[Υ z,Υ z];exact hr g
end
abbrev Dr (C:Ε)(names:List Str):Sp:=λvs H Q _=>∃(ea t:Ε) (ys:List V),vs=.ref ea::ys/\ys.length=names.length/\H ea=some (xo ea C t none)/\
 ∀d H',H d=none->d≠ea->(∀b,b≠d->b≠ea->H' b=H b)->H' ea=some (xo ea C t (some d))->H' d=some (Yz d (names.zip ys))->Q .cr H'
abbrev abW (C:Ε)(names:List Str)(E:XK)(t:TA):TS:=λ_ σ H=>t σ H λys H1=>ys.length=names.length/\∀d H',H1 d=none->Χ H1 H'->H' d=some (Yz d (names.zip ys))->E (.ref C) (some d) H'
section
variable {X:Cx} {k:Nat} {ps names:List Str} {E:XK}     
def v9 (c:Uy X.K C)(hi:GE X.K (.ref C) "__init__"=some (some (.ref f)))(hf:SJ X.K (.ref f)=true)(F:Ϥ X.prog X.w X.K X.mg X.base IL k f fd ps (Dr C names))(hr:Jf (k+1) X.A)
  (hg:Gl X x) (hm:X.mg x=some (.ref C)) (hb:Binds X.K fd ps []) (hnl:names.length<=100) (hx:WO X E) (ha:PA X (e::es) t) (S8:autoParam ((x == ("__debug__":Str))=false) L2.Kh._auto_1)
  (Nk:autoParam (starEach (e::es) X.env=(false,eval e X.env)::starEach es X.env) L2.Ϩ._auto_1) (NV:autoParam ((backTo JS (starEach es X.env)).any (·.1)=false) L2.Ϩ._auto_1) :
  PS X (.Raise (some (.Call (.Name x np) (e::es) [] JS)) none pos) (abW C names E t):=by
 intro pins s σ H D I h;rw[arm_exec_Raise];show wpAny _ _ (do standAt pos;raiseStmt X.env (some (do let v <-eval (.Call (.Name x np) (e::es) [] JS) X.env;standAt pos;pure v)) none) _ _ s;refine Β (NH ?_);unfold raiseStmt;refine Β (Β (J2 (Q:=λu s1=>∃ea tt dx H2,u=π ea/\X.s₀.heap.objs.size<=ea/\Inv X pins σ H2 s1/\H2 ea=some (xo ea C tt dx)/\E (.ref C) dx (del H2 ea)) ?_ ?_))
 ·refine Ϸ (dU I hg hm ?_ S8)
  refine Jz (h₀:=X.base) I.ok.mod.WC c.kp (J2 (ha JS pins s σ H _ I h) λus s1 zz=>U1 zz λys H1 I1 r hlen q=>⟨I1.LZ,?_⟩) Nk NV;have hul:us.length<=100:=by rw[<-r.length,hlen];exact hnl
  refine GF I1.LZ c hi hf (ζ hul (by decide)) (KC ?_);have e2:((s1.heap.push (Uz us)).push (NF C s1.heap.objs.size none)).get? (s1.heap.objs.size+1)=some (NF C s1.heap.objs.size none):=by
   have:=θ (s1.heap.push (Uz us)) (o:=NF C s1.heap.objs.size none) rfl
   rwa [ϣ] at this
  have I2:=(I1.kept (h':=s1.heap.push (Uz us)) (t':=s1.toks) (λb u q=>Δ _ q)).laid (a:=s1.heap.objs.size+1) (o:=xo (s1.heap.objs.size+1) C s1.heap.objs.size none) (h':=(s1.heap.push (Uz us)).push (NF C s1.heap.objs.size none)) (t':=s1.toks) (λb u q=>Δ _ q) (Qp (ϣ _ _)) (FA e2);have hfr:H1 (s1.heap.objs.size+1)=none:=I1.At.fresh (Lj _);have r2:Vals (V.ref (s1.heap.objs.size+1)::ys) (π (s1.heap.objs.size+1)::us):=.cons rfl r;have Rb:Dr C names (V.ref (s1.heap.objs.size+1)::ys) (upd H1 (s1.heap.objs.size+1) (xo (s1.heap.objs.size+1) C s1.heap.objs.size none))
    (λv H2=>v=.cr/\∃tt dx,H2 (s1.heap.objs.size+1)=some (xo (s1.heap.objs.size+1) C tt dx)/\E (.ref C) dx (del H2 (s1.heap.objs.size+1))) E0:=by
   refine(lc _ _ ys rfl hlen ae (λd H' hd nd ho ZX hdd=>⟨rfl,(gl _ _ ZX (q d _ ?_ (λb o hb=>?_) ?_))⟩))
   ·rw[aj nd] at hd;exact hd
   ·have n1:b≠s1.heap.objs.size+1:=aD hb hfr
    have n2:b≠d:=λz=>by rw[z,<-aj (H:=H1) nd,hd] at hb;cases hb
    rw[dG n1,ho b n2 n1,aj n1];exact hb
   ·rw[dG nd];exact hdd
  have hl:(π (s1.heap.objs.size+1)::us++[]).length=ps.length:=by
   have e:=r2.length;rw[F.len _ _ _ _ Rb] at e;rw[Ke];exact e.symm
  have hbd:=hb _ (π (s1.heap.objs.size+1)::us) I2.LZ hl;rw[Ke] at hbd;refine IV (F.run _ X.stack _ _ ⟨π (s1.heap.objs.size+1)::us,[]⟩ _ _ _ E0 (hr.make C us []) (I2.Yg.make C us []) hbd r2 Rb) λr s' Ur=>?_;cases r with
  | error e=>exact ϲ Ur
  | ok fl=>
   cases fl with
   | ret u=>
    (refine U1 (I2.after Ur) λv H' I3 rv ev=>sK λtt dx g1 g2=>?_);subst ev;exact⟨rv,(O3 _ tt dx H' rfl (ζ I1.sz (Lj _)) I3 g1 g2)⟩
   | next=>exact ϲ Ur
   | brk=>exact ϲ Ur
   | cont=>exact ϲ Ur
 ·rintro u s1 ⟨ea,tt,dx,H2,rfl,hn,I2,he2,q2⟩
  refine Β (NH (ν ?_));have ge:=uH I2.At he2;have hE:X.xe (.ref ea) s1:=hx pins σ H2 s1 ea C tt dx I2 he2 hn q2;(refine P8 (ma c.x) λnm qn N bs bm sn=>JY λsub ab col dd k0 k1=>Ka λk2 k3 k5 hK ho=>?_);have hC:=I2.LZ _ _ hK;have cB:(π C::bm).contains (.type "BaseException")=true:=by rw[F',dH ho (b:=true) (by decide),LA]
  obtain⟨hp,g,d,tk,os⟩:=s1;dsimp only at ge hC
  repeat (first | (with_reducible refine Jh ge ?_) | (with_reducible refine Jh hC ?_) | (with_reducible refine MC hC ?_;rw[cB]) | wp_step)
  exact wpAny_raiseNew_none hr.hd hE
end
end
section
open PySem PySem.Spec PyProof.Rows
def EQ.here {P:Ϗ}{h:ϟ}{o:HO}(x:EQ P w H h a o):∃u,h.get? a=some u:=by
 cases o with
 | lst xs=>(revert x;refine Jb λ_=>sK λ_ _ _ e=>?_);exact⟨_,e⟩
 | tup xs=>(revert x;refine Jb λ_=>Ϟ λ_ _=>Ϟ λob e _=>?_);exact⟨_,e⟩
 | dK ϔ=>(revert x;refine JT λ_ _=>Ϟ λ_ _=>Ka λo _ _ e _=>?_);exact⟨_,e⟩
 | dT ϔ=>(revert x;refine JT λ_ _=>Ϟ λ_ _=>Ka λo _ _ e _=>?_);exact⟨_,e⟩
 | set S n=>(revert x;refine Kg λo _ _ _ e _=>?_);exact⟨_,e⟩
 | ins C dx fs=>(revert x;refine MD λ_ _ _ e _=>?_);exact⟨_,e⟩
 | own y=>exact x
 | xd fs=>(revert x;refine Ϟ λ_ Τ _=>?_;obtain ⟨_,_,_,e,_⟩:=Τ);exact⟨_,e⟩
 | rng lo hi=>(revert x;refine abg λ_ _ _ e=>?_);exact⟨_,e⟩
 | Ra ob u=>obtain⟨e,_⟩:=x;exact⟨_,e⟩
 | Zc ps=>exact⟨_,(show h.get? a=some _ from x)⟩
 | met f y=>exact⟨_,(show h.get? a=some _ from x)⟩
 | ext φ=>(revert x;refine JT λ_ e _=>?_);exact e
abbrev WP (X:Cx)(pins:List (Ε×Obj))(σ:St)(E:XK)(e:Η)(s':Ι):Prop:=
 ∃(s:Ι) (H:Hp) (ea C:Ε) (dx:Option Ε) (B:ϟ) (H':Hp),e=.ref ea/\Inv X pins σ H s/\SW X.prog X.w X.stack H s ea C dx .none B H' s'/\E (.ref C) dx H'
noncomputable abbrev TX:=XK->St->Hp->Prop
abbrev PEx (X:Cx)(e:bv)(t:TX):Prop:=∀(pins:List (Ε×Obj)) (s:Ι) (σ:St) (H:Hp) (E:XK),Inv X pins σ H s->t E σ H->wpAny (model X.prog X.w) X.A (eval e X.env) (λ_ _=>False) (WP X pins σ E) s
abbrev PSx (X:Cx)(st:ϙ)(t:TX):Prop:=∀(pins:List (Ε×Obj)) (s:Ι) (σ:St) (H:Hp) (E:XK),Inv X pins σ H s->t E σ H->wpAny (model X.prog X.w) X.A (exec st X.env) (λ_ _=>False) (WP X pins σ E) s
abbrev aeF (X:Cx)(st:List ϙ)(t:TX):Prop:=∀(pins:List (Ε×Obj)) (s:Ι) (σ:St) (H:Hp) (E:XK),Inv X pins σ H s->t E σ H->wpAny (model X.prog X.w) X.A (execs st X.env) (λ_ _=>False) (WP X pins σ E) s
abbrev asU (sp:Sp)(dvs:List V)(t:TA):TX:=λE σ H=>t σ H λvs H1=>sp (vs++dvs) H1 (λ_ _=>False) E
abbrev aeG (C:Ε)(m:Str)(sp:Sp)(dvs:List V)(ta:TE)(t:TA):TX:=λE σ H=>ta σ H λx H1=>∃a dx fs,x=.ref a/\H1 a=some (.ins C dx fs)/\fs.lookup m=none/\t σ H1 λvs H2=>sp (x::(vs++dvs)) H2 (λ_ _=>False) E
abbrev asV (C:Ε)(sp:Sp)(dvs:List V)(t:TA):TX:=λE σ H=>t σ H λvs H1=>∀x dx,H1 x=none->H1 dx=none->dx≠x->sp (.ref x::(vs++dvs)) (upd (upd H1 dx (.own x)) x (.ins C dx [])) (λ_ _=>False) E
abbrev xNo:TX:=λ_ _ _=>False
section
variable {X:Cx} {k:Nat} {ps:List Str} {E:XK} {o:bv} {s:Ι}
def thx {t:Sem α}{Q Q':α->Ι->Prop}{M:M7}{E:Η->Ι->Prop}{s:Ι}(h:wpAny M A t Q (λ_ _=>False) s)(hQ:∀a s,Q a s->Q' a s):wpAny M A t Q' E s:=ul h hQ λ_ _ z=>z.elim
def HE {us:List Η}{vs:List V}(F:Ϥ X.prog X.w X.K X.mg X.base (Oy X.prog X.w) k f fd ps sp)(hr:Jf k X.A)(hb:Binds X.K fd ps ds)(hd:Vals dvs ds)
  (I:Inv X pins σ H s) (r:Vals vs us) (h:sp (vs++dvs) H (λ_ _=>False) E):wpAny (model X.prog X.w) X.A (call (.ref f) us) (λ_ _=>False) (WP X pins σ E) s:=by
 have r2:Vals (vs++dvs) (us++ds):=r.append hd;have hl:(us++ds).length=ps.length:=by rw[<-r2.length];exact F.len _ _ _ _ h
 refine KC (IV (F.run X.A X.stack s H ⟨us,[]⟩ (us++ds) (vs++dvs) _ E hr I.Yg (hb s us I.LZ hl) r2 h) λr s' hq=>?_);cases r with
 | error e=>
  (revert hq;refine Ld λea C dx B H' Τ=>Jb λT q=>?_;subst Τ);exact(Nf s H ea C dx B (Jw H' rfl I T q))
 | ok fl=>
  cases fl with
  | ret u=>(revert hq;refine O1 λ_ _ _ _ _ _=>Jb λ_ q=>?_);exact q
  | next=>exact ϲ hq
  | brk=>exact ϲ hq
  | cont=>exact ϲ hq
def ER (he:PE X.Kf o ta)(c:Tt X.K C)(hm:U5 X.K C m f)(F:Ϥ X.prog X.w X.K X.mg X.base (Oy X.prog X.w) k f fd ps sp)(hr:Jf k X.A)(hb:Binds X.K fd ps ds)(hd:Vals dvs ds)(ha:PA X.Kf (e::es) t)
  (Nk:autoParam (starEach (e::es) X.env=(false,eval e X.env)::starEach es X.env) L2.Ϩ._auto_1) (NV:autoParam ((backTo pos (starEach es X.env)).any (·.1)=false) L2.Ϩ._auto_1)
  (ht:autoParam (eval (.Call (.Attribute o m apos) (e::es) [] pos) X.env=(do
   let ov <-eval o X.env
   standAt apos.atName
   let (f,first) <-holding [ov] (getMethod ov m pl)
   callWith pos f first (backTo pos (starEach (e::es) X.env)) (backToKw pos (keywordEach [] X.env)))) L2.Ϩ._auto_1) :
  PEx X (.Call (.Attribute o m apos) (e::es) [] pos) (aeG C m sp dvs ta t):=by
 intro pins s σ H E I h;refine Tl (pl:=pl) (thx (he pins s σ H _ (I.Nj _) h) λu s1 zz=>KA zz λx H1 I1 rx=>Q8 λa dx fs ex ea l q=>?_) ht;subst ex;obtain rfl:u=π a:=rx;refine kW I1.Iy ea c hm l ?_;refine Jz (first:=[.ref a]) (h₀:=X.base) I.ok.mod.WC hm.kp (thx (ha pos pins s1 σ H1 _ I1 q) λus s2 zz=>KA zz λvs H2 I2 r q2=>⟨I2.LZ,?_⟩) Nk NV;exact HE (us:=.ref a::us) (vs:=.ref a::vs) F hr hb hd I2.Iy (.cons rfl r) q2
def ES {st:ϙ}{t:TX}(h1:PSx X st t):aeF X (st::rest) t:=by
 intro pins s σ H E I h;exact Oj (J2 (h1 pins s σ H E I h) λ_ _ z=>z.elim)
end
abbrev xh (ea C:Ε)(dx:Option Ε):HO:=.ext λh=>∃o vs,h.get? ea=some o/\o.cls=.ref C/\o.dict=dx/\o.data=.fields vs/\vs[2]?=some .none
def HF {P:Ϗ}{h:ϟ}{dx:Option Ε}{o:Obj}(e:h.get? ea=some o)(e1:o.cls=.ref C)(e2:o.dict=dx)(e3:o.data=.fields vs)(e4:vs[2]?=some .none):EQ P w H h ea (xh ea C dx):=
 ⟨(Kz o vs e e1 e2 e3 e4),⟨_,e⟩,λ_ _ ⟨o,vs,q,r⟩ k=>(gl o vs (k _ q) r)⟩
def Ds {P:Ϗ}{h:ϟ}{dx:Option Ε}(x:NO P w H h)(e:H ea=some (xh ea C dx)):∃o vs,h.get? ea=some o/\o.cls=.ref C/\o.dict=dx/\o.data=.fields vs/\vs[2]?=some .none:=
 (show EQ P w H h ea (xh ea C dx) from x _ _ e).1
abbrev aaP (K:Ξ)(ta:TE)(f:Str):TE:=λσ H Q=>ta σ H λx H1=>∃ea C d fs v,x=.ref ea/\H1 ea=some (xh ea C (some d))/\H1 d=some (Yz d fs)/\Uy K C/\wE K C f/\fs.lookup f=some v/\Q v H1
section
variable {X:Cx} {f:Str}  
def ET (he:PE X e ta)(hb:attributeBase e f X.env (eval e X.env)=eval e X.env):PE X (.Attribute e f pos) (aaP X.K ta f):=by
 intro pins s σ H Q I h;refine zC hb (J2 (he pins s σ H _ I h) λu s1 zz=>KA zz λx H1 I1 rx=>Ld λea C d fs v ex=>P6 λZX hd c n l q=>?_);subst ex;obtain rfl:u=π ea:=rx;(refine Zy (Ds I1.At ZX) λo vs ge gc gd gf _=>?_);(refine ρ (zO I1.At hd) λmA hn hr=>?_);(refine ρ (nA hn) λod ho hl=>?_);(refine ρ (K0.pK (v:=v) (o:=mA f) (by rw[<-l];exact hr f)) λu hu ru=>?_);have J:Ro s1.heap ea o C (some od):=by
  obtain⟨oc,odd,oda,SR⟩:=o;dsimp only at gc gd gf;subst gc gd gf;exact⟨ge,rfl,rfl,ho⟩
 exact HD I1.LZ J c.x c.ga c.gn (ado c.hd n rfl (by rw[hl,hu])) (sO ru) (ϒ v H1 (I1.tok _) ru q)
end
def Dt {X:Cx}{K:Ξ}{f:Str}(he:PE X e ta)(hb:attributeBase e f X.env (eval e X.env)=eval e X.env)(hK:autoParam (X.K=K) L2.Ϩ._auto_1):PE X (.Attribute e f pos) (aaP K ta f):=hK▸ET he hb
noncomputable abbrev Cx.Wn (X:Cx)(ea:Ε):Cx:={ X with A:=X.A.mark (some (.ref ea)),calm:=false }
def Inv.Wn {X:Cx}{s:Ι}(I:Inv X pins σ H s)(ea:Ε):Inv (X.Wn ea) pins σ H s:=
 ⟨⟨I.ok.mod,I.ok.kind,I.ok.glob,I.ok.blt,I.ok.above,I.ok.inj,I.ok.has,I.ok.cab,(λz=>nomatch z),I.ok.frames,I.ok.stk,I.ok.exf,I.ok.bs,I.ok.XI,I.ok.Up,I.ok.V8,I.ok.NU,I.ok.XJ⟩,I.os,I.bare,I.base,I.loc,I.cell,I.free,I.Lk,I.pin,I.At,I.len⟩
def Inv.QC {X:Cx}{s:Ι}(ok:X.Ok)(I:Inv (X.Wn ea) pins σ H s):Inv X pins σ H s:=
 ⟨ok,I.os,I.bare,I.base,I.loc,I.cell,I.free,I.Lk,I.pin,I.At,I.len⟩
section
variable {X:Cx} {s:Ι} {dx:Option Ε} {B:ϟ} 
def SW.new (T:SW X.prog X.w X.stack H s ea C dx fl B H' s')(I:Inv X pins σ H s){o:Obj}(e:s.heap.get? b=some o):b≠ea:=by
 rintro rfl
 have f:=T.ZU
 by_cases hb:b∈NP X.stack
 ·obtain⟨sl,e1⟩:=T.slo b o hb e
  (refine abi f.ZS λoe vs _ _ _ ge=>Um λ_ _ dt _=>?_);(refine MU (f.aez.mem hb) λ_=>Ϟ λo1 ho1 nf=>?_);rw[ge] at ho1;cases ho1;exact nf _ dt
 ·obtain⟨o',e1⟩:=T.ZV.there b o e hb
  rw[f.new] at e1;cases e1
def SW.none (T:SW X.prog X.w X.stack H s ea C dx fl B H' s'):H' ea=none:=by
 have f:=T.ZU;cases q:H' ea with
 | none=>rfl
 | some u=>
  obtain⟨o,e⟩:=(T.At ea u q).here;rw[f.new] at e;cases e
def SW.inv (T:SW X.prog X.w X.stack H s ea C dx fl B H' s')(I:Inv X pins σ H s):Inv X pins σ H' s':=I.X7 (ch:=[]) T.os T.un T.held T.bare (λb z=>nomatch z)
def SW.seen (T:SW X.prog X.w X.stack H s ea C dx fl B H' s')(I:Inv X pins σ H s):Inv X pins σ (upd H' ea (xh ea C dx)) s':=by
 have hn:=T.none;have f:=T.ZU;(refine abi f.ZS λoe vs _ _ _ ge=>MD λgc gd dt z0 _=>?_);have un:=T.un;refine I.X7 (ch:=[]) T.os ⟨un.keep,un.slot,λb o e n hx=>?_,un.there,λb xs e=>?_,λb o u e=>?_,λb ps e=>?_⟩ (λb u e=>?_) T.bare (λb z=>nomatch z)
 ·rw[aj (T.new I e)];exact un.free b o e n hx
 ·have:=un.Nh b xs e;rw[aj (aD this hn)];exact this
 ·have:=un.MV b o u e;rw[aj (aD this hn)];exact this
 ·obtain⟨m,this⟩:=un.Ni b ps e;exact⟨m,by rw[aj (aD this hn)];exact this⟩
 ·by_cases hb:b=ea
  ·subst hb;rw[ae] at e;cases e;exact HF ge gc gd dt z0
  ·rw[aj hb] at e
   exact(T.held b u e).Ng (λc v _ r=>r) (λc r=>by rw[aj (aD r hn)];exact r) λc xs r=>by rw[aj (aD r hn)];exact r
def SW.on {fl':Η}(T:SW X.prog X.w X.stack H s ea C dx fl B H' s')(f2:WN B X.stack ea (.ref C) dx .none fl' h2)(u:s'.heap.UpToSlots h2)(I:Inv X pins σ H s):SW X.prog X.w X.stack H s ea C dx fl' B H' { s' with heap:=h2 }:=
 ⟨T.os,T.bare,f2,T.At,T.ZV,λb o hb e=>by
  obtain⟨sl,e1⟩:=T.slo b o hb e;(refine MU (I.stack.mem hb) λ_=>Ϟ λo1 ho1 nf=>?_);rw[e] at ho1;cases ho1;obtain⟨sl2,e2⟩:=u b _ e1 nf
  exact⟨sl2,e2⟩⟩
end
section
variable {X:Cx} {s:Ι} {M:M7}  
def pN {n:Str}{Q:Unit->Ι->Prop}(I:Inv X pins σ H s)(hN:X.N.Nodup)(hi:X.N[i]?=some n)(hk:X.env.kindOf n=some .local)(h:∀s',Inv X pins (σ.set i none) H s'->Q () s') :
  wpAny M A (do bindName X.env n .none;unbindBehindTheSuite X.env n pos) Q E s:=by
 (refine ρ (id I.loc) λm hn hl=>?_);have abl:(X.env.scope.kind == .class || (X.env.scope.kind == .module && X.env.locals != X.env.globals))=false:=by rw[I.ok.kind];rfl
 refine wpAny_nameGoes_keeps hk hn abl λh' v hn' hs=>h _ ?_;have low:∀b o,X.s₀.heap.get? b=some o->b≠X.env.locals:=λb o e=>ϐ (ϓ (γ e) I.ok.above);refine⟨I.ok,I.os,I.bare,⟨λb o e n hb hx=>(hs.2 b (low b o e)).trans (I.base.keep b o e n hb hx),λb o e n hb hx=>?_,I.base.free,λb o e hx=>?_,I.base.Nh,I.base.MV,I.base.Ni⟩,(Κ _ hn' (λj y v' e1 e2 e3=>?_)),λy c e=>?_,I.free,I.Lk,λp hp=>?_,λb ob e=>?_,by simpa using I.len⟩
 ·obtain⟨sl,e1⟩:=I.base.slot b o e n hb hx
  exact⟨sl,(hs.2 b (low b o e)).trans e1⟩
 ·obtain⟨o',e1⟩:=I.base.there b o e hx
  exact⟨o',(hs.2 b (low b o e)).trans e1⟩
 ·by_cases hj:j=i
  ·subst hj
   rw[List.getElem?_set] at e2;simp only[Om] at e2
   split at e2<;>cases e2
  ·rw[JR (ω hj)] at e2
   (refine ρ (hl j y v' e1 e2 e3) λu' r' q=>?_);refine(Κ u' r' ?_);rcases q with⟨k,e⟩ | ⟨k,c,e,z⟩
   ·refine .inl ⟨k,?_⟩
    have:y≠n:=λe=>hj (pS hN e1 (e▸hi));simp[this,e]
   ·exact .inr ⟨k,(Κ c e (z.sameBut hs (I.ZA y c e)))⟩
 ·obtain⟨v,z⟩:=I.cell y c e
  exact⟨v,z.sameBut hs (I.ZA y c e)⟩
 ·(refine X2 (I.pin p hp) λe n1 ne nf d=>?_)
  exact⟨(hs.2 _ ne).trans e,n1,ne,nf,d⟩
 ·refine(I.At b ob e).Ng (λc w' hc q=>(hs.2 c ?_).trans q) (λ_ q=>q) λ_ _ q=>q
  rintro rfl
  rcases hc with rfl | hc
  ·rw[I.free] at e;cases e
  ·rw[I.free] at hc;cases hc
end
noncomputable abbrev THs:=Ε->Ε->Option Ε->TS
abbrev PH (X:Cx)(hs:List Q7)(th:THs):Prop:=
 ∀(pins:List (Ε×Obj)) (σ:St) (H H':Hp) (D:Ends) (s s':Ι) (ea C:Ε) (dx:Option Ε) (B:ϟ),Inv X pins σ H s->SW X.prog X.w X.stack H s ea C dx .none B H' s'->th C ea dx D σ H'->
  wpAny (model X.prog X.w) X.A (handleBy (.ref ea) X.env hs) (SP X pins D) X.xe s'
abbrev Ends.less (D:Ends)(i:Nat):Ends:={ nx:=λσ H=>D.nx (σ.set i none) H,rt:=D.rt,bk:=λσ H=>D.bk (σ.set i none) H,ct:=λσ H=>D.ct (σ.set i none) H }
abbrev tAs (K:Ξ)(Ck:Ε)(i:Nat)(ts:Ε->TS)(rest:THs):THs:=λC ea dx D σ H=>
 (UP K (.ref C) (.ref Ck)=some true/\ts ea (D.less i) (σ.set i (some (.ref ea))) (upd H ea (xh ea C dx)))\/(UP K (.ref C) (.ref Ck)=some false/\rest C ea dx D σ H)
abbrev aeH (K:Ξ)(Ck:Ε)(ts:Ε->TS)(rest:THs):THs:=λC ea dx D σ H=>
 (UP K (.ref C) (.ref Ck)=some true/\ts ea D σ (upd H ea (xh ea C dx)))\/(UP K (.ref C) (.ref Ck)=some false/\rest C ea dx D σ H)
abbrev aiJ:THs:=λ_ _ _ _ _ _=>False
abbrev aiK (tb:TS)(tx:TX)(th:THs):TS:=λD σ H=>tb D σ H\/∃E,tx E σ H/\∀C dx H' ea,E (.ref C) dx H'->H' ea=none->th C ea dx D σ H'
section
variable {X:Cx} {n:Str} {Xb:Pos} {b₀:ϙ} {WQ:List ϙ} {h₀:Q7} {rest:List Q7} {Ck:Ε} {ts:Ε->TS} {tx:TX} {tr:THs}
def GI {hs:List Q7}:PH X hs aiJ:=λ_ _ _ _ _ _ _ _ _ _ _ _ _ h=>h.elim
def SW.WR {M:M7}{P:Ϗ}{l:List Env}{s:Ι}{dx:Option Ε}{B:ϟ}(T:SW P w l H s ea C dx fl B H' s'):Wz M s'.heap (typeOf (.ref ea)) (.ref C):=by
 have f:=T.ZU;(refine abi f.ZS λoe vs _ _ _ ge=>Jb λgc _=>?_);exact gc▸(aza ge).andThen .now
def HG (hg:Gl X x)(hm:X.mg x=some (.ref Ck))(hN:X.N.Nodup)(hi:X.N[i]?=some n)(hk:X.env.kindOf n=some .local)(hs:∀ea,Rt (X.Wn ea).Kf (b₀::WQ) (ts ea))(hr:PH X rest tr)(S8:autoParam ((x == ("__debug__":Str))=false) L2.Kh._auto_1) :
  PH X (.ExceptHandler (some (.Name x np)) (some n) (b₀::WQ) Xb::rest) (tAs X.K Ck i ts tr):=by
 intro pins σ H H' D s s' ea C dx B I T h;have I1:=T.inv I;refine Zw (XX (dU (X:=X.Wn ea) (I1.Wn ea) hg hm ?_ S8)) (by intro q;cases q);rcases h with⟨hx,h⟩ | ⟨hx,h⟩
 ·refine Ki (V3 I1.LZ T.WR hx) ?_
  refine codeAny_handlers_suite_as ?_;have f:=T.ZU;refine d7 f λh2 f2 u2=>?_;have I2:=((T.on f2 u2 I).seen I).Wn ea;refine lO (X:=X.Wn ea) (i:=i) (v:=.ref ea) I2 hN hi (.inl hk) rfl (λs3 I3=>?_) (.inr hk);refine ul (hs ea pins s3 _ _ _ (I3.Nj _) h) (λfl s4 q=>?_) (λ_ _ z=>z.elim);cases fl with
  | next=>(revert q;refine sK λσ4 H4 I4 q=>?_);exact pN (X:=X) (I4.Iy.QC I.ok) hN hi hk λs5 I5=>(gl _ _ I5 q)
  | brk=>(revert q;refine sK λσ4 H4 I4 q=>?_);exact pN (X:=X) (I4.Iy.QC I.ok) hN hi hk λs5 I5=>(gl _ _ I5 q)
  | cont=>(revert q;refine sK λσ4 H4 I4 q=>?_);exact pN (X:=X) (I4.Iy.QC I.ok) hN hi hk λs5 I5=>(gl _ _ I5 q)
  | ret u=>(revert q;refine Kx λv σ4 H4 I4 r q=>?_);exact pN (X:=X) (I4.Iy.QC I.ok) hN hi hk λs5 I5=>(NC v _ _ I5 r q)
 ·refine Ki (V3 I1.LZ T.WR hx) ?_
  exact hr pins σ H H' D s s' ea C dx B I T h
def EU (hg:Gl X x)(hm:X.mg x=some (.ref Ck))(hs:∀ea,Rt (X.Wn ea).Kf (b₀::WQ) (ts ea))(hr:PH X rest tr)(S8:autoParam ((x == ("__debug__":Str))=false) L2.Kh._auto_1) :
  PH X (.ExceptHandler (some (.Name x np)) none (b₀::WQ) Xb::rest) (aeH X.K Ck ts tr):=by
 intro pins σ H H' D s s' ea C dx B I T h;have I1:=T.inv I;refine Zw (XX (dU (X:=X.Wn ea) (I1.Wn ea) hg hm ?_ S8)) (by intro q;cases q);rcases h with⟨hx,h⟩ | ⟨hx,h⟩
 ·refine Ki (V3 I1.LZ T.WR hx) ?_
  refine codeAny_handlers_suite ?_;have f:=T.ZU;refine d7 f λh2 f2 u2=>?_;have I2:=((T.on f2 u2 I).seen I).Wn ea;refine ul (hs ea pins _ _ _ _ (I2.Nj _) h) (λfl s4 q=>?_) (λ_ _ z=>z.elim);cases fl with
  | next=>(revert q;refine sK λσ4 H4 I4 q=>?_);exact(gl _ _ (I4.Iy.QC I.ok) q)
  | brk=>(revert q;refine sK λσ4 H4 I4 q=>?_);exact(gl _ _ (I4.Iy.QC I.ok) q)
  | cont=>(revert q;refine sK λσ4 H4 I4 q=>?_);exact(gl _ _ (I4.Iy.QC I.ok) q)
  | ret u=>(revert q;refine Kx λv σ4 H4 I4 r q=>?_);exact(NC v _ _ (I4.Iy.QC I.ok) r q)
 ·refine Ki (V3 I1.LZ T.WR hx) ?_
  exact hr pins σ H H' D s s' ea C dx B I T h
def GJ (hb:Rt X.Kf body tb)(hx:aeF X body tx)(hh:PH X (h₀::rest) tr)(hk:autoParam (X.stack=X.env::X.outer) L2.Ϩ._auto_1)(hf:autoParam (X.env.frame=some X.env.locals) L2.Ϩ._auto_1):PS X (.Try body (h₀::rest) [] [] pos) (aiK tb tx tr):=by
 intro pins s σ H D I h;refine wpAny_Try_except ?_;rcases h with h | ⟨E,h,q⟩
 ·refine ul (hb pins s σ H D (I.Nj _) h) (λf s1 z=>?_) (λ_ _ z=>z.elim)
  cases f with
  | next=>exact Ku z.Iy
  | brk=>exact z.Iy
  | cont=>exact z.Iy
  | ret u=>exact z.Iy
 ·refine ul (hx pins s σ H E I h) (λ_ _ z=>z.elim) ?_
  rintro e s1 ⟨s0,H0,ea,C,dx,B,H',rfl,I0,T,qE⟩
  have f:=T.ZU;rw[hk] at f;refine tj (by rw[I0.ok.frames,hk]) hf f λh1 f1 u1=>?_;rw[<-hk] at f1;have T1:=T.on f1 u1 I0;refine d7 f1 λh2 f2 u2=>?_;have T2:=T1.on f2 u2 I0;exact hh pins σ H0 H' D s0 _ ea C dx B I0 T2 (q C dx H' ea qE T2.none)
end
def PS.Kf {X:Cx}{st:ϙ}{t:TS}(h:PS X.Kf st t):PS X st t:=λpins s σ H D I hw=>
 ul (h pins s σ H D (I.Nj _) hw) (λ_ _ q=>q.Iy) λ_ _ z=>ϲ z
abbrev aeI (E:XK)(H:Hp)(C:Ε)(fs:List (Str×V)):Prop:=∀d H',H d=none->Χ H H'->H' d=some (Yz d fs)->E (.ref C) (some d) H'
section
variable {s:Ι}
def yh {it t:Ε}{x:Η}{Q:Η->Ι->Prop}(hit:s.heap.IsTupleIter it t i)(ht:s.heap.IsTuple t items)(hx:items[i]?=some x)
  (hQ:∀h',h'.IsTupleIter it t (i+1)->Ly it s.heap h'->Q x { s with heap:=h' }):wpAny (model prog w) A (ϱ (.ref it)) Q E s:=by
 (refine ϭ (id hit) λo ho hc hd=>?_);(revert ht;refine G' λol Yb _=>Nc λnl VX=>?_);unfold ϱ;refine Β (o0 (name:=Α "__next__") hit.typeIs PySem.F.slot_tuple_iterator_next (IW PySem.F.slot_tuple_iterator_next hit.typeIs PySem.F.entry_tuple_iterator_next ?_ (PySem.F.args_tuple_iterator_next_1 _)));show wpAny _ _ (field (.ref it) 0 >>= _) _ _ s;refine Β (ϫ ho hd (x:=.ref t) rfl ?_);show wpAny _ _ (if (π t == be)=true then _ else _) _ _ s;rw[Υ (show ¬((π t == be)=true) from ϊ)];show wpAny _ _ (field (.ref it) 1 >>= _) _ _ s;refine Β (ϫ ho hd (x:=.int i 0) rfl ?_);show wpAny _ _ (seqItems? (.ref t) >>= _) _ _ s;refine Β (ut Yb VX ?_);simp only[ϵ,hx];refine Β (J5 ho hd (by simp) (ν (Κ x rfl ?_)));have hi:(s.heap.update it (JE (·.setIfInBounds 1 (rawInt ((i:Int)+1))))).IsTupleIter it t (i+1):=
  (ύ _ (IU _ ho (KU (Js hd _))) ((Qo ..).trans hc) (by rw[Js hd];simp[rawInt]))
 first
  | exact ν (hQ _ hi (Na ..))
  | exact hQ _ hi (Na ..)
def qp {it t:Ε}{Q:Η->Ι->Prop}(hh:A.handled=none)(hit:s.heap.IsTupleIter it t i)(ht:s.heap.IsTuple t items)(hx:items[i]?=none)
  (hE:∀h' e,acQ it s.heap h'->(∃o,h'.get? e=some o/\o.cls=.type "StopIteration")->E (.ref e) { s with heap:=h' }):wpAny (model prog w) A (ϱ (.ref it)) Q E s:=by
 (refine ϭ (id hit) λo ho hc hd=>?_);(revert ht;refine G' λol Yb _=>Nc λnl VX=>?_);unfold ϱ;refine Β (o0 (name:=Α "__next__") hit.typeIs PySem.F.slot_tuple_iterator_next (IW PySem.F.slot_tuple_iterator_next hit.typeIs PySem.F.entry_tuple_iterator_next ?_ (PySem.F.args_tuple_iterator_next_1 _)));show wpAny _ _ (field (.ref it) 0 >>= _) _ _ s;refine Β (ϫ ho hd (x:=.ref t) rfl ?_);show wpAny _ _ (if (π t == be)=true then _ else _) _ _ s;rw[Υ (show ¬((π t == be)=true) from ϊ)];show wpAny _ _ (field (.ref it) 1 >>= _) _ _ s;refine Β (ϫ ho hd (x:=.int i 0) rfl ?_);show wpAny _ _ (seqItems? (.ref t) >>= _) _ _ s;refine Β (ut Yb VX ?_);simp only[ϵ,hx];refine Β (OD (Β (J5 ho hd (by simp) ?_)));show wpAny _ _ (newExc (.type "StopIteration") [] >>= _) _ _ _;refine Β ?_;simp only[newExc,newTuple];refine Β (JX ?_ (by size_fits));refine Β (m:=firstArgMember _ _) (Y3 (a:=be) (by first | rfl | (simp only[firstArgMember];rfl)) ?_);refine JX ?_ (by size_fits);simp only[raiseNew];refine Β (ag3 ?_);rw[show A.in1.handled=none from hh];refine Β (ν (aut ?_));exact hE _ _ (((Na ..).extBut.push _).push _) (Κ _ (θ _ rfl) rfl)
def A9 {TI TO:Ε}{xs ys:Array Η}{x y a b:Η}{Q:Η->Ι->Prop}(D:LQ z TI TO i1 i2 l1 l2)
  (hz:JF s.heap z TI TO .none) (MI:lw s.heap TI (.ref i1) (.ref i2)) (Ma:lw s.heap TO a b)
  (h1:s.heap.IsTupleIter i1 l1 k1) (h2:s.heap.IsListIter i2 l2 k2) (VZ:s.heap.IsTuple l1 xs) (Qa:s.heap.IsList l2 ys) (hx:xs[k1]?=some x) (hy:ys[k2]?=some y)
  (hQ:∀h',JF h' z TI TO (rawInt s.heap.objs.size)->lw h' TO x y->h'.IsTupleIter i1 l1 (k1+1)->h'.IsListIter i2 l2 (k2+1)->lw h' s.heap.objs.size x y->h'.objs.size=s.heap.objs.size+1->
   (∀c o,c≠z->c≠TO->c≠i1->c≠i2->s.heap.get? c=some o->h'.get? c=some o)->Q (.ref s.heap.objs.size) { s with heap:=h' }) :
  wpAny (model prog w) A (Lz.«zip.__next__» ⟨[.ref z],[]⟩) (λfin s'=>∃v,fin=.done (.ret v)/\Q v s') E s:=by
 show wpAny _ _ (field (.ref z) 2 >>= _) _ _ _;refine Β (ϫ hz rfl (x:=.bool false) rfl ?_);show wpAny _ _ (field (.ref z) 3 >>= _) _ _ _;refine Β (ϫ hz rfl (x:=.ref TI) rfl (Β (ut MI rfl ?_)));show wpAny _ _ (ϧ (.ref z) >>= _) _ _ _;refine Β ?_;unfold ϧ;refine Β (ϫ hz rfl (x:=.none) rfl (ν ?_));simp only[Om];refine Β (OD (Β (ϫ hz rfl (x:=.ref TO) rfl (Β (v6 hz (by simp) λg1 z1 b1=>?_)))));replace z1:JF g1 z TI TO .ellipsis:=z1;refine Β ?_;simp only[Nb,NN,Lp,Ot];refine Β (Β (LC ?_));show wpAny _ _ (ϱ (.ref i1) >>= _) _ _ _;refine Β (yh (h1.extBut b1.extBut D.i1z) (VZ.extBut b1.extBut D.l1z) hx λg2 t2 b2=>ν ?_);have o2:lw g2 TO a b:=b2.extBut _ _ D.TOi1 (b1.extBut _ _ D.TOz Ma);refine Β (ut o2 rfl (Β (LR o2 λg3 o3 b3=>Β (Uk (ν ?_)))));replace o3:lw g3 TO x b:=o3;refine Β (Β (LC ?_));show wpAny _ _ (ϱ (.ref i2) >>= _) _ _ _;refine Β (XF (((h2.extBut b1.extBut D.i2z).extBut b2.extBut D.i12.symm).extBut b3.extBut D.TOi2.symm) (((Qa.extBut b1.extBut D.l2z).extBut b2.extBut D.l2i1).extBut b3.extBut D.l2TO) hy λg4 t4 b4=>ν ?_);have o4:lw g4 TO x b:=b4.extBut _ _ D.TOi2 o3;refine Β (ut o4 rfl (Β (LR o4 λg5 o5 b5=>Β (Uk (ν (ν ?_))))));replace o5:lw g5 TO x y:=o5;refine Β (ut o5 rfl (Β (afY ?_)));have sz:g5.objs.size=s.heap.objs.size:=by rw[b5.1,b4.1,b3.1,b2.1,b1.1]
 have z5:JF g5 z TI TO .ellipsis:=b5.extBut _ _ D.TOz.symm (b4.extBut _ _ D.i2z.symm (b3.extBut _ _ D.TOz.symm (b2.extBut _ _ D.i1z.symm z1)));have k5:∀c o,c≠z->c≠TO->c≠i1->c≠i2->s.heap.get? c=some o->g5.get? c=some o:=λc o c1 c2 c3 c4 e=>b5.extBut _ _ c2 (b4.extBut _ _ c4 (b3.extBut _ _ c2 (b2.extBut _ _ c3 (b1.extBut _ _ c1 e))));have t5:g5.IsTupleIter i1 l1 (k1+1):=((t2.extBut b3.extBut D.TOi1.symm).extBut b4.extBut D.i12).extBut b5.extBut D.TOi1.symm;have l5:g5.IsListIter i2 l2 (k2+1):=t4.extBut b5.extBut D.TOi2.symm;have zlt:z < g5.objs.size:=γ z5;show wpAny _ _ (Ev (.ref z) (.ref g5.objs.size) >>= _) _ _ _;refine Β ?_;unfold Ev;have z6:JF (g5.push { cls:=.type "tuple",data:=.seq #[x,y] }) z TI TO .ellipsis:=Δ _ z5;refine Β (v6 z6 (by simp) λg7 z7 b7=>?_);replace z7:JF g7 z TI TO (rawInt g5.objs.size):=z7;refine v6 z7 (by simp) λg8 z8 b8=>?_;replace z8:JF g8 z TI TO (rawInt g5.objs.size):=z8;have up:∀c o,c≠z->g5.get? c=some o->g8.get? c=some o:=λc o c1 e=>b8.extBut _ _ c1 (b7.extBut _ _ c1 (Δ _ e));have p8:lw g8 g5.objs.size x y:=b8.extBut _ _ (xL zlt) (b7.extBut _ _ (xL zlt) (θ _ rfl));have s8:g8.objs.size=g5.objs.size+1:=by rw[b8.1,b7.1,ϣ]
 rw[sz] at z8 p8 s8;refine ν (Κ _ rfl ?_);show Q (.ref g5.objs.size) _;rw[sz];(revert t5;refine Ϟ λe1 q1 r1=>?_);(revert l5;refine Ϟ λe2 q2 r2=>?_);exact hQ g8 z8 (up _ _ D.TOz o5) (Κ e1 (up _ _ D.i1z q1) r1) (Κ e2 (up _ _ D.i2z q2) r2) p8 s8 λc o c1 c2 c3 c4 e=>up c o c1 (k5 c o c1 c2 c3 c4 e)
def Ba {TI TO:Ε}{xs ys:Array Η}{x y a b:Η}{Q:Option Η->Ι->Prop}(D:LQ z TI TO i1 i2 l1 l2)
  (hz:JF s.heap z TI TO .none) (MI:lw s.heap TI (.ref i1) (.ref i2)) (Ma:lw s.heap TO a b)
  (h1:s.heap.IsTupleIter i1 l1 k1) (h2:s.heap.IsListIter i2 l2 k2) (VZ:s.heap.IsTuple l1 xs) (Qa:s.heap.IsList l2 ys) (hx:xs[k1]?=some x) (hy:ys[k2]?=some y)
  (hQ:∀h',JF h' z TI TO (rawInt s.heap.objs.size)->lw h' TO x y->h'.IsTupleIter i1 l1 (k1+1)->h'.IsListIter i2 l2 (k2+1)->lw h' s.heap.objs.size x y->h'.objs.size=s.heap.objs.size+1->
   (∀c o,c≠z->c≠TO->c≠i1->c≠i2->s.heap.get? c=some o->h'.get? c=some o)->Q (some (.ref s.heap.objs.size)) { s with heap:=h' }):wpAny (model prog w) A (pyNext (.ref z)) Q E s:=by
 have hT:s.TypeIs (.ref z) "zip":=(Κ _ hz rfl)
 unfold pyNext
 exact Β (Kq (o0 (name:=Α "__next__") hT PySem.F.slot_zip_next (IW PySem.F.slot_zip_next hT PySem.F.entry_zip_next
  (A9 D hz MI Ma h1 h2 VZ Qa hx hy λh' a1 a2 a3 a4 a5 a6 a7=>ν (hQ h' a1 a2 a3 a4 a5 a6 a7)) (PySem.F.args_zip_next_1 _))))
def Du {TI TO:Ε}{k2:Nat}{xs:Array Η}{a b:Η}{Q:Option Η->Ι->Prop}(hh:A.handled=none)(D:LQ z TI TO i1 i2 l1 l2)
  (hz:JF s.heap z TI TO .none) (MI:lw s.heap TI (.ref i1) (.ref i2)) (Ma:lw s.heap TO a b) (h1:s.heap.IsTupleIter i1 l1 k1) (VZ:s.heap.IsTuple l1 xs) (hx:xs[k1]?=none)
  (hQ:∀h',(∀c o,c≠z->c≠TO->c≠i1->c≠i2->s.heap.get? c=some o->h'.get? c=some o)->Q none { s with heap:=h' }):wpAny (model prog w) A (pyNext (.ref z)) Q E s:=by
 have hT:s.TypeIs (.ref z) "zip":=(Κ _ hz rfl)
 unfold pyNext;refine Β (Kq (o0 (name:=Α "__next__") hT PySem.F.slot_zip_next (IW PySem.F.slot_zip_next hT PySem.F.entry_zip_next ?_ (PySem.F.args_zip_next_1 _))));show wpAny _ _ (field (.ref z) 2 >>= _) _ _ _;refine Β (ϫ hz rfl (x:=.bool false) rfl ?_);show wpAny _ _ (field (.ref z) 3 >>= _) _ _ _;refine Β (ϫ hz rfl (x:=.ref TI) rfl (Β (ut MI rfl ?_)));show wpAny _ _ (ϧ (.ref z) >>= _) _ _ _;refine Β ?_;unfold ϧ;refine Β (ϫ hz rfl (x:=.none) rfl (ν ?_));simp only[Om];refine Β (OD (Β (ϫ hz rfl (x:=.ref TO) rfl (Β (v6 hz (by simp) λg1 z1 b1=>?_)))));replace z1:JF g1 z TI TO .ellipsis:=z1;refine Β ?_;simp only[Nb,NN,Lp,Ot];refine Β (Β (LC ?_));show wpAny _ _ (ϱ (.ref i1) >>= _) _ _ _;refine Β (qp hh (h1.extBut b1.extBut D.i1z) (VZ.extBut b1.extBut D.l1z) hx λg2 e b2 he=>?_);(revert he;refine Ϟ λoe hoe Rg=>?_);have z2:JF g2 z TI TO .ellipsis:=b2 _ _ D.i1z.symm z1;have ez:e≠z:=λx=>by subst x;rw[z2] at hoe;cases hoe;simp at Rg
 refine v6 z2 (by simp) λg3 _ b3=>?_;refine Β (Ol (T:="StopIteration") (b:=true) (Κ oe (b3.extBut _ _ ez hoe) Rg) PU ?_);exact ν (hQ _ λc o c1 _ c3 _ x=>b3.extBut _ _ c1 (b2 _ _ c3 (b1.extBut _ _ c1 x)))
end
section
variable {s:Ι}
abbrev zt1 (h:ϟ)(l1:Ε):ϟ:=h.push { cls:=.type "tuple_iterator",data:=.fields #[.ref l1,.int 0 0] }
abbrev zt2 (h:ϟ)(l1 l2:Ε):ϟ:=(zt1 h l1).push { cls:=.type "list_iterator",data:=.fields #[.ref l2,.int 0 0] }
abbrev zt3 (h:ϟ)(l1 l2:Ε):ϟ:=(zt2 h l1 l2).push { cls:=.type "tuple",data:=.seq #[.ref h.objs.size,.ref (zt1 h l1).objs.size] }
abbrev zt4 (h:ϟ)(l1 l2:Ε):ϟ:=(zt3 h l1 l2).push { cls:=.type "tuple",data:=.seq #[.none,.none] }
abbrev zt5 (h:ϟ)(l1 l2:Ε):ϟ:=(zt4 h l1 l2).push { cls:=.type "zip",data:=.fields #[.none,.bool false,.bool false,.ref (zt2 h l1 l2).objs.size,.ref (zt3 h l1 l2).objs.size] }
def yi (l1 l2:Ε)(xs ys:Array Η) :
  abe (Lz.«zip.__new__» ⟨[.type "zip",.ref l1,.ref l2],[]⟩) (λ_ R s=>s.heap.IsTuple l1 xs/\s.heap.IsList l2 ys/\R (.ok (.ret (.ref (zt4 s.heap l1 l2).objs.size))) { s with heap:=zt5 s.heap l1 l2 }):=
 .of_wp λprog w A R s h=>by
  obtain⟨hp,g,d,tk,os⟩:=s;(revert h;refine JT λVZ Qa h=>?_);have Uu:=sub_zip;have hL1:Heap.IsTuple (Qq ⟨hp,g,d,tk,os⟩) l1 xs:=VZ;have hL2:V4 (Qq ⟨hp.push { cls:=.type "tuple_iterator",data:=.fields #[.ref l1,.int 0 0] },g,d,tk,os⟩) l2 ys:=UQ Qa _
  wp_walk using aap hL1,Fk hL2
  exact(Κ _ rfl h)
def Bb {xs ys:Array Η}{Q:Η->Ι->Prop}(VZ:s.heap.IsTuple l1 xs)(Qa:s.heap.IsList l2 ys)
  (h:∀h',JF h' (s.heap.objs.size+4) (s.heap.objs.size+2) (s.heap.objs.size+3) .none->lw h' (s.heap.objs.size+2) (.ref s.heap.objs.size) (.ref (s.heap.objs.size+1))->
   lw h' (s.heap.objs.size+3) .none .none->h'.IsTupleIter s.heap.objs.size l1 0->h'.IsListIter (s.heap.objs.size+1) l2 0->
   (∀c o,s.heap.get? c=some o->h'.get? c=some o)->Q (.ref (s.heap.objs.size+4)) { s with heap:=h' }):wpAny (model prog w) A (call (.type "zip") [.ref l1,.ref l2]) Q E s:=by
 refine asl PySem.F.called_zip (by decide) (PySem.F.typeCall_zip_2 _ _) (PySem.F.newCall_zip_2 _ _) (λobj=>PySem.F.args_object_init_3 obj _ _) PySem.F.entry_zip_new (yi l1 l2 xs ys) ⟨VZ,Qa,?_⟩;have z1:(zt1 s.heap l1).objs.size=s.heap.objs.size+1:=ϣ ..;have z2:(zt2 s.heap l1 l2).objs.size=s.heap.objs.size+2:=by unfold zt2;rw[ϣ,z1]
 have z3:(zt3 s.heap l1 l2).objs.size=s.heap.objs.size+3:=by unfold zt3;rw[ϣ,z2]
 have z4:(zt4 s.heap l1 l2).objs.size=s.heap.objs.size+4:=by unfold zt4;rw[ϣ,z3]
 have g5:(zt5 s.heap l1 l2).get? (zt4 s.heap l1 l2).objs.size=some _:=θ _ rfl;have g4:(zt5 s.heap l1 l2).get? (zt3 s.heap l1 l2).objs.size=some _:=Δ _ (θ _ rfl);have g3:(zt5 s.heap l1 l2).get? (zt2 s.heap l1 l2).objs.size=some _:=Δ _ (Δ _ (θ _ rfl));have g2:(zt5 s.heap l1 l2).get? (zt1 s.heap l1).objs.size=some _:=Δ _ (Δ _ (Δ _ (θ _ rfl)));have g1:(zt5 s.heap l1 l2).get? s.heap.objs.size=some _:=Δ _ (Δ _ (Δ _ (Δ _ (θ _ rfl))));show _/\_;rw[z2,z3,z4] at g5;rw[z1,z2] at g3;rw[z3] at g4;rw[z1] at g2;rw[z4];exact⟨(Κ _ g5 rfl),h _ g5 g3 g4 (ύ _ g1 rfl rfl) (ύ _ g2 rfl rfl) λc o x=>Δ _ (Δ _ (Δ _ (Δ _ (Δ _ x))))⟩
end
abbrev abY (K:Ξ)(a b:Ε):It:=
 ⟨λi H=>∃xs ys x y,JZ K H a xs/\GT K H b ys/\xs[i]?=some x/\ys[i]?=some y,
  λi H v H'=>∃T x y,v=.ref T/\H T=none/\H'=upd H T (.tup [x,y])/\(∀xs,JZ K H a xs->xs[i]?=some x)/\∀ys,GT K H b ys->ys[i]?=some y,
  λi H=>∃xs ys,JZ K H a xs/\GT K H b ys/\xs.length<=i⟩
def Dv {X:Cx}{s:Ι}(I:Inv X pins σ H s)(h:JZ X.K H a xs)(f:K1 X pins H b):a≠b:=by
 intro z;subst z;rcases h with h | ⟨o,its,n,hk,_⟩
 ·rcases h with h | ⟨od,h⟩
  ·rw[f.1] at h;cases h
  ·rw[f.1] at h;cases h
 ·have e:=I.ok.mod.WC _ _ hk
  rcases f.2.2.2.1 with q | q
  ·exact I.ok.Up a o e q
  ·exact absurd (ϓ (γ (I.ok.bs a o e).1) q) (JD _)
def Bc {P:Ϗ}{K:Ξ}(a b z TI TO i1 i2:Ε)(Vh:i1≠i2)(hTT:TI≠TO) :
  Turn P w K (.Tuple elts k0 pos) (abY K a b) [z,TI,TO,i1,i2] z (λi h=>JF h z TI TO .none/\lw h TI (.ref i1) (.ref i2)/\(∃x y,lw h TO x y)/\h.IsTupleIter i1 a i/\h.IsListIter i2 b i) where
 mem:=by simp
 obj:=λi h st c hc=>by
  (revert st;refine MD λhz MI Τ IK zz3=>?_;obtain ⟨x,y,Ma⟩:=Τ;obtain ⟨o1,e1,c1,d1⟩:=IK;obtain ⟨o2,e2,c2,d2⟩:=zz3);simp only[Θ,Ρ,ϛ] at hc;rcases hc with rfl | rfl | rfl | rfl | rfl
  ·exact(Κ _ hz (λv q=>by cases q))
  ·exact(Κ _ MI (λv q=>by cases q))
  ·exact(Κ _ Ma (λv q=>by cases q))
  ·exact(Κ _ e1 (λv q=>by rw[d1] at q;cases q))
  ·exact(Κ _ e2 (λv q=>by rw[d2] at q;cases q))
 keep:=λi h h' st k=>by
  (revert st;refine MD λhz MI Τ IK h2=>?_;obtain ⟨x,y,Ma⟩:=Τ;obtain ⟨o1,e1,r1⟩:=IK);exact⟨k _ (by simp) _ hz,k _ (by simp) _ MI,(Nd x y (k _ (by simp) _ Ma)),(Κ o1 (k _ (by simp) _ e1) r1),h2.at λo e=>k _ (by simp) o e⟩
 item:=by
  intro X hP hw hK hc i pins s σ H E I hf st hg;subst hP hw hK;(revert st;refine MD λhz MI Τ h1 h2=>?_;obtain ⟨x0,y0,Ma⟩:=Τ);(revert hg;refine Kg λxs ys x y hx=>JT λhy ex ey=>?_);(refine ϭ (I.tuple hx) λits rv p _=>?_);(refine ϭ (I.list hy) λits' rv' p' _=>?_);(refine ρ (rv.get ex) λu hu ru=>?_);(refine ρ (rv'.get ey) λu' hu' ru'=>?_);have hp:s.heap.IsTuple a its.toArray:=p;have D:LQ z TI TO i1 i2 a b:=by
   (refine ϭ (id h1) λo1 e1 c1 d1=>?_);(refine ϭ (id h2) λo2 e2 c2 d2=>?_);(refine ϭ (id hp) λoa ea ca _=>?_);(refine ϭ (id p'.isList) λob eb cb _=>?_);have ne:∀{c d:Ε} {o o':Obj},s.heap.get? c=some o->s.heap.get? d=some o'->o.cls≠o'.cls->c≠d:=λ{c d o o'} h h' n q=>by
    subst q;rw[h] at h';cases h';exact n rfl
   exact⟨ne MI hz (by simp),ne Ma hz (by simp),ne e1 hz (by rw[c1];simp),ne e2 hz (by rw[c2];simp),hTT,ne MI e1 (by rw[c1];simp),ne MI e2 (by rw[c2];simp),ne Ma e1 (by rw[c1];simp),ne Ma e2 (by rw[c2];simp),Vh,
    ne ea hz (by rw[ca];simp),Dv I hx (hf TO (by simp)),ne ea e1 (by rw[ca,c1];simp),ne ea e2 (by rw[ca,c2];simp),ne eb hz (by rw[cb];simp),ne eb Ma (by rw[cb];simp),ne eb e1 (by rw[cb,c1];simp),ne eb e2 (by rw[cb,c2];simp)⟩
  refine Ba D hz MI Ma h1 h2 hp p'.isList (x:=u) (y:=u') (by simpa using hu) (by simpa using hu') λh' a1 a2 a3 a4 a5 a6 hk=>?_;refine(Κ _ rfl (V5 a1 λWk abZ sb=>?_));have fT:K1 X pins H s.heap.objs.size:=I.P' (Φ _) I.fresh;have I1:Inv X pins σ H { s with heap:=Wk }:=I.Mg (t':=s.toks) (l:=[z,TI,TO,i1,i2]) (λc o hc e=>sb.extBut _ _ (λq=>hc (by simp[q])) (hk c o (λq=>hc (by simp[q])) (λq=>hc (by simp[q])) (λq=>hc (by simp[q])) (λq=>hc (by simp[q])) e)) hf;have hTz:s.heap.objs.size≠z:=xL (γ hz);have Wl:Wk.get? s.heap.objs.size=some { cls:=.type "tuple",data:=.seq #[u,u'] }:=sb.extBut _ _ hTz a5;have I2:Inv X pins σ (upd H s.heap.objs.size (.tup [x,y])) { s with heap:=Wk }:=I1.WJ (t':=s.toks) fT ⟨(by show 2<=sizeLine;decide),(Κ ([u,u']) (.cons ru (.cons ru' .nil)) (ύ _ Wl rfl (MF _ rfl)))⟩ (λ_ _=>trivial);refine(Kz (.ref s.heap.objs.size) _ I2 rfl (IN _ x y rfl I.fresh rfl (λzs hq=>by rw[I.sN hq hx];exact ex) (λzs hq=>by rw[I.jl hq hy];exact ey)) ?_ (λc hc=>?_))
  ·exact⟨abZ,sb.extBut _ _ D.TIz (hk _ _ D.TIz D.TITO D.TIi1 D.TIi2 MI),(Nd u u' (sb.extBut _ _ D.TOz a2)),a3.extBut sb.extBut D.i1z,a4.extBut sb.extBut D.i2z⟩
  ·have Qy:c < s.heap.objs.size:=by
    (revert h1;refine Ϟ λo1 e1 _=>?_);(revert h2;refine Ϟ λo2 e2 _=>?_);simp only[Θ,Ρ,ϛ] at hc;rcases hc with rfl | rfl | rfl | rfl | rfl
    ·exact γ hz
    ·exact γ MI
    ·exact γ Ma
    ·exact γ e1
    ·exact γ e2
   rw[aj (ϐ Qy)];exact(hf c hc).1
 done:=by
  intro X hP hw hK hc i pins s σ H E I hf st hg;subst hP hw hK;(revert st;refine MD λhz MI Τ h1 h2=>?_;obtain ⟨x0,y0,Ma⟩:=Τ);(revert hg;refine IY λxs ys hx hy ZR=>?_);(refine ϭ (I.tuple hx) λits rv p _=>?_);(refine ϭ (I.list hy) λits' rv' p' _=>?_);have hp:s.heap.IsTuple a its.toArray:=p;have D:LQ z TI TO i1 i2 a b:=by
   (refine ϭ (id h1) λo1 e1 c1 d1=>?_);(refine ϭ (id h2) λo2 e2 c2 d2=>?_);(refine ϭ (id hp) λoa ea ca _=>?_);(refine ϭ (id p'.isList) λob eb cb _=>?_);have ne:∀{c d:Ε} {o o':Obj},s.heap.get? c=some o->s.heap.get? d=some o'->o.cls≠o'.cls->c≠d:=λ{c d o o'} h h' n q=>by
    subst q;rw[h] at h';cases h';exact n rfl
   exact⟨ne MI hz (by simp),ne Ma hz (by simp),ne e1 hz (by rw[c1];simp),ne e2 hz (by rw[c2];simp),hTT,ne MI e1 (by rw[c1];simp),ne MI e2 (by rw[c2];simp),ne Ma e1 (by rw[c1];simp),ne Ma e2 (by rw[c2];simp),Vh,
    ne ea hz (by rw[ca];simp),Dv I hx (hf TO (by simp)),ne ea e1 (by rw[ca,c1];simp),ne ea e2 (by rw[ca,c2];simp),ne eb hz (by rw[cb];simp),ne eb Ma (by rw[cb];simp),ne eb e1 (by rw[cb,c1];simp),ne eb e2 (by rw[cb,c2];simp)⟩
  have l1:=rv.length;refine Du (k2:=0) (I.ok.hd hc) D hz MI Ma h1 hp (by simp;omega) λh' hk=>⟨rfl,?_⟩
  exact I.Mg (t':=s.toks) (l:=[z,TI,TO,i1,i2]) (λc o hc e=>hk c o (λq=>hc (by simp[q])) (λq=>hc (by simp[q])) (λq=>hc (by simp[q])) (λq=>hc (by simp[q])) e) hf
 self:=λ_ _ _ _ _ st h=>Oo st.1 h
section
variable {X:Cx}
abbrev aeQ (K:Ξ)(ta:TA):TI:=λσ H R=>ta σ H λvs H1=>∃a b xs ys,vs=[.ref a,.ref b]/\JZ K H1 a xs/\GT K H1 b ys/\R (abY K a b) H1
def EV {K:Ξ}{a b:bv}{ta:TA}(hg:Gl X "zip")(hm:X.mg "zip"=none)(ha:PA X [a,b] ta)(hs:autoParam (starEach [a,b] X.env=[(false,eval a X.env),(false,eval b X.env)]) L2.Ϩ._auto_1)(U4:autoParam (starEach [b] X.env=[(false,eval b X.env)]) L2.Ϩ._auto_1)
  (hK:autoParam (X.K=K) L2.Ϩ._auto_1):PI X (.Tuple elts k0 X1) (.Call (.Name "zip" p) [a,b] [] pos) (aeQ K ta):=by
 subst hK;intro pins s σ H R I h;refine WZ (cZ I hg hm boot_zip (ϯ (Ow (ha pos pins s σ H _ I h) λus s1 vs H1 I1 r1 q1=>?_) (by rw[hs,U4]) (by rw[U4];rfl)));(revert q1;refine Kg λl1 l2 xs ys Τ=>JT λhx hy q=>?_;subst Τ);(refine KA (vals2 r1) λu v Τ ru rv=>?_;subst Τ);cases ru;cases rv;(refine ϭ (I1.tuple hx) λits rx px _=>?_);(refine ϭ (I1.list hy) λits' ry py _=>?_);refine Bb (xs:=its.toArray) px py.isList λh' z1 z2 z3 z4 z5 hk=>?_;have I2:Inv X pins σ H1 { s1 with heap:=h' }:=I1.kept (t':=s1.toks) hk;refine Oo z1 (Ov _ _ _ _ H1 rfl I2 (Bc l1 l2 _ _ _ _ _ (ϐ (GM _)) (ϐ (GM _))) ⟨z1,z2,(Nd _ _ z3),z4,z5⟩ (λc hc=>?_) q);have Qy:s1.heap.objs.size<=c:=by
  simp only[Θ,Ρ,ϛ] at hc;rcases hc with rfl | rfl | rfl | rfl | rfl<;>omega
 exact I1.P' Qy (I1.At.fresh Qy)
end
def Bd {K:Ξ}{D:Ends}(Pv:Nat->St->Hp->Prop)(hxy:xs.length=ys.length)(h0:Pv 0 σ H)(hl:∀i σ H,i<=xs.length->Pv i σ H->JZ K H a xs/\GT K H b ys)
  (hs:∀i x y T σ H,xs[i]?=some x->ys[i]?=some y->H T=none->Pv i σ H->g (.ref T) σ (upd H T (.tup [x,y])) λσ2 H2=>tb { D with nx:=Pv (i+1),ct:=Pv (i+1),bk:=D.nx } σ2 H2)
  (hd:∀σ H,Pv xs.length σ H->D.nx σ H):Ut (abY K a b) g tb D σ H:=by
 refine(Κ (λi m σ H=>m=xs.length - i/\i<=xs.length/\Pv i σ H) (ύ _ rfl (Ϛ _) h0) ?_)
 rintro i m σ H ⟨rfl,hi,p⟩
 obtain⟨lx,ly⟩:=hl i σ H hi p
 by_cases KI:i < xs.length
 ·refine .inr ⟨(LD xs ys (xs[i]) (Jw (ys[i]'(by omega)) lx ly (by simp) (by simp))),(Κ (Pv (i+1)) (λσ' H' p'=>(Jw (xs.length - (i+1)) (by omega) rfl KI p')) (λv H' y=>?_))⟩
  (revert y;refine RG λT x y Τ hT IK h1 h2=>?_;subst Τ;subst IK);exact hs i x y T σ _ (h1 xs lx) (h2 ys ly) hT p
 ·have e:i=xs.length:=by omega
  subst e;exact .inl ⟨(ϒ xs ys lx ly (Φ _)),hd σ H p⟩
section
variable {s:Ι}
def Be {TI TO:Ε}{tk:Tok}{c0:Nat}{ys:Array Η}{y a b:Η}{Q:Η->Ι->Prop}(D:LQ z TI TO i1 i2 l1 l2)
  (hz:JF s.heap z TI TO .none) (MI:lw s.heap TI (.ref i1) (.ref i2)) (Ma:lw s.heap TO a b)
  (h1:s.heap.IsStrIter i1 "str_ascii_iterator" zs tk k1) (h2:s.heap.IsListIter i2 l2 k2) (Qa:s.heap.IsList l2 ys) (hx:zs.cps[k1]?=some c0) (hy:ys[k2]?=some y)
  (hQ:∀h',JF h' z TI TO (rawInt s.heap.objs.size)->lw h' TO (FS ⟨#[c0]⟩ s.toks) y->h'.IsStrIter i1 "str_ascii_iterator" zs tk (k1+1)->h'.IsListIter i2 l2 (k2+1)->lw h' s.heap.objs.size (FS ⟨#[c0]⟩ s.toks) y->h'.objs.size=s.heap.objs.size+1->
   (∀c o,c≠z->c≠TO->c≠i1->c≠i2->s.heap.get? c=some o->h'.get? c=some o)->Q (.ref s.heap.objs.size) { s with heap:=h',toks:=s.toks+1 }) :
  wpAny (model prog w) A (Lz.«zip.__next__» ⟨[.ref z],[]⟩) (λfin s'=>∃v,fin=.done (.ret v)/\Q v s') E s:=by
 show wpAny _ _ (field (.ref z) 2 >>= _) _ _ _;refine Β (ϫ hz rfl (x:=.bool false) rfl ?_);show wpAny _ _ (field (.ref z) 3 >>= _) _ _ _;refine Β (ϫ hz rfl (x:=.ref TI) rfl (Β (ut MI rfl ?_)));show wpAny _ _ (ϧ (.ref z) >>= _) _ _ _;refine Β ?_;unfold ϧ;refine Β (ϫ hz rfl (x:=.none) rfl (ν ?_));simp only[Om];refine Β (OD (Β (ϫ hz rfl (x:=.ref TO) rfl (Β (v6 hz (by simp) λg1 z1 b1=>?_)))));replace z1:JF g1 z TI TO .ellipsis:=z1;refine Β ?_;simp only[Nb,NN,Lp,Ot];refine Β (Β (LC ?_));show wpAny _ _ (ϱ (.ref i1) >>= _) _ _ _;refine Β (wpAny_nextOf_ascii_item (h1.extBut b1.extBut D.i1z) hx λg2 t2 b2=>ν ?_);have o2:lw g2 TO a b:=b2.extBut _ _ D.TOi1 (b1.extBut _ _ D.TOz Ma);refine Β (ut o2 rfl (Β (LR o2 λg3 o3 b3=>Β (Uk (ν ?_)))));replace o3:lw g3 TO (FS ⟨#[c0]⟩ s.toks) b:=o3;refine Β (Β (LC ?_));show wpAny _ _ (ϱ (.ref i2) >>= _) _ _ _;refine Β (XF (((h2.extBut b1.extBut D.i2z).extBut b2.extBut D.i12.symm).extBut b3.extBut D.TOi2.symm) (((Qa.extBut b1.extBut D.l2z).extBut b2.extBut D.l2i1).extBut b3.extBut D.l2TO) hy λg4 t4 b4=>ν ?_);have o4:lw g4 TO (FS ⟨#[c0]⟩ s.toks) b:=b4.extBut _ _ D.TOi2 o3;refine Β (ut o4 rfl (Β (LR o4 λg5 o5 b5=>Β (Uk (ν (ν ?_))))));replace o5:lw g5 TO (FS ⟨#[c0]⟩ s.toks) y:=o5;refine Β (ut o5 rfl (Β (afY ?_)));have sz:g5.objs.size=s.heap.objs.size:=by rw[b5.1,b4.1,b3.1,b2.1,b1.1]
 have z5:JF g5 z TI TO .ellipsis:=b5.extBut _ _ D.TOz.symm (b4.extBut _ _ D.i2z.symm (b3.extBut _ _ D.TOz.symm (b2.extBut _ _ D.i1z.symm z1)));have k5:∀c o,c≠z->c≠TO->c≠i1->c≠i2->s.heap.get? c=some o->g5.get? c=some o:=λc o c1 c2 c3 c4 e=>b5.extBut _ _ c2 (b4.extBut _ _ c4 (b3.extBut _ _ c2 (b2.extBut _ _ c3 (b1.extBut _ _ c1 e))));have t5:g5.IsStrIter i1 "str_ascii_iterator" zs tk (k1+1):=((t2.extBut b3.extBut D.TOi1.symm).extBut b4.extBut D.i12).extBut b5.extBut D.TOi1.symm;have l5:g5.IsListIter i2 l2 (k2+1):=t4.extBut b5.extBut D.TOi2.symm;have zlt:z < g5.objs.size:=γ z5;show wpAny _ _ (Ev (.ref z) (.ref g5.objs.size) >>= _) _ _ _;refine Β ?_;unfold Ev;have z6:JF (g5.push { cls:=.type "tuple",data:=.seq #[(FS ⟨#[c0]⟩ s.toks),y] }) z TI TO .ellipsis:=Δ _ z5;refine Β (v6 z6 (by simp) λg7 z7 b7=>?_);replace z7:JF g7 z TI TO (rawInt g5.objs.size):=z7;refine v6 z7 (by simp) λg8 z8 b8=>?_;replace z8:JF g8 z TI TO (rawInt g5.objs.size):=z8;have up:∀c o,c≠z->g5.get? c=some o->g8.get? c=some o:=λc o c1 e=>b8.extBut _ _ c1 (b7.extBut _ _ c1 (Δ _ e));have p8:lw g8 g5.objs.size (FS ⟨#[c0]⟩ s.toks) y:=b8.extBut _ _ (xL zlt) (b7.extBut _ _ (xL zlt) (θ _ rfl));have s8:g8.objs.size=g5.objs.size+1:=by rw[b8.1,b7.1,ϣ]
 rw[sz] at z8 p8 s8;refine ν (Κ _ rfl ?_);show Q (.ref g5.objs.size) _;rw[sz];(revert t5;refine Ϟ λe1 q1 r1=>?_);(revert l5;refine Ϟ λe2 q2 r2=>?_);exact hQ g8 z8 (up _ _ D.TOz o5) (Κ e1 (up _ _ D.i1z q1) r1) (Κ e2 (up _ _ D.i2z q2) r2) p8 s8 λc o c1 c2 c3 c4 e=>up c o c1 (k5 c o c1 c2 c3 c4 e)
def Bf {TI TO:Ε}{tk:Tok}{c0:Nat}{ys:Array Η}{y a b:Η}{Q:Option Η->Ι->Prop}(D:LQ z TI TO i1 i2 l1 l2)
  (hz:JF s.heap z TI TO .none) (MI:lw s.heap TI (.ref i1) (.ref i2)) (Ma:lw s.heap TO a b)
  (h1:s.heap.IsStrIter i1 "str_ascii_iterator" zs tk k1) (h2:s.heap.IsListIter i2 l2 k2) (Qa:s.heap.IsList l2 ys) (hx:zs.cps[k1]?=some c0) (hy:ys[k2]?=some y)
  (hQ:∀h',JF h' z TI TO (rawInt s.heap.objs.size)->lw h' TO (FS ⟨#[c0]⟩ s.toks) y->h'.IsStrIter i1 "str_ascii_iterator" zs tk (k1+1)->h'.IsListIter i2 l2 (k2+1)->lw h' s.heap.objs.size (FS ⟨#[c0]⟩ s.toks) y->h'.objs.size=s.heap.objs.size+1->
   (∀c o,c≠z->c≠TO->c≠i1->c≠i2->s.heap.get? c=some o->h'.get? c=some o)->Q (some (.ref s.heap.objs.size)) { s with heap:=h',toks:=s.toks+1 }):wpAny (model prog w) A (pyNext (.ref z)) Q E s:=by
 have hT:s.TypeIs (.ref z) "zip":=(Κ _ hz rfl)
 unfold pyNext
 exact Β (Kq (o0 (name:=Α "__next__") hT PySem.F.slot_zip_next (IW PySem.F.slot_zip_next hT PySem.F.entry_zip_next
  (Be D hz MI Ma h1 h2 Qa hx hy λh' a1 a2 a3 a4 a5 a6 a7=>ν (hQ h' a1 a2 a3 a4 a5 a6 a7)) (PySem.F.args_zip_next_1 _))))
def Dw {TI TO:Ε}{k2:Nat}{tk:Tok}{a b:Η}{Q:Option Η->Ι->Prop}(hh:A.handled=none)(D:LQ z TI TO i1 i2 l1 l2)
  (hz:JF s.heap z TI TO .none) (MI:lw s.heap TI (.ref i1) (.ref i2)) (Ma:lw s.heap TO a b) (h1:s.heap.IsStrIter i1 "str_ascii_iterator" zs tk k1) (hx:zs.cps[k1]?=none)
  (hQ:∀h',(∀c o,c≠z->c≠TO->c≠i1->c≠i2->s.heap.get? c=some o->h'.get? c=some o)->Q none { s with heap:=h' }):wpAny (model prog w) A (pyNext (.ref z)) Q E s:=by
 have hT:s.TypeIs (.ref z) "zip":=(Κ _ hz rfl)
 unfold pyNext;refine Β (Kq (o0 (name:=Α "__next__") hT PySem.F.slot_zip_next (IW PySem.F.slot_zip_next hT PySem.F.entry_zip_next ?_ (PySem.F.args_zip_next_1 _))));show wpAny _ _ (field (.ref z) 2 >>= _) _ _ _;refine Β (ϫ hz rfl (x:=.bool false) rfl ?_);show wpAny _ _ (field (.ref z) 3 >>= _) _ _ _;refine Β (ϫ hz rfl (x:=.ref TI) rfl (Β (ut MI rfl ?_)));show wpAny _ _ (ϧ (.ref z) >>= _) _ _ _;refine Β ?_;unfold ϧ;refine Β (ϫ hz rfl (x:=.none) rfl (ν ?_));simp only[Om];refine Β (OD (Β (ϫ hz rfl (x:=.ref TO) rfl (Β (v6 hz (by simp) λg1 z1 b1=>?_)))));replace z1:JF g1 z TI TO .ellipsis:=z1;refine Β ?_;simp only[Nb,NN,Lp,Ot];refine Β (Β (LC ?_));show wpAny _ _ (ϱ (.ref i1) >>= _) _ _ _;refine Β (wpAny_nextOf_ascii_end hh (h1.extBut b1.extBut D.i1z) hx λg2 e b2 he=>?_);(revert he;refine Ϟ λoe hoe Rg=>?_);have z2:JF g2 z TI TO .ellipsis:=b2 _ _ D.i1z.symm z1;have ez:e≠z:=λx=>by subst x;rw[z2] at hoe;cases hoe;simp at Rg
 refine v6 z2 (by simp) λg3 _ b3=>?_;refine Β (Ol (T:="StopIteration") (b:=true) (Κ oe (b3.extBut _ _ ez hoe) Rg) PU ?_);exact ν (hQ _ λc o c1 _ c3 _ x=>b3.extBut _ _ c1 (b2 _ _ c3 (b1.extBut _ _ c1 x)))
end
section
variable {s:Ι}
abbrev zs1 (h:ϟ)(x:Str)(t:Tok):ϟ:=h.push { cls:=.type (strIterType x),data:=.fields #[.str x t,.int 0 0] }
abbrev zs2 (h:ϟ)(x:Str)(t:Tok)(l2:Ε):ϟ:=(zs1 h x t).push { cls:=.type "list_iterator",data:=.fields #[.ref l2,.int 0 0] }
abbrev zs3 (h:ϟ)(x:Str)(t:Tok)(l2:Ε):ϟ:=(zs2 h x t l2).push { cls:=.type "tuple",data:=.seq #[.ref h.objs.size,.ref (zs1 h x t).objs.size] }
abbrev zs4 (h:ϟ)(x:Str)(t:Tok)(l2:Ε):ϟ:=(zs3 h x t l2).push { cls:=.type "tuple",data:=.seq #[.none,.none] }
abbrev zs5 (h:ϟ)(x:Str)(t:Tok)(l2:Ε):ϟ:=(zs4 h x t l2).push { cls:=.type "zip",data:=.fields #[.none,.bool false,.bool false,.ref (zs2 h x t l2).objs.size,.ref (zs3 h x t l2).objs.size] }
def yj (x:Str)(t:Tok)(l2:Ε)(ys:Array Η) :
  abe (Lz.«zip.__new__» ⟨[.type "zip",.str x t,.ref l2],[]⟩) (λ_ R s=>s.heap.IsList l2 ys/\R (.ok (.ret (.ref (zs4 s.heap x t l2).objs.size))) { s with heap:=zs5 s.heap x t l2 }):=
 .of_wp λprog w A R s h=>by
  obtain⟨hp,g,d,tk,os⟩:=s;obtain⟨Qa,h⟩:=h;have Uu:=sub_zip;have hL2:V4 (Qq ⟨hp.push { cls:=.type (strIterType x),data:=.fields #[.str x t,.int 0 0] },g,d,tk,os⟩) l2 ys:=UQ Qa _
  wp_walk using abd,Fk hL2
  exact(Κ _ rfl h)
def Bg {t:Tok}{ys:Array Η}{Q:Η->Ι->Prop}(ha:x.cps.all (· < 128)=true)(Qa:s.heap.IsList l2 ys)
  (h:∀h',JF h' (s.heap.objs.size+4) (s.heap.objs.size+2) (s.heap.objs.size+3) .none->lw h' (s.heap.objs.size+2) (.ref s.heap.objs.size) (.ref (s.heap.objs.size+1))->
   lw h' (s.heap.objs.size+3) .none .none->h'.IsStrIter s.heap.objs.size "str_ascii_iterator" x t 0->h'.IsListIter (s.heap.objs.size+1) l2 0->
   (∀c o,s.heap.get? c=some o->h'.get? c=some o)->Q (.ref (s.heap.objs.size+4)) { s with heap:=h' }):wpAny (model prog w) A (call (.type "zip") [.str x t,.ref l2]) Q E s:=by
 refine asl PySem.F.called_zip (by decide) (PySem.F.typeCall_zip_2 _ _) (PySem.F.newCall_zip_2 _ _) (λobj=>PySem.F.args_object_init_3 obj _ _) PySem.F.entry_zip_new (yj x t l2 ys) ⟨Qa,?_⟩;have z1:(zs1 s.heap x t).objs.size=s.heap.objs.size+1:=ϣ ..;have z2:(zs2 s.heap x t l2).objs.size=s.heap.objs.size+2:=by unfold zs2;rw[ϣ,z1]
 have z3:(zs3 s.heap x t l2).objs.size=s.heap.objs.size+3:=by unfold zs3;rw[ϣ,z2]
 have z4:(zs4 s.heap x t l2).objs.size=s.heap.objs.size+4:=by unfold zs4;rw[ϣ,z3]
 have g5:(zs5 s.heap x t l2).get? (zs4 s.heap x t l2).objs.size=some _:=θ _ rfl;have g4:(zs5 s.heap x t l2).get? (zs3 s.heap x t l2).objs.size=some _:=Δ _ (θ _ rfl);have g3:(zs5 s.heap x t l2).get? (zs2 s.heap x t l2).objs.size=some _:=Δ _ (Δ _ (θ _ rfl));have g2:(zs5 s.heap x t l2).get? (zs1 s.heap x t).objs.size=some _:=Δ _ (Δ _ (Δ _ (θ _ rfl)));have g1:(zs5 s.heap x t l2).get? s.heap.objs.size=some _:=Δ _ (Δ _ (Δ _ (Δ _ (θ _ rfl))));show _/\_;rw[z2,z3,z4] at g5;rw[z1,z2] at g3;rw[z3] at g4;rw[z1] at g2;rw[z4];have ea:strIterType x="str_ascii_iterator":=by unfold strIterType;rw[δ ha]
 exact⟨(Κ _ g5 rfl),h _ g5 g3 g4 (ύ _ g1 (by rw[<-ea]) rfl) (ύ _ g2 rfl rfl) λc o x=>Δ _ (Δ _ (Δ _ (Δ _ (Δ _ x))))⟩
end
abbrev ab0 (K:Ξ)(zs:Str)(b:Ε):It:=
 ⟨λi H=>∃ys c y,GT K H b ys/\zs.cps[i]?=some c/\ys[i]?=some y,
  λi H v H'=>∃T c y,v=.ref T/\H T=none/\H'=upd H T (.tup [.str ⟨#[c]⟩,y])/\zs.cps[i]?=some c/\∀ys,GT K H b ys->ys[i]?=some y,
  λi H=>∃ys,GT K H b ys/\zs.cps.size<=i⟩
def Bh {P:Ϗ}{K:Ξ}(zs:Str)(tk:Tok)(b z TI TO i1 i2:Ε)(Vh:i1≠i2)(hTT:TI≠TO) :
  Turn P w K (.Tuple elts k0 pos) (ab0 K zs b) [z,TI,TO,i1,i2] z (λi h=>JF h z TI TO .none/\lw h TI (.ref i1) (.ref i2)/\(∃x y,lw h TO x y)/\h.IsStrIter i1 "str_ascii_iterator" zs tk i/\h.IsListIter i2 b i) where
 mem:=by simp
 obj:=λi h st c hc=>by
  (revert st;refine MD λhz MI Τ IK zz3=>?_;obtain ⟨x,y,Ma⟩:=Τ;obtain ⟨o1,e1,c1,d1⟩:=IK;obtain ⟨o2,e2,c2,d2⟩:=zz3);simp only[Θ,Ρ,ϛ] at hc;rcases hc with rfl | rfl | rfl | rfl | rfl
  ·exact(Κ _ hz (λv q=>by cases q))
  ·exact(Κ _ MI (λv q=>by cases q))
  ·exact(Κ _ Ma (λv q=>by cases q))
  ·exact(Κ _ e1 (λv q=>by rw[d1] at q;cases q))
  ·exact(Κ _ e2 (λv q=>by rw[d2] at q;cases q))
 keep:=λi h h' st k=>by
  (revert st;refine MD λhz MI Τ IK h2=>?_;obtain ⟨x,y,Ma⟩:=Τ;obtain ⟨o1,e1,r1⟩:=IK);exact⟨k _ (by simp) _ hz,k _ (by simp) _ MI,(Nd x y (k _ (by simp) _ Ma)),(Κ o1 (k _ (by simp) _ e1) r1),h2.at λo e=>k _ (by simp) o e⟩
 item:=by
  intro X hP hw hK hc i pins s σ H E I hf st hg;subst hP hw hK;(revert st;refine MD λhz MI Τ h1 h2=>?_;obtain ⟨x0,y0,Ma⟩:=Τ);(revert hg;refine Kx λys c0 y hy ex ey=>?_);(refine ϭ (I.list hy) λits' rv' p' _=>?_);(refine ρ (rv'.get ey) λu' hu' ru'=>?_);have D:LQ z TI TO i1 i2 b b:=by
   (refine ϭ (id h1) λo1 e1 c1 d1=>?_);(refine ϭ (id h2) λo2 e2 c2 d2=>?_);(refine ϭ (id p'.isList) λob eb cb _=>?_);have ne:∀{c d:Ε} {o o':Obj},s.heap.get? c=some o->s.heap.get? d=some o'->o.cls≠o'.cls->c≠d:=λ{c d o o'} h h' n q=>by
    subst q;rw[h] at h';cases h';exact n rfl
   exact⟨ne MI hz (by simp),ne Ma hz (by simp),ne e1 hz (by rw[c1];simp),ne e2 hz (by rw[c2];simp),hTT,ne MI e1 (by rw[c1];simp),ne MI e2 (by rw[c2];simp),ne Ma e1 (by rw[c1];simp),ne Ma e2 (by rw[c2];simp),Vh,
    ne eb hz (by rw[cb];simp),ne eb Ma (by rw[cb];simp),ne eb e1 (by rw[cb,c1];simp),ne eb e2 (by rw[cb,c2];simp),ne eb hz (by rw[cb];simp),ne eb Ma (by rw[cb];simp),ne eb e1 (by rw[cb,c1];simp),ne eb e2 (by rw[cb,c2];simp)⟩
  refine Bf D hz MI Ma h1 h2 p'.isList (y:=u') ex (by simpa using hu') λh' a1 a2 a3 a4 a5 a6 hk=>?_;refine(Κ _ rfl (V5 a1 λWk abZ sb=>?_));have fT:K1 X pins H s.heap.objs.size:=I.P' (Φ _) I.fresh;have I1:Inv X pins σ H { s with heap:=Wk,toks:=s.toks+1 }:=I.Mg (t':=s.toks+1) (l:=[z,TI,TO,i1,i2]) (λc o hc e=>sb.extBut _ _ (λq=>hc (by simp[q])) (hk c o (λq=>hc (by simp[q])) (λq=>hc (by simp[q])) (λq=>hc (by simp[q])) (λq=>hc (by simp[q])) e)) hf;have hTz:s.heap.objs.size≠z:=xL (γ hz);have Wl:Wk.get? s.heap.objs.size=some { cls:=.type "tuple",data:=.seq #[FS ⟨#[c0]⟩ s.toks,u'] }:=sb.extBut _ _ hTz a5;have I2:Inv X pins σ (upd H s.heap.objs.size (.tup [.str ⟨#[c0]⟩,y])) { s with heap:=Wk,toks:=s.toks+1 }:=I1.WJ (t':=s.toks+1) fT ⟨(by show 2<=sizeLine;decide),(Κ ([FS ⟨#[c0]⟩ s.toks,u']) (.cons ⟨_,rfl⟩ (.cons ru' .nil)) (ύ _ Wl rfl (MF _ rfl)))⟩ (λ_ _=>trivial);refine(Kz (.ref s.heap.objs.size) _ I2 rfl (IN _ c0 y rfl I.fresh rfl ex (λzs hq=>by rw[I.jl hq hy];exact ey)) ?_ (λc hc=>?_))
  ·exact⟨abZ,sb.extBut _ _ D.TIz (hk _ _ D.TIz D.TITO D.TIi1 D.TIi2 MI),(Nd _ u' (sb.extBut _ _ D.TOz a2)),a3.extBut sb.extBut D.i1z,a4.extBut sb.extBut D.i2z⟩
  ·have Qy:c < s.heap.objs.size:=by
    (revert h1;refine Ϟ λo1 e1 _=>?_);(revert h2;refine Ϟ λo2 e2 _=>?_);simp only[Θ,Ρ,ϛ] at hc;rcases hc with rfl | rfl | rfl | rfl | rfl
    ·exact γ hz
    ·exact γ MI
    ·exact γ Ma
    ·exact γ e1
    ·exact γ e2
   rw[aj (ϐ Qy)];exact(hf c hc).1
 done:=by
  intro X hP hw hK hc i pins s σ H E I hf st hg;subst hP hw hK;(revert st;refine MD λhz MI Τ h1 h2=>?_;obtain ⟨x0,y0,Ma⟩:=Τ);(revert hg;refine Ϟ λys hy ZR=>?_);(refine ϭ (I.list hy) λits' rv' p' _=>?_);have D:LQ z TI TO i1 i2 b b:=by
   (refine ϭ (id h1) λo1 e1 c1 d1=>?_);(refine ϭ (id h2) λo2 e2 c2 d2=>?_);(refine ϭ (id p'.isList) λob eb cb _=>?_);have ne:∀{c d:Ε} {o o':Obj},s.heap.get? c=some o->s.heap.get? d=some o'->o.cls≠o'.cls->c≠d:=λ{c d o o'} h h' n q=>by
    subst q;rw[h] at h';cases h';exact n rfl
   exact⟨ne MI hz (by simp),ne Ma hz (by simp),ne e1 hz (by rw[c1];simp),ne e2 hz (by rw[c2];simp),hTT,ne MI e1 (by rw[c1];simp),ne MI e2 (by rw[c2];simp),ne Ma e1 (by rw[c1];simp),ne Ma e2 (by rw[c2];simp),Vh,
    ne eb hz (by rw[cb];simp),ne eb Ma (by rw[cb];simp),ne eb e1 (by rw[cb,c1];simp),ne eb e2 (by rw[cb,c2];simp),ne eb hz (by rw[cb];simp),ne eb Ma (by rw[cb];simp),ne eb e1 (by rw[cb,c1];simp),ne eb e2 (by rw[cb,c2];simp)⟩
  refine Dw (k2:=0) (I.ok.hd hc) D hz MI Ma h1 (by simpa using ZR) λh' hk=>⟨rfl,?_⟩
  exact I.Mg (t':=s.toks) (l:=[z,TI,TO,i1,i2]) (λc o hc e=>hk c o (λq=>hc (by simp[q])) (λq=>hc (by simp[q])) (λq=>hc (by simp[q])) (λq=>hc (by simp[q])) e) hf
 self:=λ_ _ _ _ _ st h=>Oo st.1 h
section
variable {X:Cx}
abbrev aeU (K:Ξ)(ta:TA):TI:=λσ H R=>ta σ H λvs H1=>∃z b ys,vs=[.str z,.ref b]/\z.cps.all (· < 128)=true/\GT K H1 b ys/\R (ab0 K z b) H1
def EW {K:Ξ}{a b:bv}{ta:TA}(hg:Gl X "zip")(hm:X.mg "zip"=none)(ha:PA X [a,b] ta)(hs:autoParam (starEach [a,b] X.env=[(false,eval a X.env),(false,eval b X.env)]) L2.Ϩ._auto_1)(U4:autoParam (starEach [b] X.env=[(false,eval b X.env)]) L2.Ϩ._auto_1)
  (hK:autoParam (X.K=K) L2.Ϩ._auto_1):PI X (.Tuple elts k0 X1) (.Call (.Name "zip" p) [a,b] [] pos) (aeU K ta):=by
 subst hK;intro pins s σ H R I h;refine WZ (cZ I hg hm boot_zip (ϯ (Ow (ha pos pins s σ H _ I h) λus s1 vs H1 I1 r1 q1=>?_) (by rw[hs,U4]) (by rw[U4];rfl)));(revert q1;refine Q8 λzz l2 ys Τ hx hy q=>?_;subst Τ);(refine KA (vals2 r1) λu v Τ ru rv=>?_;subst Τ);obtain⟨tk,rfl⟩:=ru;cases rv;(refine ϭ (I1.list hy) λits' ry py _=>?_);refine Bg hx py.isList λh' z1 z2 z3 z4 z5 hk=>?_;have I2:Inv X pins σ H1 { s1 with heap:=h' }:=I1.kept (t':=s1.toks) hk;refine Oo z1 (Ov _ _ _ _ H1 rfl I2 (Bh zz tk l2 _ _ _ _ _ (ϐ (GM _)) (ϐ (GM _))) ⟨z1,z2,(Nd _ _ z3),z4,z5⟩ (λc hc=>?_) q);have Qy:s1.heap.objs.size<=c:=by
  simp only[Θ,Ρ,ϛ] at hc;rcases hc with rfl | rfl | rfl | rfl | rfl<;>omega
 exact I1.P' Qy (I1.At.fresh Qy)
end
end
section
open PySem PySem.Spec
open PySem.AutoSeq1 (wpAny_loadPart')
section
variable {s:Ι}
def nJ {newId Wo:String}{Bn Bi:Lz}{args:List Η}{S:Spec}{Q Q₁:Η->Ι->Prop}(ft:TypeCalled T newId Wo)
  (hct:checkTypeCall T ⟨args,kw⟩=pure ()) (hcn:checkBuiltinCall newId ⟨.type T::args,kw⟩=pure ())
  (ab1:entryFor table newId=some Bn) (ab2:entryFor table Wo=some Bi) (g:abe (Bn ⟨.type T::args,kw⟩) S)
  (h:S A.in1 (wants Q₁ E) s)
  (aeV:∀obj s₁,Q₁ obj s₁->s₁.TypeIs obj T/\argsOk Wo ⟨obj::args,kw⟩/\∃Si,abe (Bi ⟨obj::args,kw⟩) Si/\Si A.in1 (wants (λr s₂=>r=.none/\Q obj s₂) E) s₁) :
  wpAny (model prog w) A (call (.type T) args kw) Q E s:=by
 (refine V7 ft.mro λc tl aiC=>?_);have aev:=ft.made;have Uu:=ft.sub;refine KC (UO ?_);show wpAny _ _ (callAny (.type T) _) _ _ _;refine ν ⟨LW _ (s!"d"),Md F.entry_type_call ?_⟩;rw[V2 (XW T args kw) (units_type_call_type T args kw)];have h1:=ft.notType;have h2:=ft.canCreate
 repeat (any_goals (first | assumption | wp_step))
 refine IV (J8 ft.plain ab1 (Y3 hcn (g prog w A.in1 _ s h))) λr s₁ hr=>?_;cases r with
 | error e=>exact hr
 | ok fl=>
  cases fl with
  | ret obj=>
   (refine IT (aeV _ _ hr) λhT At=>Ϟ λSi gi hsi=>?_);have hli:=ft.init.lookup;have hbi:=ft.init.bind obj
   repeat (any_goals (first | assumption | wp_step))
   refine IV (J8 ft.init.plain ab2 (ft.init.check _ _ _ _ _ _ _ _ hT At (gi prog w A.in1 _ s₁ hsi))) λr₂ s₂ abT=>?_;cases r₂ with
   | error e=>exact abT
   | ok aiD=>
    cases aiD with
    | ret r=>
     obtain⟨rfl,hq⟩:=abT
     repeat (any_goals (first | assumption | wp_step))
    | _=>exact abT.elim
  | _=>exact hr.elim
end
def kn {newId:String}{self:Η}{a:Η}{rest:List Η}(hl:typeLookup (.type T) "__init__"=pure (some (.builtin "object.__init__")))
  (hm:Bind.madeBy (.type T)=pure (some newId)) (hne:(some newId != some "object.__new__")=true) :
  abe (Lz.«object.__init__» ⟨self::a::rest,kw⟩) (λ_ R s=>s.TypeIs self T/\R (.ok (.ret .none)) s):=by
 refine Meets.of_wp λprog w A R s hs=>?_;obtain⟨hT,hq⟩:=hs
 repeat (any_goals (first | assumption | wp_step))
 exact(Κ _ rfl hq)
def jf (a b:Η):checkTypeCall "enumerate" ⟨[a],[("start",b)]⟩=pure ():=by kernel_rfl
def jr (a b:Η):checkBuiltinCall "enumerate.__new__" ⟨[.type "enumerate",a],[("start",b)]⟩=pure ():=by kernel_rfl
def ko (a b c:Η):argsOk "object.__init__" ⟨[a,b],[("start",c)]⟩:=by unfold argsOk;kernel_rfl
def jg (l:Ε)(items:Array Η)(n:Nat)(dct:Option Ε)(sl:Array (Option Η))(t:Tok) :
  abe (Lz.«enumerate.__new__» ⟨[.type "enumerate",.ref l],[("start",.int 1 t)]⟩) (λ_ R s=>s.heap.get? l=some { cls:=.type "list",dict:=dct,data:=.seq items n,slots:=sl }/\
   R (.ok (.ret (.ref (s.heap.push { cls:=.type "list_iterator",data:=.fields #[.ref l,.int 0 0] }).objs.size)))
    { s with heap:=(s.heap.push { cls:=.type "list_iterator",data:=.fields #[.ref l,.int 0 0] }).push { cls:=.type "enumerate",data:=.fields #[.none,.bool false,.ref s.heap.objs.size,rawInt 1,.none,.none] } }):=
 .of_wp λprog w A R s h=>by
  obtain⟨hp,g,d,tk,os⟩:=s;obtain⟨hl,h⟩:=h;have Uu:=sub_enumerate;have hL:V4 (Qq ⟨hp,g,d,tk,os⟩) l items:=(ύ _ hl rfl (MF n rfl))
  wp_walk using wpAny_loadPart' hl
  refine wpAny_stack_any λst=>ν ?_
  split
  ·rename_i c _ _ _ _ _
   cases (c == Pe "enumerate")
   ·wp_walk using wpAny_loadPart' hl,Fk hL
    exact(Κ _ rfl h)
   ·wp_walk using wpAny_loadPart' hl,Fk hL
    exact(Κ _ rfl h)
  ·wp_walk using wpAny_loadPart' hl,Fk hL
   exact(Κ _ rfl h)
section
variable {s:Ι}
def jt {l:Ε}{t:Tok}{Q:Η->Ι->Prop}(hL:s.heap.IsList l items)
  (h:∀h',XA h' (s.heap.objs.size+1) s.heap.objs.size 1 .none->h'.IsListIter s.heap.objs.size l 0->h'.objs.size=s.heap.objs.size+2->
   (∀b o,s.heap.get? b=some o->h'.get? b=some o)->Q (.ref (s.heap.objs.size+1)) { s with heap:=h' }) :
  wpAny (model prog w) A (call (.type "enumerate") [.ref l] [("start",.int 1 t)]) Q E s:=by
 (revert hL;refine G' λΤ hl hc=>Nc λn hd=>?_;obtain ⟨c,dct,dt,sl⟩:=Τ);replace hc:c=.type "list":=hc;replace hd:dt=.seq items n:=hd;subst hc hd;refine nJ (Q₁:=λobj s₁=>s₁.TypeIs obj "enumerate" /\ Q obj s₁) Qr (jf _ _) (jr _ _) F.entry_enumerate_new F.entry_object_init (jg l items n dct sl t) ⟨hl,?_⟩
  (λobj _ hq=>⟨hq.1,ko _ _ _,(Κ _ (kn Qr.init.lookup Qr.made (by decide)) ⟨hq.1,rfl,hq.2⟩)⟩)
 have hz:(s.heap.push { cls:=.type "list_iterator",data:=.fields #[.ref l,.int 0 0] }).objs.size=s.heap.objs.size+1:=ϣ ..;show _/\_;rw[hz]
 have he:XA ((s.heap.push { cls:=.type "list_iterator",data:=.fields #[.ref l,.int 0 0] }).push
   { cls:=.type "enumerate",data:=.fields #[.none,.bool false,.ref s.heap.objs.size,rawInt 1,.none,.none] }) (s.heap.objs.size+1) s.heap.objs.size 1 .none:=by
  have:=θ (s.heap.push { cls:=.type "list_iterator",data:=.fields #[.ref l,.int 0 0] })
   (o:={ cls:=.type "enumerate",data:=.fields #[.none,.bool false,.ref s.heap.objs.size,rawInt 1,.none,.none] }) rfl
  rw[hz] at this;exact this
 refine⟨(Κ _ he rfl),h _ he (ύ _ (Δ _ (θ _ rfl)) rfl rfl) (by rw[ϣ,hz]) λb o x=>Δ _ (Δ _ x)⟩
end
section
variable {M:M7} {s:Ι} 
def me {first:List Η}{args:List (Bool×Sem Η)}{keywords:List (Option Str×Sem Η)}{Q:Η->Ι->Prop}
  (O8:args.any (·.1)=false) (hkw:keywords.any (·.1.isNone)=false)
  (h:wpAny M A (evalArgs (.type T) true args keywords) (λa s₁=>wpAny M A (call (.type T) (first++a.pos) a.kw) Q E s₁) E s) :
  wpAny M A (callWith pos (.type T) first args keywords) Q E s:=by
 unfold callWith;refine Β (ID (ul h (λa s₁ h₁=>Β (NH ?_)) λ_ _ x=>x));simp only[O8,hkw,Uj];refine Β (ν ?_);exact Β (ul h₁ (λr s₂ hr=>Β (ID (wpAny_point (ν hr)))) λ_ _ x=>x)
def nK {rest:List bv}{Q:Η->Ι->Prop}
  (h:wpAny M A (spliced (backTo pos (starEach (e::rest) env))) (λvs s₁=>wpAny M A (evalAll ((backToKw pos (keywordEach kws env)).map (·.2)))
   (λϔ s₂=>wpAny M A (call (.type T) vs (((backToKw pos (keywordEach kws env)).filterMap (·.1)).zip ϔ)) Q E s₂) E s₁) E s)
  (he:autoParam (backTo pos (starEach (e::rest) env)=(false,eval e env)::backTo pos (starEach rest env)) L2.Ϩ._auto_1)
  (O8:autoParam ((backTo pos (starEach (e::rest) env)).any (·.1)=false) L2.Ϩ._auto_1)
  (Yl:autoParam ((backToKw pos (keywordEach kws env)).all (·.1.isSome)=true) L2.Ϩ._auto_1)
  (hkw:autoParam ((backToKw pos (keywordEach kws env)).any (·.1.isNone)=false) L2.Ϩ._auto_1) :
  wpAny M A (callWith pos (.type T) [] (backTo pos (starEach (e::rest) env)) (backToKw pos (keywordEach kws env))) Q E s:=by
 refine me O8 hkw ?_;rw[he] at h ⊢;exact adv Yl h
end
end
section
open PySem PySem.Spec PyProof.Rows
section
variable {s:Ι}
def iI {e it l:Ε}{j:Int}{old:Η}{Q:Option Η->Ι->Prop}(hh:A.handled=none)
  (he:XA s.heap e it j old) (hit:s.heap.IsListIter it l i) (hl:s.heap.IsList l items) (hx:items[i]?=none)
  (hQ:∀h',acQ it s.heap h'->Q none { s with heap:=h' }):wpAny (model prog w) A (pyNext (.ref e)) Q E s:=by
 have hT:s.TypeIs (.ref e) "enumerate":=(Κ _ he rfl)
 unfold pyNext
 refine Β (Kq (o0 (name:=Α "__next__") hT W5
  (IW W5 hT F.entry_enumerate_next ?_ (F.args_enumerate_next_1 _))))
 show wpAny _ _ (field (.ref e) 2 >>= _) _ _ _;refine Β (ϫ he rfl (x:=.ref it) rfl ?_);refine Β (wpAny_nextOf_list_end hh hit hl hx λh' x he' hx'=>?_);(revert hx';refine Ϟ λo ho hc=>?_);refine Β (Ol (T:="StopIteration") (b:=true) (Κ o ho hc) PU ?_);exact ν (hQ _ he')
end
def wa {it:Ε}{P:Nat->Η->Prop}{St:Nat->ϟ->Prop}(D:Draws prog w A it fp n P St) :
  Draws prog w A it fp (n+1) (λi=>P (i - 1)) (λi h=>1<=i/\St (i - 1) h) where
 live:=λi h st=>D.live _ _ st.2
 frame:=λi h h' st k=>⟨st.1,D.frame _ _ _ st.2 k⟩
 item:=λi s Q E hi st hQ=>D.item (i - 1) s Q E (by omega) st.2 λx h' tk hP hs sb=>hQ x h' tk hP ⟨by omega,by rw[show i+1 - 1=i - 1+1 by omega];exact hs⟩ sb
 done:=λs Q E st hE=>D.done s Q E st.2 hE
abbrev ab4 (K:Ξ)(a:Ε):It:=
 ⟨λi H=>∃xs x,GT K H a xs/\xs[i]?=some x,
  λi H v H'=>∃T x,v=.ref T/\H T=none/\H'=upd H T (.tup [.int ((i:Nat)+1),x])/\∀xs,GT K H a xs->xs[i]?=some x,
  λi H=>∃xs,GT K H a xs/\xs.length<=i⟩
def yk {P:Ϗ}{K:Ξ}(a e it:Ε)(hei:e≠it) :
  Turn P w K (.Tuple elts k0 pos) (ab4 K a) [e,it] e (λi h=>(∃old,XA h e it (((i:Nat):Int)+1) old)/\h.IsListIter it a i) where
 mem:=by simp
 obj:=λi h st c hc=>by
  obtain⟨⟨old,he⟩,⟨o1,e1,c1,d1⟩⟩:=st;simp only[Θ,Ρ,ϛ] at hc;rcases hc with rfl | rfl
  ·exact(Κ _ he (λv q=>by cases q))
  ·exact(Κ _ e1 (λv q=>by rw[d1] at q;cases q))
 keep:=λi h h' st k=>by
  obtain⟨⟨old,he⟩,h1⟩:=st;exact⟨⟨old,k _ (by simp) _ he⟩,h1.at λo e=>k _ (by simp) o e⟩
 item:=by
  intro X hP hw hK hc i pins s σ H E I hf st hg;subst hP hw hK;obtain⟨⟨old,he⟩,h1⟩:=st;(revert hg;refine sK λxs x hx ex=>?_);(refine ϭ (I.list hx) λits rv p _=>?_);(refine ρ (rv.get ex) λu hu ru=>?_);have nai:a≠it:=λz=>by
   subst z;(refine ϭ p.isList λo ho SS _=>?_);(revert h1;refine G' λo2 ho2 hc2 _=>?_);rw[ho] at ho2;cases ho2;rw[SS] at hc2;injection hc2 with z;exact absurd z (by decide)
  have nea:e≠a:=λz=>by
   subst z;(refine ϭ p.isList λo ho SS _=>?_);have he':=he;unfold XA at he';rw[ho] at he';cases he';injection SS with z;exact absurd z (by decide)
  have D:=wa (Draws.list (prog:=X.prog) (w:=X.w) (A:=X.A.in1) (I.ok.hd hc) it a nai its.toArray);have Pa:i < its.length:=(Ο.mp hu).1;refine wpAny_pyNext_enum_itemD D (i:=i+1) (by rw[show(((i+1:Nat)):Int)=(i:Int)+1 by omega];exact he) ⟨by omega,h1,p.isList⟩ (by simp;omega) hei (by simp;exact⟨hei,nea⟩) λx' h' tk hPx a1 a2' a3 a4 hk=>?_;obtain rfl:x'=u:=by
   have aiQ:its.toArray[i]?=some x':=hPx;have hu':its.toArray[i]?=some u:=by simpa using hu
   exact ϗ (aiQ.symm.trans hu')
  have a2:h'.IsListIter it a (i+1):=a2'.2.1;rw[show(((i+1:Nat)):Int)=(i:Int)+1 by omega] at a1 a3;refine(Κ _ rfl (VT a1 λWk abR sb=>?_));have fT:K1 X pins H s.heap.objs.size:=I.P' (Φ _) I.fresh;have I1:Inv X pins σ H { s with heap:=Wk,toks:=tk+1 }:=I.Mg (t':=tk+1) (l:=[e,it]) (λc o hc q=>sb.extBut _ _ (λz=>hc (by simp[z])) (hk c o (λz=>hc (by simp[z])) (λz=>hc (by simp[z])) q)) hf;have hTe:s.heap.objs.size≠e:=xL (γ he);have Wl:Wk.get? s.heap.objs.size=some { cls:=.type "tuple",data:=.seq #[.int ((i:Int)+1) tk,x'] }:=sb.extBut _ _ hTe a3;have I2:Inv X pins σ (upd H s.heap.objs.size (.tup [.int ((i:Nat)+1),x])) { s with heap:=Wk,toks:=tk+1 }:=I1.WJ (t':=tk+1) fT ⟨(by show 2<=sizeLine;decide),(Κ ([.int ((i:Int)+1) tk,x']) (.cons ⟨_,rfl⟩ (.cons ru .nil)) (ύ _ Wl rfl (MF _ rfl)))⟩ (λ_ _=>trivial);refine(Kz (.ref s.heap.objs.size) _ I2 rfl (Ky _ x rfl I.fresh rfl (λzs hq=>by rw[I.jl hq hx];exact ex)) ?_ (λc hc=>?_))
  ·exact⟨⟨x',by rw[show(((i+1:Nat)):Int)=(i:Int)+1 by omega];exact abR⟩,a2.extBut sb.extBut (ω hei)⟩
  ·have Qy:c < s.heap.objs.size:=by
    (revert h1;refine Ϟ λo1 e1 _=>?_);simp only[Θ,Ρ,ϛ] at hc;rcases hc with rfl | rfl
    ·exact γ he
    ·exact γ e1
   rw[aj (ϐ Qy)];exact(hf c hc).1
 done:=by
  intro X hP hw hK hc i pins s σ H E I hf st hg;subst hP hw hK;obtain⟨⟨old,he⟩,h1⟩:=st;(revert hg;refine Ϟ λxs hx ZR=>?_);(refine ϭ (I.list hx) λits rv p _=>?_);have l1:=rv.length;refine iI (I.ok.hd hc) he h1 p.isList (by simp;omega) λh' hk=>⟨rfl,?_⟩
  exact I.Mg (t':=s.toks) (l:=[e,it]) (λc o hc q=>hk c o (λz=>hc (by simp[z])) q) hf
 self:=λ_ _ _ _ _ st h=>by
  obtain⟨⟨old,he⟩,_⟩:=st;exact NA he h
section
variable {X:Cx}
abbrev ab5 (K:Ξ)(te:TE):TI:=λσ H R=>te σ H λv H1=>∃a xs,v=.ref a/\GT K H1 a xs/\R (ab4 K a) H1
def Dx {K:Ξ}{kp ip:Pos}{cj}(hg:Gl X "enumerate")(hm:X.mg "enumerate"=none)(hE:PE X e te)(hK:autoParam (X.K=K) L2.Ϩ._auto_1)
  (he:autoParam (backTo pos (starEach [e] X.env)=[(false,eval e X.env)]) L2.Ϩ._auto_1) (h2:autoParam (((backTo pos (starEach [e] X.env)).any (·.1)=false)) L2.Ϩ._auto_1) :
  PI X (.Tuple elts k0 X1) (.Call (.Name "enumerate" p) [e] [⟨some "start",.Constant (.int 1) cj ip,kp⟩] pos) (ab5 K te):=by
 subst hK;intro pins s σ H R I h;refine Ϸ (cZ I hg hm afU ?_ (by decide) (by decide));refine nK ?_ he h2;rw[he];refine ci (IJ (hE pins s σ H _ I h) λu s1 v H1 I1 r1 q1=>?_);refine Ix (kws_cons (IJ (ai pins s1 σ H1 (λy H2=>y=.int 1/\H2=H1) I1 ⟨rfl,rfl⟩) λu2 s2 v2 H2 I2 r2 q2=>kws_nil ?_));obtain⟨e2,e3⟩:=q2;subst e2 e3;obtain⟨t2,rfl⟩:=r2;(revert q1;refine IY λa xs Τ hx q=>?_;subst Τ);cases r1;(refine ϭ (I2.list hx) λits rx px _=>?_);refine jt px.isList λh' z1 z2 z3 hk=>?_;have I3:Inv X pins σ H2 { s2 with heap:=h' }:=I2.kept (t':=s2.toks) hk;refine NA z1 (Ov _ _ _ _ H2 rfl I3 (yk a _ _ (xL (GM _))) ⟨⟨_,(show((0:Nat):Int)+1=1 from rfl)▸z1⟩,z2⟩ (λc hc=>?_) q);have Qy:s2.heap.objs.size<=c:=by
  simp only[Θ,Ρ,ϛ] at hc;rcases hc with rfl | rfl<;>omega
 exact I2.P' Qy (I2.At.fresh Qy)
end
def yl {K:Ξ}{D:Ends}(Pv:Nat->St->Hp->Prop)(h0:Pv 0 σ H)(hl:∀i σ H,i<=xs.length->Pv i σ H->GT K H a xs)
  (hs:∀i x T σ H,xs[i]?=some x->H T=none->Pv i σ H->g (.ref T) σ (upd H T (.tup [.int ((i:Nat)+1),x])) λσ2 H2=>tb { D with nx:=Pv (i+1),ct:=Pv (i+1),bk:=D.nx } σ2 H2)
  (hd:∀σ H,Pv xs.length σ H->D.nx σ H):Ut (ab4 K a) g tb D σ H:=by
 refine(Κ (λi m σ H=>m=xs.length - i/\i<=xs.length/\Pv i σ H) (ύ _ rfl (Ϛ _) h0) ?_)
 rintro i m σ H ⟨rfl,hi,p⟩
 have lx:=hl i σ H hi p
 by_cases KI:i < xs.length
 ·refine .inr ⟨(gl xs (xs[i]) lx (by simp)),(Κ (Pv (i+1)) (λσ' H' p'=>(Jw (xs.length - (i+1)) (by omega) rfl KI p')) (λv H' y=>?_))⟩
  (revert y;refine NB λT x Τ hT IK h1=>?_;subst Τ;subst IK);exact hs i x T σ _ (h1 xs lx) hT p
 ·have e:i=xs.length:=by omega
  subst e;exact .inl ⟨(Κ xs lx (by omega)),hd σ H p⟩
def Paired.aeX {F:α->β->Prop}:∀{as:List α} {bs:List β},Paired F as bs->∀{i:Nat} {a:α},as[i]?=some a->∃b,bs[i]?=some b/\F a b
 | _,_,.nil,i,a,e=>by simp at e
 | _,_,.cons r t,i,a,e=>by
  cases i with
  | zero=>simp at e;subst e;exact(Κ _ rfl r)
  | succ i=>simpa using Paired.aeX t (by simpa using e)
def Paired.YA {F:α->β->Prop}{a:α}{b:β}(f:F a b):∀{as:List α} {bs:List β},Paired F as bs->Paired F (as++[a]) (bs++[b])
 | _,_,.nil=>.cons f .nil
 | _,_,.cons r t=>.cons r (Paired.YA f t)
abbrev Wp (J:It)(n:Nat)(g:TG)(tt:TT)(te:TE)(σ:St)(H1:Hp)(Q:VK):Prop:=∀D,H1 D=none->∃W:Nat->Nat->List V->Hp->Prop,(∃m,W 0 m [] (upd H1 D (.lst [])))/\∀i m ys H2,W i m ys H2->
 (J.stop i H2/\H2 D=some (.lst ys)/\Q (.ref D) H2)\/(J.go i H2/\ys.length < sizeLine/\∀x H3,J.WD i H2 x H3->∀o:St,o.length=n->g x (o++σ) H3 λσ' H3'=>(∃o':St,o'.length=n/\σ'=o'++σ)/\tt σ' H3' λb H4=>
  if b=true then te σ' H4 λy H5=>H5 D=some (.lst ys)/\∃m',m' < m/\W (i+1) m' (ys++[y]) (upd H5 D (.lst (ys++[y]))) else ∃m',m' < m/\W (i+1) m' ys H4)
def Hh (n:Nat)(wi:TI)(g:TG)(tt:TT)(te:TE)(σ:St)(H:Hp)(Q:VK):Wg n wi g tt te σ H Q=wi σ H λJ H1=>Wp J n g tt te σ H1 Q:=rfl
def wb {K:Ξ}(hl:Jd H a rows)(hn:rows.length<=1000)(hw:∀xs∈rows,xs.length=n)(q:List V->Bool)(f:List V->V)
  (hg:∀t xs H' (o:St) (R:St->Hp->Prop),xs∈rows->Χ H H'->H' t=some (.tup xs)->o.length=n->R (xs.map some++σ) H'->g (.ref t) (o++σ) H' R)
  (ht:∀xs H',xs∈rows->Χ H H'->∀Qt:Bool->Hp->Prop,(∀Kj,Χ H' Kj->Qt (q xs) Kj)->tt (xs.map some++σ) H' Qt)
  (he:∀xs H',xs∈rows->q xs=true->Χ H H'->∀Qe:VK,(∀Kj,Χ H' Kj->Qe (f xs) Kj)->te (xs.map some++σ) H' Qe)
  (hd:∀D H',H D=none->Χ H H'->H' D=some (.lst ((rows.filter q).map f))->Q (.ref D) H'):Wp (U3 K a) n g tt te σ H Q:=by
 (revert hl;refine Ϟ λts e hT=>?_);have hlen:=hT.length;intro D hD;refine(Κ (λi m ys H2=>m=rows.length - i/\i<=rows.length/\ys=((rows.take i).filter q).map f/\Χ H H2/\H2 D=some (.lst ys)) (RI _ rfl (Ϛ _) rfl (Χ.upd hD) ae) ?_)
 rintro i m ys H2 ⟨rfl,hi,rfl,sm,Rh⟩
 have sq:GT K H2 a (ts.map V.ref):=.inl (.inl (sm _ _ e))
 by_cases KI:i < rows.length
 ·have hsz:(((rows.take i).filter q).map f).length < sizeLine:=by
   rw[Ζ];have h1:=NR q (rows.take i);rw[Ϭ] at h1;exact Ϡ (show((rows.take i).filter q).length<=1000 by omega) (by decide)
  refine .inr ⟨(gl (ts.map V.ref) (V.ref (ts[i]'(by omega))) sq (by simp)),hsz,?_⟩
  rintro x H3 ⟨rfl,hx⟩ o ho
  have hx':=hx _ sq;rw[μ] at hx';(refine ρ (Ϙ.mp hx') λt ht1 Τ=>?_;subst Τ);(refine ρ (hT.get ht1) λxs hxs hxt=>?_);have hm:=Ν hxs;have htk:rows.take (i+1)=rows.take i++[xs]:=by rw[bi,hxs];rfl
  refine hg t xs H3 o _ hm sm (sm _ _ hxt) ho ⟨(Κ (xs.map some) (by rw[Ζ];exact hw xs hm) rfl),ht xs H3 hm sm _ λH4 s4=>?_⟩
  by_cases c:q xs=true
  ·rw[δ c]
   refine he xs H4 hm c (sm.trans s4) _ λH5 s5=>⟨s5 _ _ (s4 _ _ Rh),(P7 (rows.length - (i+1)) (by omega) rfl KI ?_ ?_ ae)⟩
   ·rw[htk,LV,ϖ,List.filter_cons_of_pos c,RD];rfl
   ·intro b o' hb
    rw[aj (aD hb hD)];exact s5 _ _ (s4 _ _ (sm _ _ hb))
  ·rw[Υ c]
   refine(P7 (rows.length - (i+1)) (by omega) rfl KI ?_ (sm.trans s4) (s4 _ _ Rh));rw[htk,LV,List.filter_cons_of_neg c,RD,Ke]
 ·have:i=rows.length:=by omega
  subst this;refine .inl ⟨(Κ (ts.map V.ref) sq (by rw[Ζ];omega)),Rh,?_⟩;rw[sB] at Rh;exact hd D H2 hD sm Rh
end
section
open PySem PySem.Spec PyProof.Rows PySem.Calls
abbrev agn (C:Ε)(E:XK):TS:=λ_ _ H=>E (.ref C) none H
end
section
open PySem PySem.Spec PyProof.Rows Builtin Builtin.ObjectAttr
abbrev XD (H:Hp)(dx:Option Ε)(fs:List (Str×V)):Prop:=(dx=none/\fs=[])\/∃d,dx=some d/\H d=some (Yz d fs)
def XD.same {dx:Option Ε}{fs:List (Str×V)}(h:XD H dx fs)(s:Χ H H'):XD H' dx fs:=by
 rcases h with h | ⟨d,e,h⟩
 ·exact .inl h
 ·exact .inr (Κ d e (s _ _ h))
abbrev XB (E:XK)(H:Hp)(C:Ε)(fs:List (Str×V)):Prop:=∀dx H',Χ H H'->XD H' dx fs->(∀d,dx=some d->H d=none)->E (.ref C) dx H'
abbrev XG (H:Hp)(C:Ε)(fs:List (Str×V)):XK:=λc dx H'=>c=.ref C/\Χ H H'/\XD H' dx fs/\∀d,dx=some d->H d=none
def HH {fs:List (Str×V)}:XB (XG H C fs) H C fs:=λ_ _ s d n=>⟨rfl,s,d,n⟩
def XB.bears {E:XK}{fs:List (Str×V)}(h:XB E H C fs):aeI E H C fs:=λd H' hd s e=>h (some d) H' s (.inr (Κ d rfl e)) λd' z=>by cases z;exact hd
def XB.back {E:XK}{fs:List (Str×V)}(h:XB E H C fs)(s:Χ H H1):XB E H1 C fs:=λdx H' s' d n=>h dx H' (s.trans s') d λd' z=>aV s (n d' z)
def XG.at {D:Ε}{fs:List (Str×V)}{dx:Option Ε}(g:XG H C fs (.ref D) dx H')(he:H' ea=none):D=C/\Χ H (upd H' ea (xh ea C dx))/\upd H' ea (xh ea C dx) ea=some (xh ea C dx)/\XD (upd H' ea (xh ea C dx)) dx fs:=by
 (revert g;refine Um λe sm hd _=>?_);cases e;refine⟨rfl,λb o hb=>(aj (aD (sm _ _ hb) he)).trans (sm _ _ hb),ae,hd.same λb o hb=>(aj (aD hb he)).trans hb⟩
end
section
def Dy (a b:Nat):a ^^^ b=2 * ((a / 2) ^^^ (b / 2))+(if a % 2≠b % 2 then 1 else 0):=by
 have h1:(a ^^^ b) / 2=(a / 2) ^^^ (b / 2):=Nat.xor_div_two;have h2:(a ^^^ b) % 2=(if a % 2≠b % 2 then 1 else 0):=by
  have:=@Nat.xor_mod_two_eq_one a b
  by_cases h:a % 2≠b % 2
  ·rw[δ h];rw[this];omega
  ·rw[Υ h]
   have h3:¬((a ^^^ b) % 2=1):=by rw[this];omega
   omega
 omega
def wc (a b:Nat):a &&& b=2 * ((a / 2) &&& (b / 2))+(if a % 2=1/\b % 2=1 then 1 else 0):=by
 have h1:(a &&& b) / 2=(a / 2) &&& (b / 2):=Nat.and_div_two;have h2:(a &&& b) % 2=(if a % 2=1/\b % 2=1 then 1 else 0):=by
  have:=@Nat.and_mod_two_eq_one a b
  by_cases h:a % 2=1/\b % 2=1
  ·rw[δ h];exact this.mpr h
  ·rw[Υ h]
   have h3:¬((a &&& b) % 2=1):=λz=>h (this.mp z);omega
 omega
def EX {X Y A B p q e f:Nat}(h:X+2 * Y=A+B)(h2:e+2 * f=p+q):2 * X+e+2 * (2 * Y+f)=2 * A+p+(2 * B+q):=by omega
def EY (a:Nat):∀b:Nat,(a ^^^ b)+2 * (a &&& b)=a+b:=by
 induction a using SN with
 | ind a ih=>
  intro b
  by_cases h:a=0
  ·subst h;simp
  ·rw[Dy a b,wc a b]
   refine(EX (p:=a % 2) (q:=b % 2) (ih (a / 2) (Nat.div_lt_self (Nat.pos_of_ne_zero h) (by decide)) (b / 2)) ?_).trans (by rw[SO,SO]);rcases Tp a with h1 | h1<;>rcases Tp b with h2 | h2<;>rw[h1,h2]<;>rfl
def qq (a b:Nat):PySem.Builtin.bitAnd (a:Int) (b:Int)=((a &&& b:Nat):Int):=by
 unfold PySem.Builtin.bitAnd;have h1:decide (0<=(a:Int))=true:=by simp
 have h2:decide (0<=(b:Int))=true:=by simp
 rw[h1,h2];rfl
def ym (a b:Nat):PySem.Builtin.bitXor (a:Int) (b:Int)=((a ^^^ b:Nat):Int):=by
 have q:=EY a b;rw[adw,qq];omega
abbrev rot (n:Nat):Nat:=2 * (n % 32768)+n / 32768
def GK (h:n < 65536):rot n < 65536:=by unfold rot;omega
def Dz {a b:Nat}(ha:a < 65536)(hb:b < 65536):a ^^^ b < 65536:=Nat.xor_lt_two_pow (n:=16) ha hb
abbrev sumF (h:Nat)(cs:List Nat):Nat:=cs.foldl (λh c=>rot h ^^^ c) h
def zP {cs:List Nat}(hc:∀c∈cs,c < 65536):∀{h:Nat},h < 65536->sumF h cs < 65536:=by
 induction cs with
 | nil=>intro h hh;exact hh
 | cons c r ih=>intro h hh;exact ih (λx hx=>hc x (ε _ hx)) (Dz (GK hh) (hc c zn))
def DA {c:Nat}(hn:n < 65536):PySem.Builtin.bitXor (PySem.Builtin.bitOr (PySem.Builtin.bitAnd ((n:Int) * 2) 65535) ((n:Int) / 32768)) (c:Int)=((rot n ^^^ c:Nat):Int):=by
 have e1:(n:Int) * 2 % 65536=((2 * (n % 32768):Nat):Int):=by omega
 have e2:(n:Int) / 32768=((n / 32768:Nat):Int):=by omega
 rw[adx,e1,e2,ady,qq,wc];have h1:n / 32768 / 2=0:=by omega
 rw[h1,Nat.and_zero,Υ (by omega)];rw[<-ym];unfold rot;congr 1
def Bj {l:List Nat}{c:Nat}(h:l[i]?=some c):sumF 0 (l.take (i+1))=rot (sumF 0 (l.take i)) ^^^ c:=by
 rw[bi,h];simp[sumF,XE]
end
section
open PySem PySem.Spec PyProof.Rows
def YB {t1:TS}{D:Ends}{σ:L2.St}(h:∀R,R=tR->O5 t1 R D σ H):O5 t1 tR D σ H:=h _ rfl
def aiR {t1 t2:TS}{D:Ends}{σ:L2.St}(h:∀R,R=tR->O5 t1 (O5 t2 R) D σ H):O5 t1 (O5 t2 tR) D σ H:=h _ rfl
def el1 {p:List α->Prop}(h:∀a,p [a]):∀us:List α,us.length=1->p us
 | [a],_=>h a
def el2 {p:List α->Prop}(h:∀a b,p [a,b]):∀us:List α,us.length=2->p us
 | [a,b],_=>h a b
def el3 {p:List α->Prop}(h:∀a b c,p [a,b,c]):∀us:List α,us.length=3->p us
 | [a,b,c],_=>h a b c
def el4 {p:List α->Prop}(h:∀a b c d,p [a,b,c,d]):∀us:List α,us.length=4->p us
 | [a,b,c,d],_=>h a b c d
def el5 {p:List α->Prop}(h:∀a b c d e,p [a,b,c,d,e]):∀us:List α,us.length=5->p us
 | [a,b,c,d,e],_=>h a b c d e
def el7 {p:List α->Prop}(h:∀a b c d e f g,p [a,b,c,d,e,f,g]):∀us:List α,us.length=7->p us
 | [a,b,c,d,e,f,g],_=>h a b c d e f g
abbrev aiT (K:Ξ):List V->Hp->VK->Prop:=λxs H Q=>∃p ys,xs=[.ref p]/\((GT K H p ys/\∀l,H l=none->Q (.ref l) (upd H l (.tup ys)))\/(JZ K H p ys/\Q (.ref p) H))
noncomputable abbrev ab7:Str:=Α "table"
noncomputable abbrev ab8:Str:=Α "stream"
abbrev RU:V->Bool
 | .str z=>decide (z=ab7) || decide (z=ab8)
 | _=>false
inductive RV (H:Hp):V->Prop
 | cr:RV H .cr
 | bl (b:Bool):RV H (.bl b)
 | int (i:Int):RV H (.int i)
 | str (z:Str):RV H (.str z)
 | lst {p:Ε} {xs:List V} (h:H p=some (.lst xs)):RV H (.ref p)
inductive aaR (H:Hp):V->Bool->Prop
 | good {t:Ε} {x:Jn}:H t=some (.tup x.v)->WM x->aaR H (.ref t) true
def Tv.same {v:V}(h:Tv H v)(s:Χ H H'):Tv H' v:=by
 cases h with
 | cr=>exact .cr
 | bl b=>exact .bl b
 | int i=>exact .int i
 | str l h=>exact .str l h
 | lst h=>exact .lst (s _ _ h)
 | tup h=>exact .tup (s _ _ h)
def RV.same {v:V}(h:RV H v)(s:Χ H H'):RV H' v:=by
 cases h with
 | cr=>exact .cr
 | bl b=>exact .bl b
 | int i=>exact .int i
 | str z=>exact .str z
 | lst h=>exact .lst (s _ _ h)
inductive ab9 (H:Hp):V->Bool->Prop
 | good {p:Ε} {xs:List Jn}:Jd H p (xs.map Jn.v)->JK xs->ab9 H (.ref p) true
abbrev we:Sp:=λvs H Q _=>∃v,vs=[v]/\RV H v/\Q (.bl (RU v)) H
abbrev mh:Sp:=λvs H Q _=>∃v b,vs=[v]/\aaR H v b/\∀H',Χ H H'->Q (.bl b) H'
abbrev oY:Sp:=λvs H Q _=>∃v b,vs=[v]/\ab9 H v b/\∀H',Χ H H'->Q (.bl b) H'
abbrev wg (C CB:Ε):Sp:=λvs H Q E=>∃(x dx:Ε) (v:V),vs=[.ref x,v]/\H x=some (.ins C dx [])/\
 ((∃(p:Ε) (xs:List Jn),v=.ref p/\Jd H p (xs.map Jn.v)/\JK xs/\∀l H',H l=none->ϳ [x] H H'->Rf C H' x l xs->Q .cr H')\/(ab9 H v false/\XB E H CB []))
abbrev yn (C:Ε):Sp:=λvs H Q _=>∃(s l:Ε) (xs:List Jn),vs=[.ref s]/\Rf C H s l xs/\∀D H',H D=none->Χ H H'->Jd H' D (xs.map Jn.v)->Q (.ref D) H'
abbrev qr (C:Ε):Sp:=λvs H Q _=>∃(s l:Ε) (xs:List Jn) (nm:List Nat),vs=[.ref s,.str (S nm)]/\Rf C H s l xs/\JK xs/\
 ∃k x,xs[k]?=some x/\x.name=nm/\∀D H',H D=none->Χ H H'->H' D=some (.lst (Qf (Ϝ xs k) x.rows))->Q (.ref D) H'
abbrev qu (C:Ε):Sp:=λvs H Q _=>∃(s l:Ε) (xs:List Jn) (nm key:List Nat),vs=[.ref s,.str (S nm),.str (S key)]/\Rf C H s l xs/\JK xs/\
 ∃k x,xs[k]?=some x/\x.name=nm/\∀H',Χ H H'->Q (.int (Mh xs k x key)) H'
abbrev yo (C CN:Ε):Sp:=λvs H Q E=>∃(s l:Ε) (xs:List Jn) (r:Int),vs=[.ref s,.int r]/\Rf C H s l xs/\JK xs/\
 ((∃k x,xs[k]?=some x/\(Ϝ xs k:Int)<=r/\r < Ϝ xs (k+1)/\∀t,H t=some (.tup x.v)->Q (.ref t) H)\/((r < 0\/(Ϝ xs xs.length:Int)<=r)/\XB E H CN [("name",.int r)]))
abbrev DB (i:Nat)(C CN:Ε):Sp:=λvs H Q E=>∃(s l:Ε) (xs:List Jn) (r:Int),vs=[.ref s,.int r]/\Rf C H s l xs/\JK xs/\
 ((∃k x,xs[k]?=some x/\(Ϝ xs k:Int)<=r/\r < Ϝ xs (k+1)/\Q (it i x.v) H)\/((r < 0\/(Ϝ xs xs.length:Int)<=r)/\XB E H CN [("name",.int r)]))
abbrev sz5 (c:Int):Nat:=(1+JG c 61 % 12).toNat
abbrev at5 (c:Int):Nat:=(JG c 62 % (1+JG c 61 % 12)).toNat
abbrev nb5 (c:Int):List Nat:=(io (sz5 c)).map λ(k:Nat)=>Yw (JG c (70+(0+(k:Int))))
abbrev nm5 (c:Int)(k:Nat):List Nat:=(nb5 c).set (at5 c) (Yw (JG c 63 % 36+(0+(k:Int))))
abbrev names5 (c:Int)(m:Nat):List (List Nat):=(io m).map (nm5 c)
def zQ {l:List Nat}(h:l.all Vg=true):RP l:=λx hx=>by
 have:=IM.mp h x hx;unfold Vg at this;have hm:x∈Yv:=of_decide_eq_true this;have:∀y∈Yv,y < 1114112:=by decide
 exact this x hm
abbrev Hi:Sp:=λvs H Q _=>∃(c:Int) (m:Nat),vs=[.int c,.int m]/\1<=m/\m<=36/\∀D H',H D=none->Χ H H'->H' D=some (.lst ((names5 c m).map λl=>.str (S l)))->Q (.ref D) H'
noncomputable abbrev Cx.Wq (X:Cx)(m:Option Η):Cx:={ X with A:=X.A.mark m,calm:=false }
def Inv.Wq {X:Cx}{s:Ι}(I:Inv X pins σ H s)(m:Option Η):Inv (X.Wq m) pins σ H s:=
 ⟨⟨I.ok.mod,I.ok.kind,I.ok.glob,I.ok.blt,I.ok.above,I.ok.inj,I.ok.has,I.ok.cab,(λz=>nomatch z),I.ok.frames,I.ok.stk,I.ok.exf,I.ok.bs,I.ok.XI,I.ok.Up,I.ok.V8,I.ok.NU,I.ok.XJ⟩,I.os,I.bare,I.base,I.loc,I.cell,I.free,I.Lk,I.pin,I.At,I.len⟩
def zR {m:Option Η}(h:A.handled=none):(A.mark m).handled=m:=by
 show m.or A.handled=m;rw[h];cases m<;>rfl
structure Zg (P:Ϗ)(w:IH)(K:Ξ)(mg:Str->Option Η)(base:ϟ)(k:Nat)(f:Ε)(fd:Jr)(ps:List Str)(sp:Sp):Prop where
 len:∀vs H Q E,sp vs H Q E->vs.length=ps.length
 run:∀(A:K') (m:Option Η) (outer:List Env) (s:Ι) (H:Hp) (args:Args) (us:List Η) (vs:List V) (Q:VK) (E:XK),Jf k A->HP m s.heap H (NP outer) []->U6 P w K mg base A outer s H->SK s fd args (ps.zip us)->Vals vs us->sp vs H Q E->
  codeAny (model P w) (A.mark m) (.call (.ref f) args) (CR IL outer P w H s Q E) s
section
variable {P:Ϗ} {K:Ξ} {base:ϟ} {k:Nat} {ps:List Str} 
def Zg.ok (F:Zg P w K mg base k f fd ps sp):Ϥ P w K mg base IL k f fd ps sp:=
 ⟨F.len,λA outer s H args us vs Q E hr e0 hb r h=>az9 A▸F.run A none outer s H args us vs Q E hr (.inl rfl) e0 hb r h⟩
def DC {X:Cx}{s:Ι}{fl:Flow}(hs:SP X [] { nx:=λ_ H'=>Q .cr H',rt:=Q } fl s')(e1:X.s₀=s)(e2:X.H₀=H)(e3:X.fs=NP outer)(e4:X.ex=[])(e5:X.prog=P)(e6:X.w=w){E:XK} :
  CR IL outer P w H s Q E (.ok (.ret (match fl with | .ret v=>v | _=>.none))) s':=by
 subst e1 e2 e5 e6;have fin:∀{σ':St} {H':Hp} {v:V} {u:Η},Inv X [] σ' H' s'->RelV v u->Q v H'->CE outer X.prog X.w X.H₀ X.s₀ Q u s':=
  λ{σ' H' v u} J rv q=>(Kz v H' J.os J.bare (e3▸e4▸J.base) J.At ⟨rv,q⟩)
 cases fl with
 | ret u=>obtain⟨v,σ',H',J,rv,q⟩:=hs;exact fin J rv q
 | next=>obtain⟨σ',H',J,q⟩:=hs;exact fin (v:=V.cr) (u:=be) J rfl q
 | brk=>obtain⟨_,_,_,q⟩:=hs;exact ϲ q
 | cont=>obtain⟨_,_,_,q⟩:=hs;exact ϲ q
def WG.okV {st:ϙ}{N:List Str}(F:WG K x qual st f fd)(S:η N ps (Λ st))(len:∀vs H Q E,sp vs H Q E->vs.length=ps.length)
  (MX:∀(Ϲ:Η) (A:K') (m:Option Η) (outer:List Env) (s:Ι) (H:Hp) (vs:List V) (Q:VK) (E:XK),Jf k (A.deeper (envOfC qual (Λ st) s.heap.objs.size f Ϲ))->((NW IL P w K mg base N qual (Λ st) f Ϲ A outer s H E).Wq m).Kf.qt->sp vs H Q E->
   ∃t,Rt ((NW IL P w K mg base N qual (Λ st) f Ϲ A outer s H E).Wq m).Kf (Da st) t/\t { nx:=λ_ H'=>Q .cr H',rt:=Q } (start N vs) H):Zg P w K mg base (k+1) f fd ps sp:=by
 (refine P8 F.ex λoc od kV doc pm an=>Kx λϹ ct SR Τ lk SU=>?_;subst Τ);refine⟨len,λA m outer s H args us vs Q E hr hp e0 hb r Rb=>?_⟩;have hl:=len _ _ _ _ Rb;have KX:K.In s.heap:=e0.mod.WC.keeps λb o e=>(e0.bs b o e).1;have lim:s.heap.NoLimit:=e0.mod.nolimit.keeps λb o e=>(e0.bs b o e).1;have Yi:∀y∈ps.zip us,(Λ st).names.lookup y.1=some .local\/((Λ st).names.lookup y.1=some .cell/\((cellsFrom (s.heap.objs.size+1) (Λ st).names []).lookup y.1).isSome=true):=λ⟨n,v⟩ hy=>by
  rcases S.par n (NJ hy).1 with q | q
  ·exact .inl q
  ·exact .inr ⟨q,SL _ _ _ (.inl q)⟩
 refine XS (A:=A.mark m) hr.depth (KX _ _ lk) rfl S.co S.gen rfl (Ww KX SU) (hb _ _ _ _ ?_);refine VS S.kind Yi λenv he s1 x=>?_;subst he;refine⟨lim.keeps x.toInCall.keep,asg ?_⟩;(refine ρ (MX Ϲ A m outer s H vs Q E (hr.deeper _) (show HP _ _ _ _ _ from(zR (A:=A.deeper _) hr.hd).symm▸hp) Rb) λt ht hq=>?_);have I:Inv (NW IL P w K mg base N qual (Λ st) f Ϲ A outer s H E) [] (start N vs) H s1:=nE S hr.hd e0 hl r x;refine ul (ht [] s1 (start N vs) H _ ((I.Wq m).Nj _) hq) (λfl s' hs=>?_) λe s' hs=>hs.elim;have z:=DC (P:=P) (w:=w) (outer:=outer) (E:=E) hs rfl rfl rfl rfl rfl rfl;cases fl<;>exact z
end
section
variable {Y:Cx} {B:K'} {m:Option Η} {k:Nat} {ps:List Str}        
def zS {s:Ι}{us:List Η}{vs:List V}(F:Zg Y.prog Y.w Y.K Y.mg Y.base k f fd ps sp)(hr:Jf k B)(hA:Y.A=B.mark m)(hp:HP m s.heap H (NP Y.stack) [])(hb:Binds Y.K fd ps ds)(hd:Vals dvs ds)
  (I:Inv Y pins σ H s) (r:Vals vs us) (h:sp (vs++dvs) H Q E0):wpAny (model Y.prog Y.w) Y.A (call (.ref f) us) (EP Y pins σ Q) Y.xe s:=by
 have r2:Vals (vs++dvs) (us++ds):=r.append hd;have hl:(us++ds).length=ps.length:=by rw[<-r2.length];exact F.len _ _ _ _ h
 have e0:=I.Yg;have fr:B.frames=some Y.stack:=by have:=e0.frames;rw[hA] at this;exact this
 refine KC (IV (hA▸F.run B m Y.stack s H ⟨us,[]⟩ (us++ds) (vs++dvs) Q E0 hr hp ⟨fr,e0.mod,e0.bs,e0.XI,e0.NU,e0.XJ,e0.At,e0.bare⟩ (hb s us I.LZ hl) r2 h) λr s' hq=>?_);cases r with
 | error e=>exact ϲ hq
 | ok fl=>
  cases fl with
  | ret u=>exact I.after hq
  | next=>exact ϲ hq
  | brk=>exact ϲ hq
  | cont=>exact ϲ hq
def wj (F:Zg Y.prog Y.w Y.K Y.mg Y.base k f fd ps sp)(hr:Jf k B)(hq:Y.qt)(hg:Gl Y x)(hm:Y.mg x=some (.ref f))(hk:Jg Y.K (.ref f)=true)(hb:Binds Y.K fd ps ds)(hd:Vals dvs ds)
  (ha:PA Y (e::es) t) (hA:autoParam (Y.A=B.mark m) L2.Ϩ._auto_1) (S8:autoParam ((x == ("__debug__":Str))=false) L2.Kh._auto_1) (he:autoParam (starEach (e::es) Y.env=(false,eval e Y.env)::starEach es Y.env) L2.Ϩ._auto_1) (NV:autoParam ((backTo pos (starEach es Y.env)).any (·.1)=false) L2.Ϩ._auto_1) :
  PE Y (.Call (.Name x p) (e::es) [] pos) (Yh sp dvs E0 t):=by
 intro pins s σ H Q I h;refine Ϸ (dU I hg hm ?_ S8);refine Jz (h₀:=Y.base) I.ok.mod.WC hk (Ow (ha pos pins s σ H _ I h) λus s1 vs H1 I1 r q=>⟨I1.LZ,?_⟩) he NV;refine zS F hr hA ?_ hb hd I1 r q;have z:=I1.qt hq (fp:=[]) (λ_ z=>nomatch z);rw[hA,zR hr.hd] at z;exact z
def DD {X:Cx}{l:bv}{y:Str}{K:Ξ}(N M:List Str)(sc:Oi)(O:RL N M sc y scope)(hq:X.qt)(hl:PE X l tl)(VY:∀(C:Ε) (s₀:Ι) (H₀:Hp) (fp:List Ε),(Kl X [y] scope M C s₀ H₀ fp).qt->PE (U' X y scope M C s₀ H₀ fp) elt te)
  (hX:autoParam (X.N=N) L2.Ϩ._auto_1) (SV:autoParam (X.env.scope=sc) L2.Ϩ._auto_1) (hs:autoParam (∀x,foldedSetIterable l X.env x=pure x) L2.S6._auto_1) (hK:autoParam (X.K=K) L2.Ϩ._auto_1) :
  PE X (.ListComp elt [⟨.Name y py,l,[],0⟩] scope pos) (RM (Yc K tl) ND te):=
 hK▸vJ (cc:=Cx.qt) (λ_ _ _ _ _ _ I hf=>I.qt hq hf) hX SV O (vy hl) (λC s₀ H₀ fp pins s σ H Q I h=>UN (Κ H I h)) VY hs
def EZ {X:Cx}{l:bv}{K:Ξ}(hp:WY (model X.prog X.w) X.A X.env X.xe)(hq:X.qt)(hl:PE X l tl)(hg:PG X tg g)(hb:Rt X body tb)
  (hs:autoParam (∀x,foldedSetIterable l X.env x=pure x) L2.S6._auto_1) (hK:autoParam (X.K=K) L2.Ϩ._auto_1):PS X (.For tg l body [] pos) (ZD (Yc K tl) g tb):=hK▸zu hp hq (vy hl) hg hb hs
end
abbrev ϡ (c:Nat):List Nat->List (List Nat)
 | []=>[[]]
 | x::r=>if x=c then[]::ϡ c r else match ϡ c r with
  | []=>[[x]]
  | p::ps=>(x::p)::ps
def oC {c:Nat}:∀{p:List Nat},c∉p->ϡ c p=[p]
 | [],_=>rfl
 | x::r,h=>by
  rw[Θ,ads] at h;rw[ϡ,Υ (ω h.1),oC h.2]
def qv {c:Nat}{r:List Nat}:∀{p:List Nat},c∉p->ϡ c (p++c::r)=p::ϡ c r
 | [],_=>by rw[IG,ϡ,δ rfl]
 | x::p,h=>by
  rw[Θ,ads] at h;rw[ii,ϡ,Υ (ω h.1),qv h.2]
def ju {c:Nat}:∀{ps:List (List Nat)},ps≠[]->(∀p∈ps,c∉p)->ϡ c (db [c] ps)=ps
 | [],h,_=>absurd rfl h
 | [p],_,h=>by rw[db];exact oC (h p (by simp))
 | p::q::r,_,h=>by
  show ϡ c (p++[c]++db [c] (q::r))=_;rw[Kv];show ϡ c (p++c::db [c] (q::r))=_;rw[qv (h p (by simp)),ju (by simp) λz hz=>h z (ε _ hz)]
def uI (c:Nat)(a:List Nat):Txt.split (S a) (S [c])=(ϡ c a).map S:=by
 have e1:=azb (S a) (S [c]);have e2:=azc (S a) c;have ne:Txt.split (S a) (S [c])≠[]:=by
  intro z;rw[z] at e1;have:a=[]:=by
   have:=congrArg (λz:Str=>z.cps.toList) e1;exact this.symm
  subst this;have:Txt.split (S []) (S [c])=[S []]:=by
   unfold Txt.split;rw[δ (by rfl)]
  rw[this] at z;cases z
 have e3:Txt.split (S a) (S [c])=((Txt.split (S a) (S [c])).map λz=>z.cps.toList).map S:=by
  rw[χ]
  conv=>lhs;rw[<-List.map_id (Txt.split (S a) (S [c]))]
  refine im λz _=>?_;cases z;simp[S]
 generalize ZY:(Txt.split (S a) (S [c])).map (λz=>z.cps.toList)=ps at e3;rw[e3,uv] at e1;have e4:db [c] ps=a:=C8 e1;have e5:=ju (c:=c) (ps:=ps) (by intro z;rw[z] at ZY;exact ne (List.map_eq_nil_iff.mp ZY)) λp hp=>by
  rw[<-ZY] at hp;(refine ρ (τ.mp hp) λz hz Τ=>?_;subst Τ);exact e2 z hz
 rw[e3,<-e5,e4]
def Bk (c:Nat)(a z:List Nat):Txt.replace (S a) (S [c]) (S z)=S (db z (ϡ c a)):=by
 have:=azd (S a) (S z) c;rw[show(⟨#[c]⟩:Str)=S [c] from rfl,uI,uv] at this;exact this
def cS (c:Nat):∀a:List Nat,(ϡ c a).length<=a.length+1
 | []=>Φ _
 | x::r=>by
  have ih:=cS c r;rw[ϡ]
  by_cases e:x=c
  ·rw[δ e];simp;omega
  ·rw[Υ e]
   cases h:ϡ c r with
   | nil=>simp
   | cons p ps=>rw[h] at ih;simp at ih ⊢;omega
section
variable {X:Cx}
abbrev rSw:V->List V->Hp->VK->Prop:=λx vs H Q=>∃a b,x=.str a/\vs=[.str b]/\Q (.bl (Txt.startswith a b)) H
def dX:MtR X "str.startswith" rSw:=by
 intro pins s σ H x vs v us Q I rx rv h;(revert h;refine IY λa b Τ IK q=>?_;subst Τ;subst IK);obtain⟨t,rfl⟩:=rx;(refine ρ (vals1 rv) λu Τ=>Nc λt' IK=>?_;subst Τ;subst IK);exact SC.startswith (ϒ (.bl _) H I rfl q)
def eO (c:Nat)(a:List Nat):Txt.startswith (S a) (S [c])=decide (a[0]?=some c):=by
 have h:=aze (S a) c 0;have e:Txt.startswith (S a) (S [c])=(decide (0+(S [c]).length<=(S a).length) && afZ (S a) (S [c]) 0):=rfl;rw[e,Ln,Ϣ,wn,wn];exact h
abbrev ab':V->List V->Hp->VK->Prop:=λx vs H Q=>∃a c,x=.str (S a)/\vs=[.str (S [c])]/\a.length<=1000000/\∀l,H l=none->Q (.ref l) (upd H l (.lst ((ϡ c a).map λp=>V.str (S p))))
open Builtin Builtin.Str in
def jv:MtR X "str.split" ab':=by
 intro pins s σ H x vs v us Q I rx rv h;(revert h;refine NB λa c Τ IK hl q=>?_;subst Τ;subst IK);obtain⟨t,rfl⟩:=rx;(refine ρ (vals1 rv) λu Τ=>Nc λt' IK=>?_;subst Τ;subst IK);have sl:(1000001:Nat)<=sizeLine:=by decide
 have hz:((ϡ c a).map λp=>V.str (S p)).length<=sizeLine:=by
  rw[Ζ];exact ζ (ζ (cS c a) (by omega)) sl
 have fin:∀(l:List (Str×Tok)) (k:Nat),l.map (·.1)=Txt.split (S a) (S [c])->EP X pins σ Q (.ref s.heap.objs.size) { s with toks:=k,heap:=s.heap.push { cls:=.type "list",data:=.seq (strValues l).toArray } }:=λl k e=>by
  rw[uI] at e;have hv:Vals ((ϡ c a).map λp=>V.str (S p)) (strValues l):=by
   generalize ϡ c a=ps at e
   induction ps generalizing l with
   | nil=>cases l with
    | nil=>exact .nil
    | cons y l=>cases e
   | cons p ps ih=>cases l with
    | nil=>cases e
    | cons y l=>
     obtain⟨y1,y2⟩:=y;have e':=asm e;have e1:y1=S p:=e'.1;subst e1;exact .cons ⟨y2,rfl⟩ (ih l e'.2)
  exact(ϒ (.ref _) _ (I.laid (t':=k) (λb o hb=>Δ _ hb) (Φ _) (show EQ X.prog X.w _ _ _ (.lst _) from⟨hz,(gl (strValues l) _ hv (θ _ rfl))⟩)) rfl (q _ (I.At.fresh (Φ _))))
 have hx:(S a).length<=sizeLine:=by rw[cm];omega
 have hy:((S [c]).length == 0)=false:=rfl;cases h1:(decide ((S a).length < (S [c]).length) || decide (S5 (S a) < S5 (S [c])))
 ·cases hf:(occurrences (S a) (S [c]) 0 (S a).length ((S a).length+1)).isEmpty
  ·have es:Txt.split (S a) (S [c])=partsBetween (S a) (occurrences (S a) (S [c]) 0 (S a).length ((S a).length+1)) (S [c]).length:=(Υ (ne_true_of_eq_false h1)).trans (Υ (ne_true_of_eq_false hf))
   have hn:(partsBetween (S a) (occurrences (S a) (S [c]) 0 (S a).length ((S a).length+1)) (S [c]).length).length<=sizeLine:=by
    rw[<-es,uI,Ζ];exact ζ (ζ (cS c a) (by omega)) sl
   refine Rq SQ (M8 _ _ _) Rr (Qs _ _) (meets_str_split_sep (S a) (S [c]) t t' h1 hy hf hx hn) ?_;have:=fin (numbered s.toks (partsBetween (S a) (occurrences (S a) (S [c]) 0 (S a).length ((S a).length+1)) (S [c]).length)) (s.toks+(partsBetween (S a) (occurrences (S a) (S [c]) 0 (S a).length ((S a).length+1)) (S [c]).length).length) ((numbered_texts _ _).trans es.symm);rw[<-strsFrom_eq] at this;exact this
  ·exact Rq SQ (M8 _ _ _) Rr (Qs _ _) (meets_str_split_not_found (S a) (S [c]) t t' h1 hy hf) (fin [(S a,t)] s.toks ((Υ (ne_true_of_eq_false h1)).trans (δ hf)).symm)
 ·exact Rq SQ (M8 _ _ _) Rr (Qs _ _) (meets_str_split_cannot_occur (S a) (S [c]) t t' h1) (fin [(S a,t)] s.toks (δ h1).symm)
end
def nL {M:M7}{Γ:PySem.Ctx}{t:Sem PySem.Fin}{fs:List Frame}{s:Ι}{e:End}(h:Runs M Γ p t fs s e s'):s.toks<=s'.toks:=by
 induction h<;>first
  | exact Φ _
  | assumption
  | (rename_i ih;exact ih)
  | (rename_i ih1 ih2;exact ζ ih1 ih2)
  | (rename_i ih;exact ζ (Lj _) ih)
def yp {M:M7}{Γ:PySem.Ctx}{g:Nat}{r:Resume}{s:Ι}{res:GenResult}(h:Wakes M Γ p g r s res s'):s.toks<=s'.toks:=by
 unfold Wakes at h
 split at h
 ·exact h.elim
 ·split at h
  ·(revert h;refine NB λe s1 hr _ _ Τ=>?_;subst Τ)
   have:=nL hr;exact this
  ·rw[h.2];exact Φ _
  ·rw[h.2];exact Φ _
 ·(revert h;refine NB λe s1 hr _ _ Τ=>?_;subst Τ)
  have:=nL hr;exact this
 ·rw[h.2];exact Φ _
 ·rw[h.2];exact Φ _
def wp_toks {M:M7}{Γ:PySem.Ctx}(t:Sem α):∀(Q:α->Pos->Ι->Prop) (E:Η->Pos->Ι->Prop) (p:Pos) (s:Ι) (n:Nat),n<=s.toks->Me M Γ t Q E p s->
  Me M Γ t (λa p' s'=>Q a p' s'/\n<=s'.toks) (λe p' s'=>E e p' s'/\n<=s'.toks) p s:=by
 induction t with
 | pure a=>intro Q E p s n hn h;rw[Me] at h ⊢;exact⟨h,hn⟩
 | raise a=>intro Q E p s n hn h;rw[Me] at h ⊢;exact⟨h,hn⟩
 | load a pt k ih=>intro Q E p s n hn h;rw[Me] at h ⊢;(revert h;refine Ϟ λo h1 h2=>?_);exact(Κ o h1 (ih _ _ _ _ _ _ hn h2))
 | update a pt f k ih=>intro Q E p s n hn h;rw[Me] at h ⊢;exact⟨h.1,ih _ _ _ _ _ _ hn h.2⟩
 | fresh k ih=>intro Q E p s n hn h;rw[Me] at h ⊢;exact ih _ _ _ _ _ _ (ζ hn (Lj _)) h
 | choose src m k ih=>intro Q E p s n hn h;rw[Me] at h ⊢;exact⟨h.1,ih _ _ _ _ _ _ hn h.2⟩
 | call c hd g l k ih=>
  intro Q E p s n hn h;rw[Me] at h ⊢;(revert h;refine sK λr s' hr h2=>?_);exact(gl r s' hr (ih _ _ _ _ _ _ (ζ hn (nL hr)) h2))
 | genState g k ih=>intro Q E p s n hn h;rw[Me] at h ⊢;(revert h;refine Ϟ λo h1 h2=>?_);exact(Κ o h1 (ih _ _ _ _ _ _ hn h2))
 | resume g r l k ih=>
  intro Q E p s n hn h;rw[Me] at h ⊢;(revert h;refine sK λr s' hr h2=>?_);exact(gl r s' hr (ih _ _ _ _ _ _ (ζ hn (yp hr)) h2))
 | _=>
  intro Q E p s n hn h;rw[Me] at h
  first
  | exact h.elim
  | (rw[Me];rename_i ih;exact ih _ _ _ _ _ _ hn h)
def wk {M:M7}{t:Sem α}{Q:α->Ι->Prop}{s:Ι}(h:wpAny M A t Q E s) :
  wpAny M A t (λa s'=>Q a s'/\s.toks<=s'.toks) E s:=λΓ p hΓ=>
 Sem.wp_mono M Γ t (λ_ _ _ x=>x) (λ_ _ _ x=>x.1) p s (wp_toks t _ _ p s s.toks (Φ _) (h Γ p hΓ))
abbrev PE1 (X:Cx)(e:bv)(t:TE):Prop:=
 ∀(pins:List (Ε×Obj)) (s:Ι) (σ:St) (H:Hp) (Q:VK),0 < s.toks->Inv X pins σ H s->t σ H Q->wpAny (model X.prog X.w) X.A (eval e X.env) (λu s'=>EP X pins σ Q u s'/\0 < s'.toks) X.xe s
abbrev aeY (X:Cx)(st:List ϙ)(t:TS):Prop:=
 ∀(pins:List (Ε×Obj)) (s:Ι) (σ:St) (H:Hp) (D:Ends),0 < s.toks->Inv X pins σ H s->t D σ H->wpAny (model X.prog X.w) X.A (execs st X.env) (SP X pins D) X.xe s
section
variable {X:Cx}   
def PE.one (h:PE X e te):PE1 X e te:=λpins s σ H Q h0 I q=>J2 (wk (h pins s σ H Q I q)) λ_ _ x=>⟨x.1,ϓ h0 x.2⟩
def DE (he:PE1 X e te):aeY X [.Return (some e) pos] (X9 te):=by
 intro pins s σ H D h0 I h;refine Oj (J2 (SI (Q:=SP X pins D) (J2 (he pins s σ H _ h0 I h) λv s1 ⟨⟨x,H1,I1,r1,q1⟩,_⟩=>(NC x σ H1 I1 r1 q1))) λf s1 q=>?_);cases f with
 | next=>exact Ku q
 | ret v=>exact q
 | brk=>exact q
 | cont=>exact q
abbrev aeZ (K:Ξ)(c:Nat)(z:List Nat)(to:TE):TE:=λσ H Q=>to σ H λx H1=>∃a,x=.str (S a)/\a.length+(a.length+1) * z.length<=16777216/\Q (.str (S (db z (ϡ c a)))) H1
def wm {o:bv}{K:Ξ}{c:Nat}{z:List Nat}{xc xz:Str}{jc jz:Nat}{pc pz:Pos}(ec:xc=S [c])(ez:xz=S z)(hcz:(S [c] == S z)=false)(ho:PE1 X o to)
  (U7:autoParam (attributeBase o "replace" X.env (eval o X.env)=eval o X.env) L2.Ϩ._auto_1)
  (Yj:autoParam (((backTo JS (starEach [.Constant (.str xc) jc pc,.Constant (.str xz) jz pz] X.env)).all (λx=>!x.1) && (backToKw JS (keywordEach [] X.env)).all (λx=>x.1.isSome)
   && decide (([.Constant (.str xc) jc pc,.Constant (.str xz) jz pz]:List bv).length+([]:List MO).length+(if ([]:List MO).isEmpty then 0 else 1) < 30))=true) L2.Ϩ._auto_1)
  (U8:autoParam ((apos.endLine == JS.line)=true) L2.Ϩ._auto_1) :
  PE1 X (.Call (.Attribute o "replace" apos) [.Constant (.str xc) jc pc,.Constant (.str xz) jz pz] [] JS) (aeZ K c z to):=by
 intro pins s σ H Q h0 I h;have ec:=ec;have ez:=ez;subst ec ez;refine Xy U7 Yj U8 rfl (J2 (ho pins s σ H _ h0 I h) λv s1 ⟨⟨x,H1,I1,r1,a,ex,hz,q⟩,h1⟩=>?_);subst ex;obtain⟨t,rfl⟩:=r1;refine(Kz ("str") ("str.replace") PySem.F.plainAttrs_str PySem.F.slot_str_replace PySem.F.type_str_replace (M8 _ _ _) ⟨(λ_ e=>nomatch e),?_⟩);refine Kr rfl (La ?_);refine ci (Pf (k:=jc) (pos:=pc) ?_);refine ci (Pf (k:=jz) (pos:=pz) ?_);refine Ix ?_;refine J2 (wk (SC.replace (by show s1.toks≠0;omega) (by show s1.toks+1≠0;omega) (by show s1.toks≠s1.toks+1;omega) hcz (by rw[cm,cm];exact hz) λt' k=>?_)) λu s2 x=>⟨x.1,ϓ (by show 0 < s1.toks+1+1;omega) x.2⟩
 rw[Bk];exact(ϒ (.str _) H1 (I1.tok k) ⟨t',rfl⟩ q)
end
def Bl {kd:Str->Option IQ}(h:kd x=some .local):bindL kd [(x,u)] (λ_=>none)=λy=>([(x,u)]:List (Str×Η)).reverse.lookup y:=by
 funext y;unfold bindL bindL;rw[δ h];show(if y=x then some u else none)=I8 y [(x,u)];rw[ϰ]
 by_cases e:y=x
 ·subst e;simp
 ·rw[Υ e,Iw.mpr e];rfl
section
variable {P:Ϗ} {K:Ξ} {base:ϟ}
def WG.ok1 {st:ϙ}{N:List Str}{p1:Str}{k:Nat}(F:WG K x qual st f fd)(S:η N [p1] (Λ st))(hnc:∀x∈(Λ st).names,x.2≠.cell)
  (len:∀vs H Q E,sp vs H Q E->vs.length=1)
  (MX:∀(Ϲ:Η) (A:K') (m:Option Η) (outer:List Env) (s:Ι) (H:Hp) (vs:List V) (Q:VK) (E:XK),Jf k (A.deeper (envOfC qual (Λ st) s.heap.objs.size f Ϲ))->sp vs H Q E->
   ∃t,aeY ((NW IL P w K mg base N qual (Λ st) f Ϲ A outer s H E).Wq m).Kf (Da st) t/\t { nx:=λ_ H'=>Q .cr H',rt:=Q } (start N vs) H):Zg P w K mg base (k+1) f fd [p1] sp:=by
 (refine P8 F.ex λoc od kV doc pm an=>Kx λϹ ct SR Τ lk SU=>?_;subst Τ);refine⟨len,λA m outer s H args us vs Q E hr hp e0 hb r Rb=>?_⟩;have hl:=len _ _ _ _ Rb;have KX:K.In s.heap:=e0.mod.WC.keeps λb o e=>(e0.bs b o e).1;have lim:s.heap.NoLimit:=e0.mod.nolimit.keeps λb o e=>(e0.bs b o e).1;have ae0:(Λ st).names.lookup p1=some .local:=by
  rcases S.par p1 (by simp) with q | q
  ·exact q
  ·exact absurd rfl (hnc _ (PySem.mem_of_lookup q))
 have hus:us.length=1:=by rw[<-r.length];exact hl
 obtain⟨u,rfl⟩:∃u,us=[u]:=by
  match us,hus with
  | [u],_=>exact⟨u,rfl⟩
 have Rx:∀(l:List (Str×IQ)) (n:Nat),(∀x∈l,x.2≠.cell)->cellsFrom n l []=[]:=by
  intro l
  induction l with
  | nil=>intro n _;rfl
  | cons a l ih=>
   intro n h;obtain⟨y,kd⟩:=a;unfold cellsFrom;rw[Υ (λz=>h (y,kd) (by simp) (by simpa using z))];exact ih n λx hx=>h x (ε _ hx)
 refine codeAny_call_def (A:=A.mark m) (binds:=[p1].zip [u]) hr.depth (KX _ _ lk) rfl lim (Ww KX SU) rfl hb hnc (λy hy=>by simp at hy;rw[hy];exact ae0) (λh1 hns hk=>?_) S.co S.gen S.kind;have ee:callEnv (JO x qual (IR st) (Da st) (Λ st) .none kV doc pm an Ϲ ct) s.heap.objs.size f=envOfC qual (Λ st) s.heap.objs.size f Ϲ:=by
  unfold envOfC;rw[Rx _ _ hnc];rfl
 rw[ee];have I:Inv (NW IL P w K mg base N qual (Λ st) f Ϲ A outer s H E) [] (start N vs) H { s with heap:=h1,toks:=s.toks+1 }:=by
  refine nE S hr.hd e0 (by rw[hl];rfl) r ⟨⟨(Nd h1 _ rfl),?_,hk,Φ _⟩,?_,?_,?_⟩
  ·show h1.Ns _ _
   rw[show([p1].zip [u]:List (Str×Η))=[(p1,u)] from rfl,Bl ae0];exact hns
  ·rw[Rx _ _ hnc];intro n c z;cases z
  ·rw[Rx _ _ hnc];exact .nil
  ·rw[Rx _ _ hnc];intro n c z;cases z
 (refine ρ (MX Ϲ A m outer s H vs Q E (hr.deeper _) Rb) λt ht hq=>?_);refine ul (ht [] _ (start N vs) H _ (Nat.succ_pos _) ((I.Wq m).Nj _) hq) (λfl s' hs=>?_) λe s' hs=>hs.elim;have z:=DC (P:=P) (w:=w) (outer:=outer) (E:=E) hs rfl rfl rfl rfl rfl rfl;cases fl<;>exact z
end
def dI (c:Nat):∀a:List Nat,ϡ c a≠[]
 | []=>by simp[ϡ]
 | x::r=>by
  rw[ϡ]
  by_cases e:x=c
  ·rw[δ e];simp
  ·rw[Υ e]
   cases h:ϡ c r<;>simp
def cW (c:Nat)(z:List Nat):∀a:List Nat,db z (ϡ c a)=a.flatMap λx=>if x=c then z else[x]
 | []=>rfl
 | x::r=>by
  have ih:=cW c z r;have ne:=dI c r;rw[ϡ,Do];cases h:ϡ c r with
  | nil=>exact absurd h ne
  | cons p ps=>
   rw[h] at ih
   by_cases e:x=c
   ·rw[δ e,δ e,<-ih]
    show[]++z++db z (p::ps)=_;rw[IG]
   ·rw[Υ e,Υ e,<-ih]
    cases ps with
    | nil=>rfl
    | cons q qs=>
     show(x::p)++z++db z (q::qs)=[x]++(p++z++db z (q::qs));simp
abbrev YC (c:Nat):List Nat:=if c=126 then[126,119] else if c=59 then[126,115] else[c]
abbrev gd (a:List Nat):List Nat:=a.flatMap YC
def HI (a:List Nat):db [126,115] (ϡ 59 (db [126,119] (ϡ 126 a)))=gd a:=by
 rw[cW,cW,List.flatMap_assoc,gd];congr 1;funext x;unfold YC
 by_cases h:x=126
 ·subst h;rfl
 ·rw[Υ h,Υ h]
  by_cases h':x=59
  ·subst h';rfl
  ·simp[h']
def uJ (x:Nat)(a:List Nat):gd (x::a)=YC x++gd a:=Do
def E1 (c:Nat):(YC c).length<=2:=by
 unfold YC
 by_cases h:c=126
 ·rw[δ h];decide
 ·rw[Υ h]
  by_cases h':c=59
  ·rw[δ h'];decide
  ·rw[Υ h'];simp
def nM:∀a:List Nat,(gd a).length<=2 * a.length
 | []=>Φ _
 | x::a=>by
  have:=nM a;have:=E1 x;rw[uJ,Ω,Ψ];omega
def zT:∀a:List Nat,59∉gd a
 | []=>by simp[gd]
 | x::a=>by
  rw[uJ,ϑ,ads];refine⟨?_,zT a⟩;unfold YC
  split
  ·decide
  ·split
   ·decide
   ·rename_i h;simp;exact ω h
def HJ {a:List Nat}(h:RP a):RP (gd a):=by
 intro c hc;(refine ρ (KY.mp hc) λx hx hc=>?_);unfold YC at hc
 split at hc
 ·have key:∀c∈[126,119],c < 1114112:=by decide
  exact key c hc
 ·split at hc
  ·have key:∀c∈[126,115],c < 1114112:=by decide
   exact key c hc
  ·rw[Μ.mp hc];exact h x hx
abbrev un:List Nat->Option (List Nat)
 | []=>some []
 | c::r=>if c=126 then(match r with
   | []=>none
   | d::r'=>if d=119 then(un r').map (126::·) else if d=115 then(un r').map (59::·) else none)
  else(un r).map (c::·)
def pO (c:Nat)(r:List Nat):un (c::r)=if c=126 then(match r with
   | []=>none
   | d::r'=>if d=119 then(un r').map (126::·) else if d=115 then(un r').map (59::·) else none)
  else(un r).map (c::·):=by cases r<;>(rw[un.eq_def])
abbrev RW:List Nat->Option (List Nat)
 | []=>none
 | d::r=>if d=119 then some (126::r) else if d=115 then some (59::r) else none
abbrev MJ:List (List Nat)->Option (List (List Nat))
 | []=>some []
 | p::ps=>match RW p with
  | none=>none
  | some x=>(MJ ps).map (x::·)
abbrev aca (l:List (List Nat)):Option (List Nat):=match l with
 | []=>none
 | p::ps=>(MJ ps).map λl=>p++l.flatten
def Bm (x:Nat)(p:List Nat)(ps:List (List Nat)):aca ((x::p)::ps)=(aca (p::ps)).map (x::·):=by
 show(MJ ps).map (λl=>(x::p)++l.flatten)=((MJ ps).map λl=>p++l.flatten).map (x::·);cases MJ ps<;>rfl
def DF (n:Nat):∀b:List Nat,b.length<=n->un b=aca (ϡ 126 b):=by
 induction n with
 | zero=>
  intro b h;cases b with
  | nil=>rfl
  | cons x r=>simp at h
 | succ n ih=>
  intro b h;cases b with
  | nil=>rfl
  | cons c r=>
   have hr:r.length<=n:=by simp at h;omega
   rw[pO,ϡ]
   by_cases e:c=126
   ·rw[δ e,δ e]
    cases r with
    | nil=>rfl
    | cons d r'=>
     have hr':r'.length<=n:=by simp at hr;omega
     have ih':=ih r' hr';dsimp only;rw[ϡ];cases hs:ϡ 126 r' with
     | nil=>exact absurd hs (dI _ _)
     | cons p ps=>
      rw[hs] at ih'
      by_cases e1:d=119
      ·subst e1
       rw[δ rfl,Υ (by decide),ih'];show((MJ ps).map λl=>p++l.flatten).map (126::·)=(MJ ((119::p)::ps)).map λl=>[]++l.flatten;rw[MJ,RW,δ rfl];dsimp only;cases MJ ps<;>simp
      ·rw[Υ e1]
       by_cases e2:d=115
       ·subst e2
        rw[δ rfl,Υ (by decide),ih'];show((MJ ps).map λl=>p++l.flatten).map (59::·)=(MJ ((115::p)::ps)).map λl=>[]++l.flatten;rw[MJ,RW,Υ (by decide),δ rfl];dsimp only;cases MJ ps<;>simp
       ·rw[Υ e2]
        by_cases e3:d=126
        ·rw[δ e3];rfl
        ·rw[Υ e3]
         show none=(MJ ((d::p)::ps)).map λl=>[]++l.flatten;rw[MJ,RW,Υ e1,Υ e2];rfl
   ·rw[Υ e,Υ e,ih r hr]
    cases hs:ϡ 126 r with
    | nil=>exact absurd hs (dI _ _)
    | cons p ps=>
     dsimp only;rw[Bm]
def tm:∀a:List Nat,un (gd a)=some a
 | []=>rfl
 | x::a=>by
  rw[uJ];unfold YC
  by_cases h:x=126
  ·subst h
   rw[δ rfl];show un (126::119::gd a)=_;rw[pO,δ rfl];dsimp only;rw[δ rfl,tm a];rfl
  ·rw[Υ h]
   by_cases h':x=59
   ·subst h'
    rw[δ rfl];show un (126::115::gd a)=_;rw[pO,δ rfl];dsimp only;rw[Υ (by decide),δ rfl,tm a];rfl
   ·rw[Υ h']
    show un (x::gd a)=_;rw[pO,Υ h,tm a];rfl
abbrev fx (p:List Nat):List Nat:=(RW p).getD []
def tq:∀{ps ls:List (List Nat)},MJ ps=some ls->ls=ps.map fx/\∀p∈ps,∃x,RW p=some x
 | [],ls,h=>by cases h;exact⟨rfl,λp hp=>by cases hp⟩
 | p::ps,ls,h=>by
  have h':(match RW p with | none=>none | some x=>(MJ ps).map (x::·))=some ls:=h;cases hf:RW p with
  | none=>rw[hf] at h';cases h'
  | some x=>
   rw[hf] at h';cases hu:MJ ps with
   | none=>rw[hu] at h';cases h'
   | some ls'=>
    rw[hu] at h';cases h';obtain⟨e,k⟩:=tq hu;refine⟨?_,λq hq=>?_⟩
    ·rw[e,ο];congr 1;unfold fx;rw[hf];rfl
    ·rcases Θ.mp hq with rfl | hq
     ·exact⟨x,hf⟩
     ·exact k q hq
def fU (c:Nat):∀(a p:List Nat),p∈ϡ c a->p.length<=a.length
 | [],p,h=>by simp[ϡ] at h;rw[h];exact Φ _
 | x::r,p,h=>by
  have ih:=fU c r;rw[ϡ] at h
  by_cases e:x=c
  ·rw[δ e] at h
   rcases Θ.mp h with rfl | h
   ·simp
   ·exact ζ (ih p h) (by simp)
  ·rw[Υ e] at h
   cases hs:ϡ c r with
   | nil=>exact absurd hs (dI _ _)
   | cons q qs=>
    rw[hs] at h ih;rcases Θ.mp h with rfl | h
    ·have:=ih q (by simp);simp;exact this
    ·exact ζ (ih p (ε _ h)) (by simp)
def iJ (c:Nat):∀a:List Nat,((ϡ c a).map Ϻ).sum<=a.length
 | []=>by simp[ϡ]
 | x::r=>by
  have ih:=iJ c r;rw[ϡ]
  by_cases e:x=c
  ·rw[δ e];simp;omega
  ·rw[Υ e]
   cases hs:ϡ c r with
   | nil=>exact absurd hs (dI _ _)
   | cons q qs=>rw[hs] at ih;simp at ih ⊢;omega
def GL (p:List Nat):(fx p).length<=p.length+1:=by
 unfold fx;cases p with
 | nil=>exact Ϛ _
 | cons d r=>
  rw[RW]
  split
  ·simp
  ·split<;>simp
def qw:∀{l:List Nat} {x:Nat},x∈l->x<=l.sum
 | y::l,x,h=>by
  rcases Θ.mp h with rfl | h
  ·rw[am];omega
  ·have:=qw h;rw[am];omega
def k8 {l:List α}{x:α}(h:l[i]?=some x):l.take (i+1)=l.take i++[x]:=by
 obtain⟨hi,rfl⟩:=Ο.mp h;exact(List.take_append_getElem hi).symm
abbrev qy:Sp:=λvs H Q _=>∃a,vs=[.str (S a)]/\a.length<=1000000/\Q (.str (S (gd a))) H
abbrev uK:Sp:=λvs H Q _=>∃b a,vs=[.str (S b)]/\b.length<=1000000/\un b=some a/\∀H',Χ H H'->Q (.str (S a)) H'
abbrev tx (l:List (List Nat)):List V:=l.map λa=>V.str (S a)
def tu {K:Ξ}:∀l:List (List Nat),Jx K H (tx l) (l.map λa=>V6 (S a))
 | []=>.nil
 | a::r=>.cons (.str (S a)) (tu r)
def GN {K:Ξ}{p:Ε}{l:List (List Nat)}(h:GT K H p (tx l)):Den K H (.ref p) (.list (l.map λa=>V6 (S a))):=.lst h (tu l)
def HK {l:List (List Nat)}(h:∀a∈l,RP a):wd 1 (.list (l.map λa=>V6 (S a))):=uD λd hd=>by
 (refine ρ (τ.mp hd) λa ha Τ=>?_;subst Τ);exact Dk 0 (h a ha)
abbrev tw (K:Ξ):Sp:=λvs H Q _=>∃p l,vs=[.ref p]/\GT K H p (tx l)/\(l.map Ϻ).sum+l.length<=1000000/\∀H',Χ H H'->Q (.str (S (db [59] (l.map gd)))) H'
abbrev Bo:Sp:=λvs H Q _=>∃t l,vs=[.str (S t)]/\t.length<=1000000/\ϡ 59 t=l.map gd/\∀p H',H p=none->Χ H H'->H' p=some (.lst (tx l))->Q (.ref p) H'
abbrev sgB (n:Int):Nat:=if (n % 94).toNat < 5 then 32+(n % 94).toNat else 33+(n % 94).toNat
abbrev TB1:List Nat:=[32,33,34,35,36,38,39,40,41,42,43,44,45,46,47,48,49,50,51,52,53,54,55,56,57,58,59,60,61,62,63,64,65,66,67,68,69,70,71,72,73,74,75,76,77,78,79,80,81,82,83,84,85,86,87,88,89,90,91,92,93,94,95,96]
abbrev TB2:List Nat:=[97,98,99,100,101,102,103,104,105,106,107,108,109,110,111,112,113,114,115,116,117,118,119,120,121,122,123,124,125,126]
def E2:∀i:_root_.Fin 94,(TB1++TB2)[i.val]?=some (if i.val < 5 then 32+i.val else 33+i.val):=by decide +kernel
def GO (n:Int):(TB1++TB2)[(n % 94).toNat]?=some (sgB n):=by
 have h:(n % 94).toNat < 94:=by omega
 exact E2 ⟨(n % 94).toNat,h⟩
abbrev DG:Sp:=λvs H Q _=>∃n:Int,vs=[.int n]/\Q (.str (S [sgB n])) H
def hG (m:Nat):ϝ (m:Int)=(Qu 10 m).map adr:=W.KIN.signs_num m
def pP {m k:Nat}(hk:1<=k)(h:m < 10 ^ k):(ϝ (m:Int)).length<=k:=by
 rw[hG,Ζ];exact digits10_le hk h
def nN:∀d:Nat,d < 10->(abf d).toNat=48+d:=by decide
def ml (m:Nat):∀c∈ϝ (m:Int),48<=c/\c<=57:=by
 rw[hG]
 induction m using SN with
 | _ m ih=>
  by_cases h:m < 10
  ·rw[Nr h]
   intro c hc;simp at hc;rw[hc,nN m h];omega
  ·have hm:m % 10 < 10:=Nat.mod_lt m (by decide)
   have t:Qu 10 (m / 10)++Qu 10 (m % 10)=Qu 10 (10 * (m / 10)+m % 10):=Nat.toDigits_append_toDigits (by decide) (by omega) hm;rw[SO] at t;rw[<-t,ϖ,Nr hm];intro c hc;rcases ϑ.mp hc with hc | hc
   ·exact ih (m / 10) (by omega) c hc
   ·simp at hc
    rw[hc,nN _ hm];omega
def wq (m:Nat):1<=(ϝ (m:Int)).length:=by
 rw[hG,Ζ];exact af0 10 m
abbrev zf (w m:Nat):List Nat:=ϥ (w - (ϝ (m:Int)).length) 48++ϝ (m:Int)
def nO {w m:Nat}(hw:1<=w)(h:m < 10 ^ w):(zf w m).length=w:=by
 have:=pP hw h;unfold zf;rw[Ω,FB];omega
def E3 (m w:Nat):Txt.zfill (S (ϝ (m:Int))) (w:Int)=S (zf w m):=by
 unfold Txt.zfill zf;rw[cm]
 by_cases h:(w:Int)<=((ϝ (m:Int)).length:Int)
 ·rw[δ h,show w - (ϝ (m:Int)).length=0 by omega];rfl
 ·rw[Υ h,show((w:Int).toNat - (ϝ (m:Int)).length)=w - (ϝ (m:Int)).length by omega]
  have h0:=wq m;have hd:=ml m;have hc:PySem.zfilled (S (ϝ (m:Int))) (w - (ϝ (m:Int)).length)=Tq (S (ϝ (m:Int))) (w - (ϝ (m:Int)).length) 0 48:=by
   cases hl:ϝ (m:Int) with
   | nil=>rw[hl] at h0;simp at h0
   | cons c r=>
    have hc:=hd c (by rw[hl];simp);unfold PySem.zfilled
    split
    ·rename_i e;have e':c=43:=by simpa using e
     omega
    ·rename_i e;have e':c=45:=by simpa using e
     omega
    ·rfl
  rw[hc];unfold Tq;simp[S]
abbrev rZf:V->List V->Hp->VK->Prop:=λx vs H Q=>∃m w:Nat,x=.str (S (ϝ (m:Int)))/\vs=[.int (w:Int)]/\w<=1000/\Q (.str (S (zf w m))) H
section
variable {X:Cx}
open Builtin Builtin.Str in
def qA:MtR X "str.zfill" rZf:=by
 intro pins s σ H x vs v us Q I rx rv h;(revert h;refine NB λm w Τ IK hw q=>?_;subst Τ;subst IK);obtain⟨t,rfl⟩:=rx;(refine ρ (vals1 rv) λu Τ=>Nc λt' IK=>?_;subst Τ;subst IK);refine SC.zfill ?_ λt' k=>?_
 ·unfold PadOk fitsSsize tooLong sizeLine
  rw[Ϣ,P4,P4];refine⟨?_,Ϧ (by omega)⟩;rw[Bool.or_eq_false_iff];exact⟨Ϧ (by omega),Ϧ (by omega)⟩
 ·rw[E3]
  exact(ϒ (.str _) H (I.tok k) ⟨t',rfl⟩ q)
end
abbrev pfL (n:Nat)(b:List Nat):List Nat:=zf 6 n++[32]++zf 5 (sumF 0 b)++[32]
abbrev hdL (n:Nat)(b:List Nat):List Nat:=pfL n b++(zf 4 b.length++[32])
abbrev YD (n:Nat)(b:List Nat):List Nat:=hdL n b++b
structure RX (n:Nat)(b:List Nat):Prop where
 n:n < 1000000
 c:∀c∈b,c < 128
 l:b.length < 10000
def RX.sum {b:List Nat}(g:RX n b):sumF 0 b < 65536:=zP (λc hc=>NL (g.c c hc) (by decide)) (by decide)
def RX.pf {b:List Nat}(g:RX n b):(pfL n b).length=13:=by
 have:=g.sum;unfold pfL;simp only[Ω,Ψ,ϕ];rw[nO (by decide) g.n,nO (by decide) (NL this (by decide))]
def RX.hd {b:List Nat}(g:RX n b):(hdL n b).length=18:=by
 unfold hdL;rw[Ω,g.pf,Ω,nO (by decide) g.l];rfl
abbrev GP:Sp:=λvs H Q _=>∃l:List Nat,vs=[.str (S l)]/\(∀c∈l,c < 128)/\Q (.int (sumF 0 l:Nat)) H
abbrev Bp:Sp:=λvs H Q _=>∃(n:Nat) (b:List Nat),vs=[.int (n:Int),.str (S b)]/\RX n b/\∀H',Χ H H'->Q (.str (S (YD n b))) H'
end
section
open PySem PySem.Spec PyProof.Rows
abbrev Xc:List (List Nat)->List (List Nat)
 | []=>[]
 | [b]=>[46::b]
 | b::c::r=>(43::b)::Xc (c::r)
def fV:∀act:List (List Nat),(Xc act).length=act.length
 | []=>rfl
 | [_]=>rfl
 | b::c::r=>by rw[Xc,Ψ,fV (c::r)];rfl
def zU:∀(act:List (List Nat)) (k:Nat) (b:List Nat),act[k]?=some b->(Xc act)[k]?=some ((if k+1 < act.length then 43 else 46)::b)
 | [],k,b,h=>by simp at h
 | [c],k,b,h=>by
  cases k with
  | zero=>cases h;rfl
  | succ k=>simp at h
 | c::d::r,k,b,h=>by
  cases k with
  | zero=>cases h;rfl
  | succ k=>
   have:=zU (d::r) k b h;rw[Xc,List.getElem?_cons_succ,this];simp only[Ψ,Nat.add_lt_add_iff_right]
abbrev Vi:Nat->List (List Nat)->List (List Nat)
 | _,[]=>[]
 | n,b::r=>YD n b::Vi (n+1) r
def mq:∀(n:Nat) (bs:List (List Nat)),(Vi n bs).length=bs.length
 | _,[]=>rfl
 | n,b::r=>by rw[Vi,Ψ,mq (n+1) r];rfl
def zV:∀(n:Nat) (a b:List (List Nat)),Vi n (a++b)=Vi n a++Vi (n+a.length) b
 | n,[],b=>rfl
 | n,x::a,b=>by
  rw[ii,Vi,Vi,zV (n+1) a b,Ψ,ii];congr 3;omega
def wt (n:Nat)(a:List (List Nat))(b:List Nat):Vi n (a++[b])=Vi n a++[YD (n+a.length) b]:=zV n a [b]
abbrev okB (b:List Nat):Prop:=(∀c∈b,c < 128)/\b.length<=4000
structure KJ (C:Ε)(H:Hp)(r l:Ε)(ls:List (List Nat)):Prop where
 obj:∃dx,H r=some (.ins C dx [("lines",.ref l)])
 lst:H l=some (.lst (tx ls))
def KJ.ne {l:Ε}(R:KJ C H r l ls):r≠l:=λz=>by
 obtain⟨dx,h⟩:=R.obj;rw[z,R.lst] at h;cases h
def KJ.same {l:Ε}(R:KJ C H r l ls)(s:Χ H H'):KJ C H' r l ls:=⟨let ⟨dx,h⟩:=R.obj;⟨dx,s _ _ h⟩,s _ _ R.lst⟩
abbrev yq (C:Ε):Sp:=λvs H Q _=>∃x dx,vs=[.ref x]/\H x=some (.ins C dx [])/\∀l H',H l=none->l≠x->ϳ [x] H H'->KJ C H' x l []->Q .cr H'
abbrev wu (C:Ε):Sp:=λvs H Q _=>∃(r p l:Ε) (ls act:List (List Nat)),vs=[.ref r,.ref p]/\KJ C H r l ls/\H p=some (.lst (tx act))/\p≠l/\(∀b∈act,okB b)/\ls.length+act.length<=5000/\
 ∀H',ϳ [l] H H'->KJ C H' r l (ls++Vi ls.length (Xc act))->Q (.int ((ls.length+act.length:Nat):Int)) H'
abbrev GQ (C:Ε):Sp:=λvs H Q _=>∃(r l:Ε) (ls:List (List Nat)),vs=[.ref r]/\KJ C H r l ls/\∀p H',H p=none->Χ H H'->H' p=some (.lst (tx ls))->Q (.ref p) H'
noncomputable abbrev Spot:=Int×Int
abbrev QD (x:Spot):List V:=[.int x.1,.int x.2]
set_option genInjectivity false in
structure KF where
 L:Str->Option Int
 T:Str->Int
 P:Str->List Spot
 sz:Nat
abbrev OG:KF:=⟨λ_=>none,λ_=>0,λ_=>[],0⟩
abbrev WS (l t p:Ε):List (Str×V):=[("lives",.ref l),("lasts",.ref t),("spots",.ref p)]
structure J0 (C:Ε)(H:Hp)(r l t p:Ε)(Z:List Ε)(M:KF):Prop where
 obj:∃dx,H r=some (.ins C dx (WS l t p))
 Kk:∃ϔ,H l=some (.dK ϔ)/\ϔ.length<=M.sz/\∀z,Io ϔ (.inr z)=(M.L z).map V.int
 YE:∃ϔ,H t=some (.dK ϔ)/\ϔ.length<=M.sz/\∀z,Io ϔ (.inr z)=(M.L z).map λ_=>V.int (M.T z)
 Zh:∃ϔ,H p=some (.dK ϔ)/\ϔ.length<=M.sz/\∀z,(M.L z).isSome=true->∃q,Io ϔ (.inr z)=some (.ref q)/\Jd H q ((M.P z).map QD)/\q∉Z
 len:∀z,(M.P z).length<=8
 rl:r≠l
 rt:r≠t
 rp:r≠p
 lt:l≠t
 lp:l≠p
 tp:t≠p
def J0.Ji {A:List Ε}{l t p:Ε}{M:KF}(h:J0 C H r l t p Z M)(c:ϳ A H H')(hr:r∉A)(hl:l∉A)(ht:t∉A)(hp:p∉A)(hz:∀b∈A,b∈Z\/∀xs,H b≠some (.lst xs)):J0 C H' r l t p Z M:=by
 obtain⟨dx,e⟩:=h.obj;(refine ϭ h.Kk λk1 e1 l1 v1=>?_);(refine ϭ h.YE λk2 e2 l2 v2=>?_);(refine ϭ h.Zh λk3 e3 l3 v3=>?_);refine⟨⟨dx,c.keep _ _ e hr⟩,(ύ k1 (c.keep _ _ e1 hl) l1 v1),(ύ k2 (c.keep _ _ e2 ht) l2 v2),(ύ k3 (c.keep _ _ e3 hp) l3 (λz hzz=>?_)),h.len,h.rl,h.rt,h.rp,h.lt,h.lp,h.tp⟩;(refine ϭ (v3 z hzz) λq a1 a2 a3=>?_);refine(ύ q a1 (a2.Ji c λm=>?_) a3);rcases hz q m with y | y
 ·exact a3 y
 ·(revert a2;refine Ϟ λts b1 _=>?_)
  exact y _ b1
def mv (l t p:Ε):(WS l t p).lookup (Α "lives")=some (.ref l):=rfl
def hJ (l t p:Ε):(WS l t p).lookup (Α "lasts")=some (.ref t):=rfl
def mw (l t p:Ε):(WS l t p).lookup (Α "spots")=some (.ref p):=rfl
abbrev KF.Le (M:KF)(n:Str):KF:={ M with
 L:=λz=>if z=n then some ((M.L n).getD 0+1) else M.L z
 T:=λz=>if z=n then(if (M.L n).getD 0=0 then 0 else M.T n) else M.T z
 P:=λz=>if z=n then(if (M.L n).getD 0=0 then[] else M.P n) else M.P z
 sz:=M.sz+1 }
abbrev KF.note (M:KF)(n:Str)(k:Int)(x:Spot):KF:={ M with
 T:=λz=>if z=n then k else M.T z
 P:=λz=>if z=n then(M.P n++[x]).drop ((M.P n++[x]).length - 8) else M.P z
 sz:=M.sz+1 }
abbrev Bq (C:Ε):Sp:=λvs H Q _=>∃(x dx:Ε),vs=[.ref x]/\H x=some (.ins C dx [])/\
 ∀l t p H',H l=none->H t=none->H p=none->ϳ [x] H H'->J0 C H' x l t p [] OG->Q .cr H'
abbrev Br (C:Ε):Sp:=λvs H Q _=>∃(r l t p:Ε) (Z:List Ε) (M:KF) (n:Str),vs=[.ref r,.str n]/\J0 C H r l t p Z M/\M.sz<=100000/\M.L n=none/\(∀b∈Z,∃o,H b=some o)/\
 ∀u H',ϳ [l,t,p] H H'->J0 C H' r l t p Z (M.Le n)->H u=none->H' u=some (.tup [.int ((M.L n).getD 0+1),.int ((M.Le n).T n)])->Q (.ref u) H'
abbrev Bs (C:Ε):Sp:=λvs H Q _=>∃(r l t p:Ε) (Z:List Ε) (M:KF) (n:Str),vs=[.ref r,.str n]/\J0 C H r l t p Z M/\Q (.int ((M.L n).getD 0)) H
abbrev Bt (C:Ε):Sp:=λvs H Q _=>∃(r l t p:Ε) (Z:List Ε) (M:KF) (n:Str),vs=[.ref r,.str n]/\J0 C H r l t p Z M/\Q (.int (if (M.L n).isSome=true then M.T n else 0)) H
abbrev Bu (C:Ε):Sp:=λvs H Q _=>∃(r l t p:Ε) (Z:List Ε) (M:KF) (n:Str),vs=[.ref r,.str n]/\J0 C H r l t p Z M/\
 (M.L n).isSome=true/\Q .cr H
abbrev yr (C:Ε):Sp:=λvs H Q _=>∃(r l t p:Ε) (Z:List Ε) (M:KF) (n:Str) (k:Int),vs=[.ref r,.str n,.int k]/\J0 C H r l t p Z M/\
 M.L n=some k/\Q .cr H
abbrev Bv (C:Ε):Sp:=λvs H Q _=>∃(r l t p:Ε) (Z:List Ε) (M:KF) (n:Str) (k:Int),vs=[.ref r,.str n,.int k]/\J0 C H r l t p Z M/\
 (M.L n).isSome=true/\((k=M.T n+1/\Q .cr H)\/
  (∃(i:Nat) (x:Spot),k=M.T n+1 - (M.P n).length+i/\(M.P n)[i]?=some x/\∀u,H u=some (.tup (QD x))->Q (.ref u) H))
abbrev Bw (C:Ε):Sp:=λvs H Q _=>∃(r l t p:Ε) (Z:List Ε) (M:KF) (n:Str) (k a b:Int),vs=[.ref r,.str n,.int k,.int a,.int b]/\J0 C H r l t p Z M/\(M.L n).isSome=true/\
 k=M.T n+1/\M.sz<=100000/\(∀b∈Z,∃o,H b=some o)/\∀H',ϳ [t,p] H H'->J0 C H' r l t p Z (M.note n k (a,b))->Q .cr H'
def Bx (l:List V):Rc l (some (-8)) none=l.drop (l.length - 8):=by
 unfold Rc;rw[HT.lP];have e:HT.O7 l.length 0 (some (-8))=l.length - 8:=by
  show(if (-8:Int) < 0 then(-8+(l.length:Int)).toNat else min (-8:Int).toNat l.length)=_;rw[δ (by decide)];omega
 rw[e,ϩ (by rw[sw];omega)]
abbrev QE (l:List Spot):List Spot:=l.drop (l.length - 8)
def yt (l:List Spot)(x:Spot):(QE l++[x]).drop ((QE l++[x]).length - 8)=QE (l++[x]):=by
 unfold QE;have hd:l.drop (l.length - 8)++[x]=(l++[x]).drop (l.length - 8):=by rw[List.drop_append_of_le_length (by omega)]
 rw[hd,List.drop_drop];congr 1;rw[sw,Ω,jp];omega
noncomputable abbrev Dd:=Str×Int×Str
set_option genInjectivity false in
structure UA where
 ds:List Dd
 B:Str->Option Int
 sz:Nat
abbrev UB:UA:=⟨[],λ_=>none,0⟩
abbrev YF (dl bz:Ε):List (Str×V):=[("deeds",.ref dl),("busy",.ref bz)]
abbrev ae4 (x:Dd)(sp pl:Ε):List (Str×V):=[("sender",.str x.1),("ends",.int x.2.1),("fate",.str x.2.2),("spots",.ref sp),("pledges",.ref pl)]
structure Mi (C CD:Ε)(H:Hp)(r dl bz:Ε)(us:List Ε)(M:UA):Prop where
 obj:∃dx,H r=some (.ins C dx (YF dl bz))
 lst:H dl=some (.lst (us.map V.ref))
 len:us.length=M.ds.length
 each:∀(i:Nat) u x,us[i]?=some u->M.ds[i]?=some x->∃dx sp pl,H u=some (.ins CD dx (ae4 x sp pl))
 nd:us.Nodup
 bsy:∃ϔ,H bz=some (.dK ϔ)/\ϔ.length<=M.sz/\∀z,Io ϔ (.inr z)=(M.B z).map V.int
 ru:r∉us
def Mi.Ji {A:List Ε}{dl bz:Ε}{us:List Ε}{M:UA}(h:Mi C CD H r dl bz us M)(c:ϳ A H H')(hr:r∉A)(hd:dl∉A)(hb:bz∉A)(hu:∀u∈us,u∉A):Mi C CD H' r dl bz us M:=by
 obtain⟨dx,e⟩:=h.obj;(refine ϭ h.bsy λϔ e2 l2 v2=>?_);refine⟨⟨dx,c.keep _ _ e hr⟩,c.keep _ _ h.lst hd,h.len,λi u x h1 h2=>?_,h.nd,(ύ ϔ (c.keep _ _ e2 hb) l2 v2),h.ru⟩;(refine ahu (h.each i u x h1 h2) λdx sp pl e3=>?_);exact(LD dx sp pl (c.keep _ _ e3 (hu u (Ν h1))))
def E4 (dl bz:Ε):(YF dl bz).lookup (Α "busy")=some (.ref bz):=rfl
abbrev By (C CD:Ε):Sp:=λvs H Q _=>∃(x dx:Ε),vs=[.ref x]/\H x=some (.ins C dx [])/\∀dl bz H',H dl=none->H bz=none->ϳ [x] H H'->Mi C CD H' x dl bz [] UB->Q .cr H'
abbrev Bz (C CD:Ε):Sp:=λvs H Q _=>∃(r dl bz:Ε) (us:List Ε) (M:UA) (s:Str),vs=[.ref r,.str s]/\Mi C CD H r dl bz us M/\Q (.int ((M.B s).getD 0)) H
set_option genInjectivity false in
structure YG where
 R:Str->Option (Int×Int)
 sz:Nat
abbrev read0:YG:=⟨λ_=>none,0⟩
abbrev ae6 (a b:Ε):List (Str×V):=[("rows",.ref a),("places",.ref b)]
structure Qg (C:Ε)(H:Hp)(r a b:Ε)(M:YG):Prop where
 obj:∃dx,H r=some (.ins C dx (ae6 a b))
 row:∃ϔ,H a=some (.dK ϔ)/\ϔ.length<=M.sz/\(∀z,Io ϔ (.inr z)=(M.R z).map λx=>V.int x.1)/\∀p,Io ϔ (.inl p)=none
 pla:∃ϔ,H b=some (.dK ϔ)/\ϔ.length<=M.sz/\∀z,Io ϔ (.inr z)=(M.R z).map λx=>V.int x.2
 ra:r≠a
 rb:r≠b
 ab:a≠b
def Qg.Ji {A:List Ε}{M:YG}(h:Qg C H r a b M)(c:ϳ A H H')(hr:r∉A)(ha:a∉A)(hb:b∉A):Qg C H' r a b M:=by
 obtain⟨dx,e⟩:=h.obj;(refine ϭ h.row λk1 e1 l1 v1=>?_);(refine ϭ h.pla λk2 e2 l2 v2=>?_);exact⟨⟨dx,c.keep _ _ e hr⟩,(ύ k1 (c.keep _ _ e1 ha) l1 v1),(ύ k2 (c.keep _ _ e2 hb) l2 v2),h.ra,h.rb,h.ab⟩
abbrev BA (C:Ε):Sp:=λvs H Q _=>∃(x dx:Ε),vs=[.ref x]/\H x=some (.ins C dx [])/\
 ∀a b H',H a=none->H b=none->ϳ [x] H H'->Qg C H' x a b read0->Q .cr H'
inductive JV (P:Xz):List Lw->Prop
 | nil:JV P []
 | cons {x:Str} {t:Tok} {u:Η} {r:List Lw}:JV P r->JV P (⟨XY P x,.str x t,u⟩::r)
def JV.mem {P:Xz}{l:List Lw}(h:JV P l):∀e∈l,∃x t,e.key=.str x t/\e.hash=XY P x:=by
 induction h with
 | nil=>intro e he;cases he
 | cons _ ih=>
  intro e he;rcases Θ.mp he with rfl | he
  ·exact(gl _ _ rfl rfl)
  ·exact ih e he
abbrev Tw (es:Array Lw)(x:Str):Option Η:=findBy OE es (.inr x)
abbrev Xd (w:IH)(K:Ξ)(mg:Str->Option Η)(x:Str)(F:List (Str×V)):Prop:=∃(p:Ε) (es:Array Lw) (ep:Nat),mg x=some (.ref p)/\K.lookup p=some { cls:=.type "dict",dict:=none,data:=.dict es ep,slots:=#[] }/\
 JV w.params es.toList/\∀kv∈F,∃u,Tw es kv.1=some u/\RelV kv.2 u
def qB {es:Array Lw}:∀kv∈([]:List (Str×V)),∃u,Tw es kv.1=some u/\RelV kv.2 u:=λ_ h=>nomatch h
def cX {es:Array Lw}{k:Str}{v:V}(h:Tw es k=some u)(r:RelV v u)(t:∀kv∈F,∃u,Tw es kv.1=some u/\RelV kv.2 u):∀kv∈(k,v)::F,∃u,Tw es kv.1=some u/\RelV kv.2 u:=λkv hkv=>by
 rcases Θ.mp hkv with rfl | hkv
 ·exact(Κ u h r)
 ·exact t kv hkv
abbrev aiY (F:List (Str×V))(te:TE):TE:=λσ H Q=>te σ H λy H1=>∃kv∈F,y=.str kv.1/\Q kv.2 H1
section
variable {X:Cx}
def qC {K:Ξ}(c:Xd w K X.mg x F)(he:PE X e te)(hs:WE e)(hg:autoParam (Gl X x) L2.Ϩ._auto_1)(hw:autoParam (X.w=w) L2.Ϩ._auto_1)(hK:autoParam (X.K=K) L2.Ϩ._auto_1)(hd:autoParam ((x == ("__debug__":Str))=false) L2.Kh._auto_1) :
  PE X (.Subscript (.Name x p) e pos) (aiY F te):=by
 subst hw;subst hK;intro pins s σ H Q I h;(revert c;refine Q8 λa es ep hm hl hk hf=>?_);refine aal (ZE (R:=λv y H2=>v=.ref a/\∃kv∈F,y=.str kv.1/\Q kv.2 H2) (pJ (v:=.ref a) hg hm rfl hd) he I ?_ λv u s2 y z H2 I2 ry rz q=>?_)
 ·show te σ H _
  refine(show te σ H (λy H1=>V.ref a=V.ref a/\∃kv∈F,y=.str kv.1/\Q kv.2 H1) from ?_);have e:(λ(y:V) (H1:Hp)=>V.ref a=V.ref a/\∃kv∈F,y=.str kv.1/\Q kv.2 H1)=λy H1=>∃kv∈F,y=.str kv.1/\Q kv.2 H1:=by
   funext y H1;simp
  rw[e];exact h
 ·(revert q;refine Jb λΤ=>G' λkv hkv IK q=>?_;subst Τ;subst IK)
  cases (show v=π a from ry);(refine ρ (hf kv hkv) λw' hw Tu=>?_);have ho:=I2.LZ _ _ hl;have hT:s2.TypeIs (.ref a) "dict":=(Κ _ ho rfl)
  have hM:s2.heap.MapOf (A' X.prog X.w) a (findBy OE es):=(IN _ es ep ho ⟨rfl,rfl,rfl⟩ rfl (λe he=>by
   (refine RJ (hk.mem e (by simpa using he)) λx t e1 e2=>?_)
   exact(Κ (.inr x) (by rw[e1];exact ji _ _ x t) e2)) (λk=>rfl))
  refine Y6 hT PySem.F.slot_dict_getitem.lookup (acN (knd:=A' X.prog X.w) (k:=.inr kv.1) (kH (k:=.inr kv.1) rz) hM hw ?_) (hs _ _);exact(ϒ kv.2 H2 (I2.tok _) Tu q)
inductive Xe (X:Cx) (E:XK):List (Ε×Sp)->Prop
 | nil:Xe X E []
 | cons {CX:Wc} {k:Nat} {f:Ε} {fd:Jr} {ps:List Str} {sp:Sp} {L:List (Ε×Sp)} (F:Ϥ X.prog X.w X.K X.mg X.base CX k f fd ps sp) (hr:Jf k X.A) (hk:Jg X.K (.ref f)=true) (hb:Binds X.K fd ps []) (hx:Passes CX X E):Xe X E L->Xe X E ((f,sp)::L)
def Xe.get {E:XK}:∀{L:List (Ε×Sp)},Xe X E L->∀{f:Ε} {sp:Sp},(f,sp)∈L->∃(CX:Wc) (k:Nat) (fd:Jr) (ps:List Str),Ϥ X.prog X.w X.K X.mg X.base CX k f fd ps sp/\Jf k X.A/\Jg X.K (.ref f)=true/\Binds X.K fd ps []/\Passes CX X E
 | _,.nil,_,_,h=>nomatch h
 | _,.cons F hr hk hb hx r,f,sp,h=>by
  rcases Θ.mp h with e | h
  ·cases e
   exact(O3 _ _ _ _ F hr hk hb hx)
  ·exact r.get h
abbrev ace (L:List (Ε×Sp))(E:XK)(te:TE)(t:TA):TE:=λσ H Q=>te σ H λx H1=>∃f sp,x=.ref f/\(f,sp)∈L/\t σ H1 λvs H2=>sp vs H2 Q E
def wx {E:XK}{L:List (Ε×Sp)}(c:Xe X E L)(hx:PE X (.Name x p) te)(ha:PA X (e::es) t)
  (he:autoParam (starEach (e::es) X.env=(false,eval e X.env)::starEach es X.env) L2.Ϩ._auto_1) (NV:autoParam ((backTo pos (starEach es X.env)).any (·.1)=false) L2.Ϩ._auto_1) :
  PE X (.Call (.Name x p) (e::es) [] pos) (ace L E te t):=by
 intro pins s σ H Q I h;refine Ϸ (J2 (hx pins s σ H _ I h) λv s1 zz=>KA zz λy H1 I1 r1=>IY λf sp ey hm q1=>?_);subst ey;cases (show v=π f from r1);(refine ahv (c.get hm) λCX k fd ps F hr hk hb hp=>?_);refine Jz (h₀:=X.base) I.ok.mod.WC hk (Ow (ha pos pins s1 σ H1 _ I1 q1) λus s2 vs H2 I2 r q=>⟨I2.LZ,?_⟩) he NV;exact uf (dvs:=[]) (ds:=[]) F hr hb .nil hp I2 r (by rw[Ke];exact q)
end
abbrev yu:Sp:=λvs H Q _=>∃c:Nat,vs=[.str (S [c])]/\Q (.bl (JI c)) H
abbrev BB:Sp:=λvs H Q _=>∃x:V,vs=[x]/\Tv H x/\∀H',Χ H H'->Q (.bl (Jl x 1 24 JI)) H'
abbrev yv:Sp:=λvs H Q _=>∃x:V,vs=[x]/\Tv H x/\∀H',Χ H H'->Q (.bl (decide (x=.cr) || Jl x 0 200 JI)) H'
abbrev wy:Sp:=λ_ _ _ _=>False
def Ϥ.never {P:Ϗ}{K:Ξ}{base:ϟ}{k:Nat}{ps:List Str}:Ϥ P w K mg base CX k f fd ps wy:=
 ⟨λ_ _ _ _ h=>h.elim,λ_ _ _ _ _ _ _ _ _ _ _ _ _ h=>h.elim⟩
abbrev Qi:List Str:=["sender","key","group","shelf","taker","reader"]
abbrev Jq (o:Option (List Nat)):List Nat:=match o with
 | none=>[45]
 | some w=>61::w
abbrev WT (p:Str)(v:V)(t:List Nat):Prop:=(p∈Qi/\v=.str (S t))\/(p="word" /\ ∃o,v=wV o/\t=Jq o)\/(p∉Qi/\p ≠ "word" /\ p ≠ "owner" /\ ∃n:Nat,v=.int (n:Int)/\n < 10 ^ 12/\t=ϝ (n:Int))
abbrev uL:Sp:=λvs H Q _=>∃o:Option (List Nat),vs=[wV o]/\(∀w,o=some w->w.length<=1000)/\Q (.str (S (Jq o))) H
abbrev yw:Sp:=λvs H Q _=>∃(p:Str) (v:V) (t:List Nat),vs=[.str p,v]/\WT p v t/\t.length<=1000/\Q (.str (S t)) H
def DH (z:Str)(l:List Str):inV (.str z) (l.map V.str)=decide (z∈l):=by
 unfold inV
 induction l with
 | nil=>rfl
 | cons x r ih=>
  rw[ο,J',ih];show((x == z) || decide (z∈r))=_
  by_cases e:z=x
  ·subst e;simp
  ·have e1:(x == z)=false:=by rw[Iw];exact ω e
   rw[e1];simp[e]
noncomputable abbrev Part:=Str×V×List Nat
abbrev Oz (n:Str)(ps:List Part):List (Key×V):=(.inr "event",.str n)::ps.map λx=>(.inr x.1,x.2.1)
structure Vj (n:Str)(ps:List Part):Prop where
 part:∀x∈ps,WT x.1 x.2.1 x.2.2/\x.2.2.length<=201/\∀c∈x.2.2,c < 128
 nd:((Α "event")::ps.map (·.1)).Nodup
 len:ps.length<=7
abbrev Pp (n:List Nat)(k:Nat):List Part:=[("sender",.str (S n),n),("life",.int (k:Int),ϝ (k:Int))]
abbrev OA (n:List Nat)(k dd r pl:Nat)(key:List Nat)(wo:Option (List Nat)):List Part:=
 [("sender",.str (S n),n),("number",.int (k:Int),ϝ (k:Int)),("deed",.int (dd:Int),ϝ (dd:Int)),("row",.int (r:Int),ϝ (r:Int)),("place",.int (pl:Int),ϝ (pl:Int)),("key",.str (S key),key),("word",wV wo,Jq wo)]
inductive ZZ (ph pp:Ε):Str->List Str->Ε->Prop
 | Le:ZZ ph pp "hail" ["sender","life"] ph
 | put:ZZ ph pp "put" ["sender","number","deed","row","place","key","word"] pp
abbrev wz (ph pp:Ε):Sp:=λvs H Q _=>∃(n:Str) (p pa:Ε) (ps:List Part),vs=[.str n,.ref p]/\H p=some (.lst (ps.map λx=>x.2.1))/\ZZ ph pp n (ps.map (·.1)) pa/\Vj n ps/\
 ∀D H',H D=none->Χ H H'->H' D=some (.dK (Oz n ps))->Q (.ref D) H'
abbrev wA (ph pp:Ε):Sp:=λvs H Q _=>∃(n:Str) (D pa:Ε) (ps:List Part),vs=[.ref D]/\H D=some (.dK (Oz n ps))/\ZZ ph pp n (ps.map (·.1)) pa/\Vj n ps/\
 ∀b H',Χ H H'->okB b->Q (.str (S b)) H'
def BC {k:Key}{v:V}(h:k∉ϔ.map (·.1)):putK ϔ k v=ϔ++[(k,v)]:=by
 unfold putK;rw[Υ];rw[XV]
 rintro⟨x,hx,e⟩
 exact h (τ.mpr (Κ x hx (by simpa using e)))
def nP {z:List Nat}{c:Nat}:∀{ls:List (List Nat)},c∈db z ls->c∈z\/∃l∈ls,c∈l
 | [],h=>by simp[db] at h
 | [a],h=>.inr (Κ a (by simp) (by simpa [db] using h))
 | a::b::r,h=>by
  have h':c∈a++(z++db z (b::r)):=by simpa [db] using h
  rcases ϑ.mp h' with h1 | h1
  ·exact .inr (Κ a (by simp) h1)
  ·rcases ϑ.mp h1 with h2 | h2
   ·exact .inl h2
   ·rcases nP h2 with q | ⟨l,hl,q⟩
    ·exact .inl q
    ·exact .inr (Κ l (ε _ hl) q)
def qD {z:List Nat}{m:Nat}:∀{ls:List (List Nat)},(∀l∈ls,l.length<=m)->(db z ls).length<=ls.length * (m+z.length)
 | [],_=>by simp[db]
 | [a],h=>by have:=h a (by simp);simp[db];omega
 | a::b::r,h=>by
  have h1:=h a (by simp);have h2:=qD (z:=z) (ls:=b::r) λl hl=>h l (ε _ hl);have e:db z (a::b::r)=a++(z++db z (b::r)):=by simp[db]
  rw[e];simp only[Ω,Ψ] at h2 ⊢;rw[Nat.add_mul (r.length+1) 1];omega
def FD {a:List Nat}(h:∀c∈a,c < 128):∀c∈gd a,c < 128:=by
 intro c hc;unfold gd at hc;(refine ρ (KY.mp hc) λx hx hc=>?_);have:=h x hx;unfold YC at hc
 split at hc
 ·simp at hc;omega
 ·split at hc
  ·simp at hc;omega
  ·simp at hc;omega
def ae7 {n:List Nat}{ps:List Part}(ok:Vj m ps)(hn:n.length<=8)(hc:∀c∈n,c < 128):okB (db [59] ((n::ps.map λx=>x.2.2).map gd)):=by
 constructor
 ·intro c h
  rcases nP h with q | ⟨l,hl,q⟩
  ·simp at q;omega
  ·(refine ρ (τ.mp hl) λa ha Τ=>?_;subst Τ)
   refine FD ?_ c q;rcases Θ.mp ha with rfl | ha
   ·exact hc
   ·(refine ρ (τ.mp ha) λx hx Τ=>?_;subst Τ)
    exact(ok.part x hx).2.2
 ·have h1:=qD (z:=[59]) (m:=402) (ls:=(n::ps.map λx=>x.2.2).map gd) (λl hl=>by
   (refine ρ (τ.mp hl) λa ha Τ=>?_;subst Τ);have:=nM a;rcases Θ.mp ha with rfl | ha
   ·omega
   ·(refine ρ (τ.mp ha) λx hx Τ=>?_;subst Τ)
    have:=(ok.part x hx).2.1
    omega)
  have h2:=ok.len;simp at h1 ⊢;omega
def yx {K:Ξ}(hl:∀H,JZ K H a xs)(hn:xs.length<=sizeLine)(f:V->V)
  (he:∀x H',x∈xs->Χ H H'->∀Qe:VK,(∀Kj,Χ H' Kj->Qe (f x) Kj)->te (some x::σ) H' Qe)
  (hd:∀D H',H D=none->Χ H H'->H' D=some (.lst (xs.map f))->Q (.ref D) H'):NX (Itt K a) ND te σ H Q:=λD hD=>
 jX (J:=Itt K a) xs.length hn hD (λi=>xs.getD i .cr) (λi=>f (xs.getD i .cr)) (λ_=>true) (λH' s=>(Κ xs (hl H') (Φ _)))
  (λi H' s h=>(gl xs (xs[i]) (hl H') (by simp)))
  (λi H' x Kj s hi y=>by
   obtain⟨rfl,z⟩:=y;have hz:=z xs (hl _);refine⟨rfl,?_⟩;rw[υ,hz]
   rfl)
  (λi H' h s Qt q=>q H' (Χ.refl _))
  (λi H' h hp s Qe q=>he _ H' (by rw[υ,ξ h];exact Jk h) s Qe q)
  (λH' s h=>hd D H' hD s (by
   rw[h];congr 2;rw[cV];refine KW (by simp) λi h1 h2=>?_;simp at h1 h2 ⊢;rw[ξ h2]
   rfl))
def qF:∀{ps:List Part} {x:Part},(ps.map (·.1)).Nodup->x∈ps->Io (ps.map λy=>((.inr y.1:Key),y.2.1)) (.inr x.1)=some x.2.1
 | y::r,x,nd,hx=>by
  rw[ο,Ϯ] at nd;rw[ο];rcases Θ.mp hx with rfl | hx
  ·exact ck rfl
  ·rw[bP (λq=>nd.1 (by rw[Jj q];exact τ.mpr (Κ x hx rfl)))]
   exact qF nd.2 hx
abbrev Tx (ps:List Part):V->V:=λv=>match v with
 | .str p=>.str (S (((ps.find? λx=>decide (x.1=p)).map λx=>x.2.2).getD []))
 | v=>v
def qG:∀{ps:List Part} {x:Part},(ps.map (·.1)).Nodup->x∈ps->Tx ps (.str x.1)=.str (S x.2.2)
 | y::r,x,nd,hx=>by
  rw[ο,Ϯ] at nd;rcases Θ.mp hx with rfl | hx
  ·simp[Tx]
  ·have h1:y.1≠x.1:=λq=>nd.1 (by rw[q];exact τ.mpr (Κ x hx rfl))
   have:=qG nd.2 hx;simp only[Tx,Jt,h1,decide_false] at this ⊢;exact this
def BD {ps:List Part}(nd:(ps.map (·.1)).Nodup):((ps.map (·.1)).map V.str).map (Tx ps)=tx (ps.map λx=>x.2.2):=by
 unfold tx;rw[χ,χ,χ];refine im λx hx=>?_;exact qG nd hx
abbrev Jy (l:List Nat):Prop:=Jl (.str (S l)) 1 12 Vg=true
abbrev keyOk (l:List Nat):Prop:=Jl (.str (S l)) 1 24 JI=true
abbrev Lf (o:Option (List Nat)):Prop:=(decide (wV o=.cr) || Jl (wV o) 0 200 JI)=true
abbrev wB:Sp:=λvs H Q _=>∃(p:Ε) (ls:List (List Nat)),vs=[.ref p]/\H p=some (.lst (tx ls))/\ls.length<=9/\(∀l∈ls,Jy l/\l.length<=1000)/\∀H',Χ H H'->Q .cr H'
abbrev w3V (x:Int×Int×Int):List V:=[.int x.1,.int x.2.1,.int x.2.2]
abbrev uM:Sp:=λvs H Q _=>∃(p:Ε) (xs:List (Int×Int×Int)),vs=[.ref p]/\Jd H p (xs.map w3V)/\xs.length<=9/\(∀x∈xs,x.2.1<=x.1/\x.1<=x.2.2)/\∀H',Χ H H'->Q .cr H'
abbrev uN:Sp:=λvs H Q _=>∃(k:List Nat) (o:Option (List Nat)),vs=[.str (S k),wV o]/\keyOk k/\k.length<=1000/\Lf o/\(∀w,o=some w->w.length<=1000)/\∀H',Χ H H'->Q .cr H'
abbrev wC:Sp:=λvs H Q _=>∃b:Bool,vs=[.bl b]/\Q .cr H
set_option genInjectivity false in
structure CK where
 C:Ε
 S:Ε
 B:Ε
 H:Ε
 R:Ε
 N:Ε
 D:Ε
 Rd:Ε
structure CA where
 c:Ε
 st:Ε
 bk:Ε
 bl:Ε
 sh:Ε
 shl:Ε
 rl:Ε
 sn:Ε
 l:Ε
 t:Ε
 p:Ε
 de:Ε
 dl:Ε
 bz:Ε
 gr:Ε
 rd:Ε
 ra:Ε
 rb:Ε
 rs:List Ε
 ds:List Ε
set_option genInjectivity false in
structure CM where
 xs:List Jn
 Ms:List Iz
 S:KF
 ls:List (List Nat)
abbrev CA.fix (A:CA):List Ε:=[A.c,A.st,A.bk,A.bl,A.sh,A.shl,A.rl,A.sn,A.l,A.t,A.p,A.de,A.dl,A.bz,A.gr,A.rd,A.ra,A.rb]++(A.rs++A.ds)
abbrev stF (A:CA):List (Str×V):=[("shelves",.ref A.sh),("rows",.ref A.rl),("senders",.ref A.sn),("deeds",.ref A.de),("groups",.ref A.gr),("readers",.ref A.rd),("turn",.int 0)]
abbrev ceF (A:CA):List (Str×V):=[("state",.ref A.st),("book",.ref A.bk)]
structure J4 (k:CK)(H:Hp)(A:CA)(Z:List Ε)(M:CM):Prop where
 Tz:∃dx,H A.st=some (.ins k.S dx (stF A))
 Xg:Rf k.H H A.sh A.shl M.xs
 Xh:JK M.xs
 Ri:H A.rl=some (.lst (A.rs.map V.ref))
 row:∀(i:Nat) r d m,A.rs[i]?=some r->A.ds[i]?=some d->M.Ms[i]?=some m->KD k.R H r d m
 len:A.rs.length=Ϝ M.xs M.xs.length
 lend:A.ds.length=A.rs.length
 OB:M.Ms.length=A.rs.length
 snd:J0 k.N H A.sn A.l A.t A.p Z M.S
 Wr:Mi k.D 0 H A.de A.dl A.bz [] UB
 Zi:Qg k.Rd H A.rd A.ra A.rb read0
 grp:H A.gr=some (.dK [])
 Z3:A.bl∈Z/\A.rl∈Z/\A.shl∈Z/\A.dl∈Z
 zo:∀b∈Z,∃o,H b=some o
 nd:A.fix.Nodup
structure Gc (k:CK)(H:Hp)(A:CA)(Z:List Ε)(M:CM):Prop where
 SX:∃dx,H A.c=some (.ins k.C dx (ceF A))
 book:KJ k.B H A.bk A.bl M.ls
 st:J4 k H A Z M
def jw {B:List Ε}(c:ϳ B H H')(hb:∀b∈B,∃o,H' b=some o):∀b,(∃o,H b=some o)->∃o,H' b=some o:=λb zz=>X3 zz λo e=>by
 by_cases m:b∈B
 ·exact hb b m
 ·exact⟨o,c.keep _ _ e m⟩
def mi {l:List Ε}{x:Ε}(i:Nat)(h:l[i]?=some x):x∈l:=Ν h
def J4.Ji {B:List Ε}{k:CK}{A:CA}{M:CM}(h:J4 k H A Z M)(c:ϳ B H H')(hB:∀b∈B,b∉A.fix)(hz:∀b∈B,b∈Z\/∀xs,H b≠some (.lst xs))(hs:∀b∈B,∃o,H' b=some o):J4 k H' A Z M:=by
 have n:∀{a:Ε},a∈A.fix->a∉B:=λha hb=>hB _ hb ha;have f:∀{a:Ε},a∈[A.c,A.st,A.bk,A.bl,A.sh,A.shl,A.rl,A.sn,A.l,A.t,A.p,A.de,A.dl,A.bz,A.gr,A.rd,A.ra,A.rb]->a∉B:=λha=>n (ώ _ ha);obtain⟨dx,e⟩:=h.Tz
 exact⟨⟨dx,c.keep _ _ e (f (mi 1 rfl))⟩,h.Xg.Ji c (f (mi 4 rfl)) (f (mi 5 rfl)),h.Xh,c.keep _ _ h.Ri (f (mi 6 rfl)),
  λi r d m h1 h2 h3=>(h.row i r d m h1 h2 h3).Ji c (n (ι _ (ώ _ (Ν h1)))) (n (ι _ (ι _ (Ν h2)))),h.len,h.lend,h.OB,
  h.snd.Ji c (f (mi 7 rfl)) (f (mi 8 rfl)) (f (mi 9 rfl)) (f (mi 10 rfl)) hz,h.Wr.Ji c (f (mi 11 rfl)) (f (mi 12 rfl)) (f (mi 13 rfl)) (λ_ hu=>nomatch hu),h.Zi.Ji c (f (mi 15 rfl)) (f (mi 16 rfl)) (f (mi 17 rfl)),c.keep _ _ h.grp (f (mi 14 rfl)),h.Z3,λb hb=>jw c hs b (h.zo b hb),h.nd⟩
def J4.same {k:CK}{A:CA}{M:CM}(h:J4 k H A Z M)(s:Χ H H'):J4 k H' A Z M:=h.Ji (B:=[]) (ϳ.of_same s) (λ_ z=>nomatch z) (λ_ z=>nomatch z) (λ_ z=>nomatch z)
def Gc.Ji {B:List Ε}{k:CK}{A:CA}{M:CM}(h:Gc k H A Z M)(c:ϳ B H H')(hB:∀b∈B,b∉A.fix)(hz:∀b∈B,b∈Z\/∀xs,H b≠some (.lst xs))(hs:∀b∈B,∃o,H' b=some o):Gc k H' A Z M:=by
 have f:∀{a:Ε},a∈[A.c,A.st,A.bk,A.bl,A.sh,A.shl,A.rl,A.sn,A.l,A.t,A.p,A.de,A.dl,A.bz,A.gr,A.rd,A.ra,A.rb]->a∉B:=λha hb=>hB _ hb (ώ _ ha);obtain⟨dx,e⟩:=h.SX;obtain⟨TB,e2⟩:=h.book.obj;exact⟨⟨dx,c.keep _ _ e (f (by simp))⟩,⟨⟨TB,c.keep _ _ e2 (f (by simp))⟩,c.keep _ _ h.book.lst (f (by simp))⟩,h.st.Ji c hB hz hs⟩
def Gc.same {k:CK}{A:CA}{M:CM}(h:Gc k H A Z M)(s:Χ H H'):Gc k H' A Z M:=h.Ji (B:=[]) (ϳ.of_same s) (λ_ z=>nomatch z) (λ_ z=>nomatch z) (λ_ z=>nomatch z)
def jx (A:CA):(stF A).lookup (Α "shelves")=some (.ref A.sh):=rfl
def mx (A:CA):(stF A).lookup (Α "rows")=some (.ref A.rl):=rfl
def cF (A:CA):(stF A).lookup (Α "senders")=some (.ref A.sn):=rfl
def tE (A:CA):(stF A).lookup (Α "deeds")=some (.ref A.de):=rfl
def eV (A:CA):(ceF A).lookup (Α "state")=some (.ref A.st):=rfl
def DI (A:CA):(ceF A).lookup (Α "book")=some (.ref A.bk):=rfl
abbrev CM.Le (M:CM)(n:Str):CM:={ M with S:=M.S.Le n }
abbrev CM.put (M:CM)(i:Nat)(m:Iz)(x:Yt)(n:Str)(k:Int):CM:={ M with Ms:=M.Ms.set i (m.add x),S:=M.S.note n k ((i:Int),m.last) }
def CA.uO {A:CA}(nd:A.fix.Nodup)(ha:a∈[A.c,A.st,A.bk,A.bl,A.sh,A.shl,A.rl,A.sn,A.l,A.t,A.p,A.de,A.dl,A.bz,A.gr,A.rd,A.ra,A.rb]):a∉A.rs/\a∉A.ds:=by
 unfold CA.fix at nd;have:=(ϴ.mp nd).2.2;exact⟨λz=>this a ha a (ώ _ z) rfl,λz=>this a ha a (ι _ z) rfl⟩
def CA.Z4 {A:CA}(nd:A.fix.Nodup):[A.c,A.st,A.bk,A.bl,A.sh,A.shl,A.rl,A.sn,A.l,A.t,A.p,A.de,A.dl,A.bz,A.gr,A.rd,A.ra,A.rb].Nodup:=(ϴ.mp nd).1
def CA.ndR {A:CA}(nd:A.fix.Nodup):(A.rs++A.ds).Nodup:=(ϴ.mp nd).2.1
def bj {l A:List Ε}{x:Ε}(h:l.Nodup)(i:Nat)(js:List Nat)(hx:l[i]?=some x)(hA:A.map some=js.map λj=>l[j]?)(hij:i∉js):x∉A:=λm=>by
 have m2:some x∈A.map some:=τ.mpr (Κ x m rfl);rw[hA] at m2;(refine ρ (τ.mp m2) λj hj ej=>?_);obtain⟨hi,ei⟩:=Ο.mp hx;obtain⟨hj',ej'⟩:=Ο.mp ej;have hne:i≠j:=λz=>hij (by rw[z];exact hj);have hp:=J1.mp h;rcases PX hne with z | z
 ·exact hp i j hi hj' z (ei.trans ej'.symm)
 ·exact hp j i hj' hi z (ej'.trans ei.symm)
def J4.sends {k:CK}{A:CA}{M:CM}{S':KF}(h:J4 k H A Z M)(c:ϳ [A.l,A.t,A.p] H H')(s':J0 k.N H' A.sn A.l A.t A.p Z S'):J4 k H' A Z { M with S:=S' }:=by
 have Pb:=CA.Z4 h.nd
 have nr:∀a∈[A.l,A.t,A.p],a∉A.rs/\a∉A.ds:=λa ha=>CA.uO h.nd (by
  simp only[Θ,Ρ,ϛ] at ha;rcases ha with rfl | rfl | rfl
  ·exact mi 8 rfl
  ·exact mi 9 rfl
  ·exact mi 10 rfl)
 obtain⟨dx,e⟩:=h.Tz;have hs:∀b∈[A.l,A.t,A.p],∃o,H' b=some o:=λb hb=>by
  (refine ρ s'.Kk λk1 e1 _=>?_);(refine ρ s'.YE λk2 e2 _=>?_);(refine ρ s'.Zh λk3 e3 _=>?_);simp only[Θ,Ρ,ϛ] at hb;rcases hb with rfl | rfl | rfl
  ·exact⟨_,e1⟩
  ·exact⟨_,e2⟩
  ·exact⟨_,e3⟩
 refine⟨⟨dx,c.keep _ _ e (bj Pb 1 [8,9,10] rfl rfl (by decide))⟩,h.Xg.Ji c (bj Pb 4 [8,9,10] rfl rfl (by decide)) (bj Pb 5 [8,9,10] rfl rfl (by decide)),h.Xh,c.keep _ _ h.Ri (bj Pb 6 [8,9,10] rfl rfl (by decide)),λi r d m h1 h2 h3=>?_,h.len,h.lend,h.OB,s',
  h.Wr.Ji c (bj Pb 11 [8,9,10] rfl rfl (by decide)) (bj Pb 12 [8,9,10] rfl rfl (by decide)) (bj Pb 13 [8,9,10] rfl rfl (by decide)) (λ_ hu=>nomatch hu),h.Zi.Ji c (bj Pb 15 [8,9,10] rfl rfl (by decide)) (bj Pb 16 [8,9,10] rfl rfl (by decide)) (bj Pb 17 [8,9,10] rfl rfl (by decide)),c.keep _ _ h.grp (bj Pb 14 [8,9,10] rfl rfl (by decide)),h.Z3,λb hb=>jw c hs b (h.zo b hb),h.nd⟩
 have m1:=Ν h1;have m2:=Ν h2;exact(h.row i r d m h1 h2 h3).Ji c (λz=>(nr r z).1 m1) (λz=>(nr d z).2 m2)
def hV {l:List Ε}(nd:l.Nodup)(h1:l[i]?=some a)(h2:l[j]?=some a):i=j:=by
 by_cases e:i=j
 ·exact e
 ·exact absurd rfl (Hy nd h1 h2 e)
def J4.ai0 {k:CK}{A:CA}{M:CM}{m':Iz}(h:J4 k H A Z M)(hr:A.rs[i]?=some r)(hd:A.ds[i]?=some d)(c:ϳ [r,d] H H')(R':KD k.R H' r d m'):J4 k H' A Z { M with Ms:=M.Ms.set i m' }:=by
 have mr:=Ν hr;have md:=Ν hd;have f:∀{a:Ε},a∈[A.c,A.st,A.bk,A.bl,A.sh,A.shl,A.rl,A.sn,A.l,A.t,A.p,A.de,A.dl,A.bz,A.gr,A.rd,A.ra,A.rb]->a∉[r,d]:=λha z=>by
  have:=CA.uO h.nd ha;simp only[Θ,Ρ,ϛ] at z;rcases z with rfl | rfl
  ·exact this.1 mr
  ·exact this.2 md
 have ndR:=CA.ndR h.nd;have ndr:=(ϴ.mp ndR).1;have ndd:=(ϴ.mp ndR).2.1;have ndx:=(ϴ.mp ndR).2.2;obtain⟨dx,e⟩:=h.Tz;obtain⟨YH,er⟩:=R'.obj;(refine ρ R'.dict λkd ed _=>?_);have hs:∀b∈[r,d],∃o,H' b=some o:=λb hb=>by
  simp only[Θ,Ρ,ϛ] at hb;rcases hb with rfl | rfl
  ·exact⟨_,er⟩
  ·exact⟨_,ed⟩
 have hi:i < A.rs.length:=(Ο.mp hr).1;have hz:∀b∈[r,d],b∈Z\/∀xs,H b≠some (.lst xs):=λb hb=>.inr λxs z=>by
  have hm:M.Ms[i]?=some (M.Ms[i]'(by rw[h.OB];exact hi)):=by simp
  obtain⟨dx0,e0⟩:=(h.row i r d _ hr hd hm).obj;(refine ρ ((h.row i r d _ hr hd hm).dict) λkv0 e1 _=>?_);simp only[Θ,Ρ,ϛ] at hb;rcases hb with rfl | rfl
  ·rw[e0] at z;cases z
  ·rw[e1] at z;cases z
 refine⟨⟨dx,c.keep _ _ e (f (mi 1 rfl))⟩,h.Xg.Ji c (f (mi 4 rfl)) (f (mi 5 rfl)),h.Xh,c.keep _ _ h.Ri (f (mi 6 rfl)),λj r1 d1 m1 h1 h2 h3=>?_,h.len,h.lend,by simp[h.OB],
  h.snd.Ji c (f (mi 7 rfl)) (f (mi 8 rfl)) (f (mi 9 rfl)) (f (mi 10 rfl)) hz,h.Wr.Ji c (f (mi 11 rfl)) (f (mi 12 rfl)) (f (mi 13 rfl)) (λ_ hu=>nomatch hu),h.Zi.Ji c (f (mi 15 rfl)) (f (mi 16 rfl)) (f (mi 17 rfl)),c.keep _ _ h.grp (f (mi 14 rfl)),h.Z3,λb hb=>jw c hs b (h.zo b hb),h.nd⟩
 by_cases ej:j=i
 ·subst ej
  rw[hr] at h1;rw[hd] at h2;cases h1;cases h2;have:M.Ms.set j m'=M.Ms.set j m':=rfl;rw[Kt (by rw[h.OB];exact hi)] at h3;cases h3;exact R'
 ·rw[JR (ω ej)] at h3
  have q1:=Ν h1;have q2:=Ν h2;refine(h.row j r1 d1 m1 h1 h2 h3).Ji c ?_ ?_
  ·simp only[Θ,Ρ,ϛ,ads]
   exact⟨λz=>ej (hV ndr h1 (z▸hr)),λz=>ndx r1 q1 d md z⟩
  ·simp only[Θ,Ρ,ϛ,ads]
   exact⟨λz=>ndx r mr d1 q2 z.symm,λz=>ej (hV ndd h2 (z▸hd))⟩
abbrev nQ (k:CK):Sp:=λvs H Q _=>∃(A:CA) (Z:List Ε) (M:CM) (D:Ε) (n:List Nat) (kk:Nat),vs=[.ref A.st,.ref D]/\J4 k H A Z M/\H D=some (.dK (Oz "hail" (Pp n kk)))/\M.S.sz<=100000/\M.S.L (S n)=none/\
 ∀H',ϳ [A.l,A.t,A.p] H H'->J4 k H' A Z (M.Le (S n))->Q .cr H'
abbrev qH (k:CK):Sp:=λvs H Q _=>∃(A:CA) (Z:List Ε) (M:CM) (D:Ε) (n:List Nat) (kk i pl:Nat) (key:List Nat) (wo:Option (List Nat)) (r d:Ε) (m:Iz),vs=[.ref A.st,.ref D]/\J4 k H A Z M/\H D=some (.dK (Oz "put" (OA n kk 0 i pl key wo)))/\D≠d/\D≠A.t/\D≠A.p/\
 A.rs[i]?=some r/\A.ds[i]?=some d/\M.Ms[i]?=some m/\m.last<=10000/\M.S.sz<=100000/\(M.S.L (S n)).isSome=true/\(kk:Int)=M.S.T (S n)+1/\
 ∀H',ϳ [r,d,A.l,A.t,A.p] H H'->J4 k H' A Z (M.put i m (key,wo,0) (S n) kk)->Q .cr H'
abbrev BE (k:CK):Sp:=λvs H Q E=>∃(st D:Ε),vs=[.ref st,.ref D]/\((nQ k [.ref st,.ref D] H Q E/\∃ps,H D=some (.dK (Oz "hail" ps)))\/(qH k [.ref st,.ref D] H Q E/\∃ps,H D=some (.dK (Oz "put" ps))))
def BF (n:List Nat)(k:Nat):Io (Oz "hail" (Pp n k)) (.inr (Α "sender"))=some (.str (S n)):=by rfl
section
variable (n:List Nat) (k dd r pl:Nat) (key:List Nat) (wo:Option (List Nat))
def BG:Io (Oz "put" (OA n k dd r pl key wo)) (.inr (Α "sender"))=some (.str (S n)):=by rfl
def BH:Io (Oz "put" (OA n k dd r pl key wo)) (.inr (Α "number"))=some (.int (k:Int)):=by rfl
def zW:Io (Oz "put" (OA n k dd r pl key wo)) (.inr (Α "deed"))=some (.int (dd:Int)):=by rfl
def GR:Io (Oz "put" (OA n k dd r pl key wo)) (.inr (Α "row"))=some (.int (r:Int)):=by rfl
def GS:Io (Oz "put" (OA n k dd r pl key wo)) (.inr (Α "key"))=some (.str (S key)):=by rfl
def E5:Io (Oz "put" (OA n k dd r pl key wo)) (.inr (Α "word"))=some (wV wo):=by rfl
end
def dg {D:Ε}{v:V}(h:H D=some (.dK ϔ))(e:Io ϔ (.inr x)=some v):Jc H D (.str x) (some v):=by
 have g:=Jc.k (k:=.inr x) h;rw[e] at g;exact g
abbrev wD (k:CK):Sp:=λvs H Q _=>∃(A:CA) (Z:List Ε) (M:CM) (n:List Nat) (kk:Nat),vs=[.ref A.st,.str (S n)]/\J4 k H A Z M/\Jy n/\(kk:Int)=(M.S.L (S n)).getD 0+1/\kk < 10 ^ 9/\
 ∀t ev u D H',Χ H H'->H ev=none->H D=none->H' t=some (.tup [.ref ev,.ref u])->H' ev=some (.lst [.ref D])->H' D=some (.dK (Oz "hail" (Pp n kk)))->H' u=some (.tup [.int (kk:Int),.int (if (M.S.L (S n)).isSome=true then M.S.T (S n) else 0)])->Q (.ref t) H'
def Jy.len {n:List Nat}(h:Jy n):1<=n.length/\n.length<=12/\∀c∈n,c < 128:=by
 unfold Jy Jl at h;simp only[cm,Ϣ,wn] at h;refine⟨by omega,by omega,λc hc=>?_⟩;have:=IM.mp h.2.2 c (by simpa [S] using hc);have h2:c∈Yv:=by simpa [Vg] using this
 have key:∀c∈Yv,c < 128:=by decide
 exact key c h2
def qI {p:Str}{l:List Nat}(hp:p∈Qi):WT p (.str (S l)) l:=.inl ⟨hp,rfl⟩
def jy {p:Str}{m:Nat}(h1:p∉Qi)(h2:p ≠ "word")(h3:p ≠ "owner")(hm:m < 10 ^ 12):WT p (.int (m:Int)) (ϝ (m:Int))/\(ϝ (m:Int)).length<=201/\∀c∈ϝ (m:Int),c < 128:=
 ⟨.inr (.inr ⟨h1,h2,h3,(ύ m rfl hm rfl)⟩),ζ (pP (k:=12) (by decide) hm) (by decide),λc hc=>by have:=ml m c hc;omega⟩
def tF {n:List Nat}{k:Nat}(hn:Jy n)(hk:k < 10 ^ 9):Vj "hail" (Pp n k):=by
 (refine IT hn.len λ_ n1 n2=>?_);refine⟨λx hx=>?_,by show LX [Α "event",Α "sender",Α "life"];decide +kernel,by show 2<=7;decide⟩;simp only[Pp,Θ,Ρ,ϛ] at hx;rcases hx with rfl | rfl
 ·exact⟨qI (p:="sender") (s!"d"),by show n.length<=201;omega,n2⟩
 ·exact jy (p:="life") (s!"d") (s!"d") (s!"d") (by omega)
def keyOk.len {n:List Nat}(h:keyOk n):n.length<=24/\∀c∈n,c < 128:=by
 unfold keyOk Jl at h;simp only[cm,Ϣ,wn] at h;refine⟨by omega,λc hc=>?_⟩;have:=IM.mp h.2.2 c (by simpa [S] using hc);unfold JI at this;simp only[Ϣ,wn] at this;omega
def qJ (h:Lf wo)(hl:∀w,wo=some w->w.length<=200):(Jq wo).length<=201/\∀c∈Jq wo,c < 128:=by
 cases wo with
 | none=>exact⟨by decide,by decide⟩
 | some w=>
  have h0:=hl w rfl;have h1:Jl (.str (S w)) 0 200 JI=true:=by
   unfold Lf at h;simpa [wV] using h
  unfold Jl at h1;simp only[cm,Ϣ,wn] at h1;refine⟨by show w.length+1<=201;omega,λc hc=>?_⟩;rcases Θ.mp hc with rfl | hc
  ·decide
  ·have:=IM.mp h1.2.2 c (by simpa [S] using hc)
   unfold JI at this;simp only[Ϣ,wn] at this;omega
def wF {n:List Nat}{k dd r pl:Nat}(hn:Jy n)(hk:k < 10 ^ 10)(hd:dd < 10 ^ 10)(hr:r < 10 ^ 10)(hp:pl < 10 ^ 10)(hky:keyOk key)(hw:Lf wo)(WF:∀w,wo=some w->w.length<=200):Vj "put" (OA n k dd r pl key wo):=by
 (refine IT hn.len λ_ n1 n2=>?_);obtain⟨k1,k2⟩:=hky.len;obtain⟨w1,w2⟩:=qJ hw WF;refine⟨λx hx=>?_,by show LX [Α "event",Α "sender",Α "number",Α "deed",Α "row",Α "place",Α "key",Α "word"];decide +kernel,by show 7<=7;decide⟩;simp only[OA,Θ,Ρ,ϛ] at hx;rcases hx with rfl | rfl | rfl | rfl | rfl | rfl | rfl
 ·exact⟨qI (p:="sender") (s!"d"),by show n.length<=201;omega,n2⟩
 ·exact jy (p:="number") (s!"d") (s!"d") (s!"d") (by omega)
 ·exact jy (p:="deed") (s!"d") (s!"d") (s!"d") (by omega)
 ·exact jy (p:="row") (s!"d") (s!"d") (s!"d") (by omega)
 ·exact jy (p:="place") (s!"d") (s!"d") (s!"d") (by omega)
 ·exact⟨qI (p:="key") (s!"d"),by show key.length<=201;omega,k2⟩
 ·exact⟨.inr (.inl ⟨rfl,(Κ wo rfl rfl)⟩),w1,w2⟩
structure ai1 (k:CK)(H:Hp)(A:CA)(Z:List Ε)(M:CM)(n LS key:List Nat)(wo:Option (List Nat))(life num:Nat)(dd j:Nat)(x:Jn):Prop where
 st:J4 k H A Z M
 nm:Jy n
 sh:Jy LS
 ky:keyOk key
 wd:Lf wo
 wl:∀w,wo=some w->w.length<=200
 lf:1<=life/\life<=1000000000
 nu:1<=num/\num<=1000000000
 dd:dd<=1000000000
 pos:M.xs[j]?=some x
 xn:x.name=LS
abbrev yy (k:CK):Sp:=λvs H Q _=>∃(A:CA) (Z:List Ε) (M:CM) (n LS key:List Nat) (wo:Option (List Nat)) (life num dd j:Nat) (x:Jn) (lt:Ε),vs=[.ref A.st,.str (S n),.int (life:Int),.int (num:Int),.str (S LS),.ref lt,.int (dd:Int)]/\H lt=some (.tup [.str (S key),wV wo])/\ai1 k H A Z M n LS key wo life num dd j x/\
 M.S.L (S n)=some (life:Int)/\dd=0/\(
   (∃(i:Nat) (y:Spot),(num:Int)=M.S.T (S n)+1 - (M.S.P (S n)).length+i/\(M.S.P (S n))[i]?=some y/\∀t ev u H',Χ H H'->H' t=some (.tup [.ref ev,.ref u])->H' ev=some (.lst [])->H' u=some (.tup (QD y))->Q (.ref t) H')\/
   ((num:Int)=M.S.T (S n)+1/\∃(i pl:Nat) (m:Iz),(i:Int)=Mh M.xs j x key/\M.Ms[i]?=some m/\m.last=(pl:Int)/\pl < 10 ^ 9/\
    ∀t ev u D H',Χ H H'->H ev=none->H D=none->H' t=some (.tup [.ref ev,.ref u])->H' ev=some (.lst [.ref D])->H' D=some (.dK (Oz "put" (OA n num 0 i pl key wo)))->H' u=some (.tup [.int (i:Int),.int (pl:Int)])->Q (.ref t) H'))
def pQ {k:CK}{A:CA}{M:CM}(h:J4 k H A Z M):A.rs.length<=9 * M.xs.length:=by
 rw[h.len];exact k7 (λx hx=>(h.Xh.each x hx).2.1.2) _
abbrev FE (k:CK):Sp:=λvs H Q _=>∃(A:CA) (Z:List Ε) (M:CM) (r:Nat),vs=[.ref A.st,.int (r:Int)]/\J4 k H A Z M/\r < A.rs.length/\Q .cr H
abbrev E6 (k:CK):Sp:=λvs H Q _=>∃(A:CA) (Z:List Ε) (M:CM) (r:Nat),vs=[.ref A.st,.int (r:Int)]/\J4 k H A Z M/\r < A.rs.length/\∀H',Χ H H'->Q .cr H'
abbrev wG (C:Ε):Sp:=λvs H Q _=>∃(r dl bz:Ε),vs=[.ref r]/\Mi C 0 H r dl bz [] UB/\∀p H',H p=none->Χ H H'->H' p=some (.lst [])->Q (.ref p) H'
abbrev wH (k:CK):Sp:=λvs H Q _=>∃(A:CA) (Z:List Ε) (M:CM) (r:Nat) (m:Iz),vs=[.ref A.st,.int (r:Int)]/\J4 k H A Z M/\M.Ms[r]?=some m/\∀H',Χ H H'->Q (.int m.last) H'
abbrev E7 (k:CK):Sp:=λvs H Q _=>∃(A:CA) (Z:List Ε) (M:CM) (r start most:Nat) (m:Iz),vs=[.ref A.st,.int (r:Int),.int (start:Int),.int (most:Int),.bl true]/\J4 k H A Z M/\M.Ms[r]?=some m/\m.last<=100000/\m.first<=(start:Int)/\start<=1000000000/\1<=most/\most<=1000/\
 ∀D H',H D=none->Χ H H'->Jd H' D ((m.Qz start m.last most).map m.Vf)->Q (.ref D) H'
def qK {xs:List Jn}{r:Nat}:∀n,n<=xs.length->r < Ϝ xs n->∃k x,xs[k]?=some x/\Ϝ xs k<=r/\r < Ϝ xs (k+1)
 | 0,_,h=>by simp[Ϝ] at h
 | n+1,hn,h=>by
  by_cases e:r < Ϝ xs n
  ·exact qK n (by omega) e
  ·exact(ϒ n (xs[n]'(by omega)) (by simp) (by omega) h)
abbrev yz:Sp:=λvs H Q _=>∃(p:Ε) (xs:List Jn),vs=[.ref p]/\Jd H p (xs.map Jn.v)/\JK xs/\xs.length<=3/\∀b H',Χ H H'->okB b->Q (.str (S b)) H'
structure St0 (k:CK)(H:Hp)(A:CA)(xs:List Jn):Prop where
 Tz:∃dx,H A.st=some (.ins k.S dx (stF A))
 Xg:Rf k.H H A.sh A.shl xs
 Xh:JK xs
 Ri:H A.rl=some (.lst (A.rs.map V.ref))
 row:∀(i:Nat) r d,A.rs[i]?=some r->A.ds[i]?=some d->KD k.R H r d NE
 len:A.rs.length=Ϝ xs xs.length
 lend:A.ds.length=A.rs.length
 snd:J0 k.N H A.sn A.l A.t A.p [] OG
 Wr:Mi k.D 0 H A.de A.dl A.bz [] UB
 Zi:Qg k.Rd H A.rd A.ra A.rb read0
 grp:H A.gr=some (.dK [])
abbrev CA.new (A:CA):List Ε:=[A.sh,A.shl,A.rl,A.sn,A.l,A.t,A.p,A.de,A.dl,A.bz,A.gr,A.rd,A.ra,A.rb]++(A.rs++A.ds)
structure Fr (H H':Hp)(L:List Ε):Prop where
 nd:L.Nodup
 no:∀b∈L,H b=none
 yes:∀b∈L,∃o,H' b=some o
abbrev M9 (H H':Hp):Prop:=∀b,(∃o,H b=some o)->∃o,H' b=some o
def M9.refl (H:Hp):M9 H H:=λ_ h=>h
def M9.trans (a:M9 H H1)(b:M9 H1 H2):M9 H H2:=λc h=>b c (a c h)
def M9.back (h:M9 H H')(e:H' b=none):H b=none:=by
 cases q:H b with
 | none=>rfl
 | some o=>obtain⟨o',e'⟩:=h b ⟨o,q⟩;rw[e] at e';cases e'
def Χ.Kk (s:Χ H H'):M9 H H':=λb zz=>X3 zz λo e=>⟨o,s b o e⟩
def ϳ.ai2 {x:Ε}{o:HO}(c:ϳ [x] H H')(e:H' x=some o):M9 H H':=λb hb=>jw c (λb hb=>by rw[Μ.mp hb];exact⟨o,e⟩) b hb
def M9.wr {o:HO}:M9 H (upd H b o):=λc zz=>X3 zz λu e=>by
 by_cases z:c=b
 ·subst z;exact⟨o,ae⟩
 ·exact⟨u,by rw[aj z];exact e⟩
def Fr.nil:Fr H H []:=⟨Zx,λ_ h=>(nomatch h),λ_ h=>(nomatch h)⟩
def Fr.Kk {L:List Ε}(f:Fr H H1 L)(l:M9 H1 H2):Fr H H2 L:=⟨f.nd,f.no,λb hb=>l b (f.yes b hb)⟩
def Fr.add {L:List Ε}(f:Fr H H1 L)(l0:M9 H H1)(hb:H1 b=none)(l:M9 H1 H2)(e:∃o,H2 b=some o):Fr H H2 (b::L):=
 ⟨Ϯ.mpr ⟨λz=>by (obtain⟨o,q⟩:=f.yes b z;rw[hb] at q;cases q),f.nd⟩,λc hc=>by
  rcases Θ.mp hc with rfl | hc
  ·exact l0.back hb
  ·exact f.no c hc,λc hc=>by
  rcases Θ.mp hc with rfl | hc
  ·exact e
  ·exact l c (f.yes c hc)⟩
def Fr.perm {L L':List Ε}(f:Fr H H1 L)(p:L.Perm L'):Fr H H1 L':=⟨p.nodup_iff.mp f.nd,λb hb=>f.no b (p.mem_iff.mpr hb),λb hb=>f.yes b (p.mem_iff.mpr hb)⟩
abbrev yA (k:CK):Sp:=λvs H Q _=>∃(x dx p:Ε) (xs:List Jn),vs=[.ref x,.ref p]/\H x=some (.ins k.S dx [])/\Jd H p (xs.map Jn.v)/\JK xs/\
 ∀A H',A.st=x->ϳ [x] H H'->Fr H H' A.new->St0 k H' A xs->Q .cr H'
def Fr.adds {L:List Ε}(M:List Ε)(f:Fr H H1 L)(l0:M9 H H1)(nd:M.Nodup)(hb:∀b∈M,H1 b=none)(l:M9 H1 H2)(e:∀b∈M,∃o,H2 b=some o):Fr H H2 (M++L):=
 ⟨ϴ.mpr ⟨nd,f.nd,λa ha b hb' z=>by subst z;obtain⟨o,q⟩:=f.yes a hb';rw[hb a ha] at q;cases q⟩,
  λc hc=>by
  rcases ϑ.mp hc with h | h
  ·exact l0.back (hb c h)
  ·exact f.no c h,
  λc hc=>by
  rcases ϑ.mp hc with h | h
  ·exact e c h
  ·exact l c (f.yes c h)⟩
def jA {L M:List Ε}(h:∀a,L.count a=M.count a):L.Perm M:=List.perm_iff_count.mpr h
def cw {s:Ε}{o:HO}(hs:H s=none)(hd:H dx=none)(c:ϳ [s] (upd (upd H dx (.own s)) s o) H2):Χ H H2:=λb u e=>by
 have n1:b≠s:=λz=>by rw[z,hs] at e;cases e
 have n2:b≠dx:=λz=>by rw[z,hd] at e;cases e
 exact c.keep b u (by rw[aj n1,aj n2];exact e) (by simp;exact n1)
def bB {s l:Ε}{o:HO}(h:upd (upd H dx (.own s)) s o l=none):H l=none/\l≠s/\l≠dx:=by
 have n1:l≠s:=λz=>by rw[z,ae] at h;cases h
 rw[aj n1] at h;have n2:l≠dx:=λz=>by rw[z,ae] at h;cases h
 rw[aj n2] at h;exact⟨h,n1,n2⟩
structure LG (C:Ε)(H H':Hp)(D:Ε)(ys:List V)(i:Nat)(rs ds:List Ε):Prop where
 eq:ys=rs.map V.ref
 lr:rs.length=i
 ld:ds.length=i
 row:∀(j:Nat) r d,rs[j]?=some r->ds[j]?=some d->KD C H' r d NE
 lst:H' D=some (.lst ys)
 same:Χ H H'
 fr:Fr H H' (D::(rs++ds))
def LG.zero {D:Ε}(hD:H D=none):LG C H (upd H D (.lst [])) D [] 0 [] []:=
 ⟨rfl,rfl,rfl,λj r d h=>by simp at h,ae,Χ.upd hD,Fr.add (Fr.nil) (M9.refl _) hD (Χ.upd hD).Kk ⟨_,ae⟩⟩
def LG.succ {H5:Hp}{D:Ε}{rs ds:List Ε}(h:LG C H H' D ys i rs ds)(s5:Χ H' H5)(hr:H' r=none)(hd:H' d=none)(nrd:d≠r)(R:KD C H5 r d NE) :
  H5 D=some (.lst ys)/\LG C H (upd H5 D (.lst (ys++[.ref r]))) D (ys++[.ref r]) (i+1) (rs++[r]) (ds++[d]):=by
 have hD0:=h.fr.no D (by simp);have n1:r≠D:=λz=>by rw[z,h.lst] at hr;cases hr
 have n2:d≠D:=λz=>by rw[z,h.lst] at hd;cases hd
 have f5:=h.fr.adds [r,d] h.same.Kk (by simp;exact λz=>nrd z.symm) (λb hb=>by
  simp only[Θ,Ρ,ϛ] at hb;rcases hb with rfl | rfl
  ·exact hr
  ·exact hd) s5.Kk (λb hb=>by
  obtain⟨dx,e⟩:=R.obj;(refine ρ R.dict λkv e2 _=>?_);simp only[Θ,Ρ,ϛ] at hb;rcases hb with rfl | rfl
  ·exact⟨_,e⟩
  ·exact⟨_,e2⟩)
 have c6:ϳ [D] H5 (upd H5 D (.lst (ys++[.ref r]))):=ϳ.upd (by simp) (λxs z=>by rw[s5 _ _ h.lst] at z;cases z);have nd:=h.fr.nd;rw[Ϯ] at nd;refine⟨s5 _ _ h.lst,by rw[h.eq];simp,by simp[h.lr],by simp[h.ld],λj r1 d1 h1 h2=>?_,ae,Χ.wr (h.same.trans s5) hD0,?_⟩
 ·by_cases ej:j < i
  ·rw[wf (by rw[h.lr];exact ej)] at h1
   rw[wf (by rw[h.ld];exact ej)] at h2;have m1:=Ν h1;have m2:=Ν h2;exact((h.row j r1 d1 h1 h2).same s5).Ji c6 (by simp;exact λz=>nd.1 (z▸ώ _ m1)) (by simp;exact λz=>nd.1 (z▸ι _ m2))
  ·have l1:=(Ο.mp h1).1
   rw[Ω,h.lr] at l1;have ej2:j=i:=by simp at l1;omega
   subst ej2;rw[Db (by rw[h.lr];exact Φ _),h.lr,acR] at h1;rw[Db (by rw[h.ld];exact Φ _),h.ld,acR] at h2;cases h1;cases h2;exact R.Ji c6 (by simp;exact n1) (by simp;exact n2)
 ·refine(f5.Kk M9.wr).perm (jA λa=>?_)
  simp only[Kw,Lr,LY,ii,IG];omega
def Vk {x:Ε}{fs X6:List (Str×V)}(hx:H x=some (.ins C dx fs))(e:upd H x (.ins C dx X6)=H'):ϳ [x] H H'/\H' x=some (.ins C dx X6)/\M9 H H':=by
 subst e;exact⟨ϳ.upd (by simp) (λxs z=>by rw[hx] at z;cases z),ae,M9.wr⟩
def Fr.two {L:List Ε}(f:Fr H H1 L)(l0:M9 H H1)(l:M9 H1 H2)(n:a≠b)(ha:H1 a=none)(hb:H1 b=none)(ea:∃o,H2 a=some o)(eb:∃o,H2 b=some o):Fr H H2 ([a,b]++L):=
 f.adds [a,b] l0 (by simp;exact n) (λc hc=>by
  simp only[Θ,Ρ,ϛ] at hc;rcases hc with rfl | rfl
  ·exact ha
  ·exact hb) l (λc hc=>by
  simp only[Θ,Ρ,ϛ] at hc;rcases hc with rfl | rfl
  ·exact ea
  ·exact eb)
def Fr.three {L:List Ε}{c:Ε}(f:Fr H H1 L)(l0:M9 H H1)(l:M9 H1 H2)(n1:a≠b)(n2:a≠c)(n3:b≠c)(ha:H1 a=none)(hb:H1 b=none)(hc:H1 c=none)(ea:∃o,H2 a=some o)(eb:∃o,H2 b=some o)(ec:∃o,H2 c=some o):Fr H H2 ([a,b,c]++L):=
 f.adds [a,b,c] l0 (by simp;exact⟨⟨n1,n2⟩,n3⟩) (λd hd=>by
  simp only[Θ,Ρ,ϛ] at hd;rcases hd with rfl | rfl | rfl
  ·exact ha
  ·exact hb
  ·exact hc) l (λd hd=>by
  simp only[Θ,Ρ,ϛ] at hd;rcases hd with rfl | rfl | rfl
  ·exact ea
  ·exact eb
  ·exact ec)
def Fr.four {L:List Ε}{c:Ε}(f:Fr H H1 L)(l0:M9 H H1)(l:M9 H1 H2)(nd:[a,b,c,d].Nodup)(ha:H1 a=none)(hb:H1 b=none)(hc:H1 c=none)(hd:H1 d=none)(ea:∃o,H2 a=some o)(eb:∃o,H2 b=some o)(ec:∃o,H2 c=some o)(ed:∃o,H2 d=some o):Fr H H2 ([a,b,c,d]++L):=
 f.adds [a,b,c,d] l0 nd (λx hx=>by
  simp only[Θ,Ρ,ϛ] at hx;rcases hx with rfl | rfl | rfl | rfl
  ·exact ha
  ·exact hb
  ·exact hc
  ·exact hd) l (λx hx=>by
  simp only[Θ,Ρ,ϛ] at hx;rcases hx with rfl | rfl | rfl | rfl
  ·exact ea
  ·exact eb
  ·exact ec
  ·exact ed)
def DJ (A:CA):([A.rd,A.ra,A.rb]++(A.gr::([A.de,A.dl,A.bz]++([A.sn,A.l,A.t,A.p]++((A.rl::(A.rs++A.ds))++[A.sh,A.shl]))))).Perm A.new:=jA λa=>by
 unfold CA.new;simp only[Kw,Lr,LY,ii,IG,acS,acT]
 ac_rfl
abbrev RY (xs:List Jn)(i:Nat):List (List Nat):=(Α "shelves").cps.toList::(xs.take i).flatMap λx=>[x.name,ϝ (x.rows:Int),x.kind.cps.toList]
def BI {xs:List Jn}{y:Jn}(h:xs[i]?=some y):tx (RY xs (i+1))=tx (RY xs i)++[.str (S y.name),.str (S (ϝ (y.rows:Int))),.str y.kind]:=by
 unfold RY tx;rw[bi,h];simp[<-xY]
def GU {c:Nat}(h:Vg c=true):c < 128:=by
 have h2:c∈Yv:=by simpa [Vg] using h
 have key:∀c∈Yv,c < 128:=by decide
 exact key c h2
def uP {xs:List Jn}(ok:JK xs)(i:Nat):∀l∈RY xs i,l.length<=12/\∀c∈l,c < 128:=λl hl=>by
 unfold RY at hl;rcases Θ.mp hl with rfl | hl
 ·decide +kernel
 ·(refine ρ (KY.mp hl) λx hx hl=>?_)
  have o:=ok.each x (Ou hx);simp only[Θ,Ρ,ϛ] at hl;rcases hl with rfl | rfl | rfl
  ·exact⟨o.1.2.1,λc hc=>GU (IM.mp o.1.2.2 c hc)⟩
  ·exact⟨ζ (pP (k:=1) (by decide) (by have:=o.2.1;omega)) (by decide),λc hc=>by have:=ml _ c hc;omega⟩
  ·rcases o.2.2 with e | e<;>rw[e]<;>decide +kernel
def qL {xs:List Jn}(i:Nat):(RY xs i).length<=1+3 * xs.length:=by
 unfold RY;rw[Ψ,OY];have h:∀l:List Jn,(l.map λx=>[x.name,ϝ (x.rows:Int),x.kind.cps.toList].length).sum=3 * l.length:=by
  intro l
  induction l with
  | nil=>rfl
  | cons a l ih=>rw[ο,am,ih,Ψ];simp;omega
 rw[h,Ϭ];omega
def acg {xs:List Jn}(ok:JK xs)(h3:xs.length<=3)(i:Nat):okB (db [59] ((RY xs i).map gd)):=by
 constructor
 ·intro c h
  rcases nP h with q | ⟨l,hl,q⟩
  ·simp at q;omega
  ·(refine ρ (τ.mp hl) λa ha Τ=>?_;subst Τ)
   exact FD (uP ok i a ha).2 c q
 ·have h1:=qD (z:=[59]) (m:=24) (ls:=(RY xs i).map gd) (λl hl=>by
   (refine ρ (τ.mp hl) λa ha Τ=>?_;subst Τ);have:=nM a;have:=(uP ok i a ha).1
   omega)
  have h2:=qL (xs:=xs) i;rw[Ζ,jp] at h1;omega
def wI:∀{l:List (List Nat)},(∀a∈l,a.length<=12)->(l.map Ϻ).sum<=12 * l.length
 | [],_=>by simp
 | a::l,h=>by
  have:=h a (by simp);have:=wI (l:=l) λb hb=>h b (by simp[hb]);simp only[ο,am,Ψ];omega
def J4.lines {k:CK}{A:CA}{M:CM}(h:J4 k H A Z M)(c:ϳ [A.bl] H H')(hs:∃o,H' A.bl=some o)(ls:List (List Nat)):J4 k H' A Z { M with ls:=ls }:=by
 have Pb:=CA.Z4 h.nd;have nr:=CA.uO h.nd (a:=A.bl) (mi 3 rfl);obtain⟨dx,e⟩:=h.Tz;have hz:∀b∈[A.bl],b∈Z\/∀xs,H b≠some (.lst xs):=λb hb=>.inl (by rw[Μ.mp hb];exact h.Z3.1)
 refine⟨⟨dx,c.keep _ _ e (bj Pb 1 [3] rfl rfl (by decide))⟩,h.Xg.Ji c (bj Pb 4 [3] rfl rfl (by decide)) (bj Pb 5 [3] rfl rfl (by decide)),h.Xh,c.keep _ _ h.Ri (bj Pb 6 [3] rfl rfl (by decide)),λi r d m h1 h2 h3=>?_,h.len,h.lend,h.OB,
  h.snd.Ji c (bj Pb 7 [3] rfl rfl (by decide)) (bj Pb 8 [3] rfl rfl (by decide)) (bj Pb 9 [3] rfl rfl (by decide)) (bj Pb 10 [3] rfl rfl (by decide)) hz,h.Wr.Ji c (bj Pb 11 [3] rfl rfl (by decide)) (bj Pb 12 [3] rfl rfl (by decide)) (bj Pb 13 [3] rfl rfl (by decide)) (λ_ hu=>nomatch hu),h.Zi.Ji c (bj Pb 15 [3] rfl rfl (by decide)) (bj Pb 16 [3] rfl rfl (by decide)) (bj Pb 17 [3] rfl rfl (by decide)),c.keep _ _ h.grp (bj Pb 14 [3] rfl rfl (by decide)),h.Z3,λb hb=>jw c (λb hb=>by rw[Μ.mp hb];exact hs) b (h.zo b hb),h.nd⟩
 have m1:=Ν h1;have m2:=Ν h2;exact(h.row i r d m h1 h2 h3).Ji c (by simp;exact λz=>nr.1 (z▸m1)) (by simp;exact λz=>nr.2 (z▸m2))
def Gc.wrote {k:CK}{A:CA}{M:CM}(h:Gc k H A Z M)(c:ϳ [A.bl] H H')(b:KJ k.B H' A.bk A.bl ls):Gc k H' A Z { M with ls:=ls }:=by
 have Pb:=CA.Z4 h.st.nd;obtain⟨dx,e⟩:=h.SX;exact⟨⟨dx,c.keep _ _ e (bj Pb 0 [3] rfl rfl (by decide))⟩,b,h.st.lines c ⟨_,b.lst⟩ ls⟩
def Gc.stood {k:CK}{A:CA}{B:List Ε}{M M':CM}(h:Gc k H A Z M)(c:ϳ B H H')(hB:∀b∈B,b∈A.l::A.t::A.p::(A.rs++A.ds))(s':J4 k H' A Z M')(e:M'.ls=M.ls):Gc k H' A Z M':=by
 have Pb:=CA.Z4 h.st.nd;have no:∀(m:Nat) (a:Ε),[A.c,A.st,A.bk,A.bl,A.sh,A.shl,A.rl,A.sn,A.l,A.t,A.p,A.de,A.dl,A.bz,A.gr,A.rd,A.ra,A.rb][m]?=some a->m∉[8,9,10]->a∉B:=λm a ha hm hb=>by
  have n1:=CA.uO h.st.nd (mi m ha);have n2:=bj (A:=[A.l,A.t,A.p]) Pb m [8,9,10] ha rfl hm;rcases ϑ.mp (show a∈[A.l,A.t,A.p]++(A.rs++A.ds) from hB a hb) with z | z
  ·exact n2 z
  ·exact(ϑ.mp z).elim n1.1 n1.2
 obtain⟨dx,e1⟩:=h.SX;obtain⟨TB,e2⟩:=h.book.obj;exact⟨⟨dx,c.keep _ _ e1 (no 0 _ rfl (by decide))⟩,⟨⟨TB,c.keep _ _ e2 (no 2 _ rfl (by decide))⟩,by rw[e];exact c.keep _ _ h.book.lst (no 3 _ rfl (by decide))⟩,s'⟩
def Gc.there {k:CK}{A:CA}{M:CM}(h:Gc k H A Z M):∀b∈A.fix,∃o,H b=some o:=λb hb=>by
 obtain⟨Zj,e1⟩:=h.SX;obtain⟨TB,e2⟩:=h.book.obj;obtain⟨dx3,e3⟩:=h.st.Tz;obtain⟨dx4,e4⟩:=h.st.Xg.obj;(refine ρ h.st.Xg.lst λ_ e5 _=>?_);obtain⟨dx6,e6⟩:=h.st.snd.obj;(refine ρ h.st.snd.Kk λ_ e7 _=>?_);(refine ρ h.st.snd.YE λ_ e8 _=>?_);(refine ρ h.st.snd.Zh λ_ e9 _=>?_);obtain⟨_,e10⟩:=h.st.Wr.obj;(refine ρ h.st.Wr.bsy λ_ e11 _=>?_);obtain⟨_,e12⟩:=h.st.Zi.obj;(refine ρ h.st.Zi.row λ_ e13 _=>?_);(refine ρ h.st.Zi.pla λ_ e14 _=>?_);unfold CA.fix at hb;rcases ϑ.mp hb with hb | hb
 ·simp only[Θ,Ρ,ϛ] at hb
  rcases hb with rfl | rfl | rfl | rfl | rfl | rfl | rfl | rfl | rfl | rfl | rfl | rfl | rfl | rfl | rfl | rfl | rfl | rfl
  ·exact⟨_,e1⟩
  ·exact⟨_,e3⟩
  ·exact⟨_,e2⟩
  ·exact⟨_,h.book.lst⟩
  ·exact⟨_,e4⟩
  ·exact⟨_,e5⟩
  ·exact⟨_,h.st.Ri⟩
  ·exact⟨_,e6⟩
  ·exact⟨_,e7⟩
  ·exact⟨_,e8⟩
  ·exact⟨_,e9⟩
  ·exact⟨_,e10⟩
  ·exact⟨_,h.st.Wr.lst⟩
  ·exact⟨_,e11⟩
  ·exact⟨_,h.st.grp⟩
  ·exact⟨_,e12⟩
  ·exact⟨_,e13⟩
  ·exact⟨_,e14⟩
 ·rcases ϑ.mp hb with hb | hb
  ·obtain⟨i,hi⟩:=Lc hb
   have Pa:=(Ο.mp hi).1;have hd:A.ds[i]?=some (A.ds[i]'(by rw[h.st.lend];exact Pa)):=by simp
   have hm:M.Ms[i]?=some (M.Ms[i]'(by rw[h.st.OB];exact Pa)):=by simp
   obtain⟨_,e⟩:=(h.st.row i b _ _ hi hd hm).obj;exact⟨_,e⟩
  ·obtain⟨i,hi⟩:=Lc hb
   have Pa:=(Ο.mp hi).1;have hr:A.rs[i]?=some (A.rs[i]'(by rw[<-h.st.lend];exact Pa)):=by simp
   have hm:M.Ms[i]?=some (M.Ms[i]'(by rw[h.st.OB,<-h.st.lend];exact Pa)):=by simp
   (refine ρ ((h.st.row i _ b _ hr hi hm).dict) λ_ e _=>?_);exact⟨_,e⟩
def Gc.RZ {k:CK}{A:CA}{M:CM}(h:Gc k H A Z M)(e:H b=none):b∉A.fix:=λz=>by
 obtain⟨o,q⟩:=h.there b z;rw[e] at q;cases q
abbrev CM.wr (M:CM)(ls:List (List Nat)):CM:={ M with ls:=ls }
abbrev BJ (k:CK):Sp:=λvs H Q _=>∃(A:CA) (Z:List Ε) (M:CM) (t ev u:Ε),vs=[.ref A.c,.ref t]/\Gc k H A Z M/\H t=some (.tup [.ref ev,.ref u])/\
 ((H ev=some (.lst [])/\Q (.ref u) H)\/∃D,H ev=some (.lst [.ref D])/\M.ls.length<=4000/\ev∉A.fix/\D∉A.fix/\M.S.sz<=100000/\
  ((∃n kk,H D=some (.dK (Oz "hail" (Pp n kk)))/\Vj "hail" (Pp n kk)/\M.S.L (S n)=none/\∀H' ls,ϳ A.fix H H'->Gc k H' A Z ((M.wr ls).Le (S n))->ls.length=M.ls.length+1->Q (.ref u) H')\/
   (∃n kk i pl key wo m,H D=some (.dK (Oz "put" (OA n kk 0 i pl key wo)))/\Vj "put" (OA n kk 0 i pl key wo)/\M.Ms[i]?=some m/\m.last<=10000/\(M.S.L (S n)).isSome=true/\(kk:Int)=M.S.T (S n)+1/\
    ∀H' ls,ϳ A.fix H H'->Gc k H' A Z ((M.wr ls).put i m (key,wo,0) (S n) kk)->ls.length=M.ls.length+1->Q (.ref u) H')))
abbrev yB (k:CK):Sp:=λvs H Q _=>∃(A:CA) (Z:List Ε) (M:CM) (n:List Nat) (kk:Nat),vs=[.ref A.c,.str (S n)]/\Gc k H A Z M/\Jy n/\(kk:Int)=(M.S.L (S n)).getD 0+1/\kk < 10 ^ 9/\M.ls.length<=4000/\M.S.sz<=100000/\M.S.L (S n)=none/\
 ∀u H' ls,ϳ A.fix H H'->Gc k H' A Z ((M.wr ls).Le (S n))->ls.length=M.ls.length+1->H' u=some (.tup [.int (kk:Int),.int (if (M.S.L (S n)).isSome=true then M.S.T (S n) else 0)])->Q (.ref u) H'
structure UC (k:CK)(H:Hp)(A:CA)(Z:List Ε)(M:CM)(n LS key:List Nat)(wo:Option (List Nat))(life num:Nat)(dd j:Nat)(x:Jn):Prop where
 ce:Gc k H A Z M
 nm:Jy n
 sh:Jy LS
 ky:keyOk key
 wd:Lf wo
 wl:∀w,wo=some w->w.length<=200
 lf:1<=life/\life<=1000000000
 nu:1<=num/\num<=1000000000
 dd:dd<=1000000000
 pos:M.xs[j]?=some x
 xn:x.name=LS
abbrev BK (k:CK):Sp:=λvs H Q _=>∃(A:CA) (Z:List Ε) (M:CM) (n LS key:List Nat) (wo:Option (List Nat)) (life num dd j:Nat) (x:Jn),vs=[.ref A.c,.str (S n),.int (life:Int),.int (num:Int),.str (S LS),.str (S key),wV wo,.int (dd:Int)]/\UC k H A Z M n LS key wo life num dd j x/\
 M.S.L (S n)=some (life:Int)/\dd=0/\(
   (∃(i:Nat) (y:Spot),(num:Int)=M.S.T (S n)+1 - (M.S.P (S n)).length+i/\(M.S.P (S n))[i]?=some y/\∀u H',Χ H H'->H' u=some (.tup (QD y))->Q (.ref u) H')\/
   ((num:Int)=M.S.T (S n)+1/\∃(i pl:Nat) (m:Iz),(i:Int)=Mh M.xs j x key/\M.Ms[i]?=some m/\m.last=(pl:Int)/\pl<=10000/\M.ls.length<=4000/\M.S.sz<=100000/\
    ∀u H' ls,ϳ A.fix H H'->Gc k H' A Z ((M.wr ls).put i m (key,wo,0) (S n) num)->ls.length=M.ls.length+1->H' u=some (.tup [.int (i:Int),.int (pl:Int)])->Q (.ref u) H'))
abbrev GV (k:CK):Sp:=λvs H Q _=>∃(A:CA) (Z:List Ε) (M:CM) (r start most:Nat) (m:Iz),vs=[.ref A.c,.int (r:Int),.int (start:Int),.int (most:Int),.bl true]/\Gc k H A Z M/\M.Ms[r]?=some m/\m.last<=100000/\m.first<=(start:Int)/\start<=1000000000/\1<=most/\most<=1000/\
 ∀D H',H D=none->Χ H H'->Jd H' D ((m.Qz start m.last most).map m.Vf)->Q (.ref D) H'
abbrev Ec (k:CK):Sp:=λvs H Q _=>∃(A:CA) (Z:List Ε) (M:CM),vs=[.ref A.c]/\Gc k H A Z M/\∀p H',H p=none->Χ H H'->H' p=some (.lst (tx M.ls))->Q (.ref p) H'
abbrev yC (k:CK):Sp:=λvs H Q _=>∃(x dx p:Ε) (xs:List Jn),vs=[.ref x,.ref p]/\H x=some (.ins k.C dx [])/\Jd H p (xs.map Jn.v)/\JK xs/\xs.length<=3/\
 ∀A Z H' ls,A.c=x->(∀b∈A.fix,b=x\/H b=none)->ϳ [x] H H'->Gc k H' A Z ⟨xs,ϥ (Ϝ xs xs.length) NE,OG,ls⟩->ls.length=1->Q .cr H'
def Gc.ai3 {k:CK}{A:CA}{M:CM}(h:Gc k H A Z M)(h0:∀z,M.S.L z=none)(Z':List Ε)(hz:∀b∈Z',∃o,H b=some o):Gc k H A (Z'++Z) M:=
 let s:=h.st
 ⟨h.SX,h.book,⟨s.Tz,s.Xg,s.Xh,s.Ri,s.row,s.len,s.lend,s.OB,⟨s.snd.obj,s.snd.Kk,s.snd.YE,by
  (refine ϭ s.snd.Zh λkv e1 e2 _=>?_)
  exact(ύ kv e1 e2 (λz hz=>by rw[h0 z] at hz;cases hz)),s.snd.len,s.snd.rl,s.snd.rt,s.snd.rp,s.snd.lt,s.snd.lp,s.snd.tp⟩,s.Wr,s.Zi,s.grp,
  ⟨ι _ s.Z3.1,ι _ s.Z3.2.1,ι _ s.Z3.2.2.1,ι _ s.Z3.2.2.2⟩,λb hb=>(ϑ.mp hb).elim (hz b) (s.zo b),s.nd⟩⟩
section
variable {P:Ϗ} {K:Ξ} {base:ϟ}
def Qc.Rw {st:ϙ}{items:List Η}{N ps:List Str}{k:Nat}(F:Qc K x qual st f fd items)(S:η N ps (Λ st))(len:∀vs H Q E,sp vs H Q E->vs.length=ps.length)
  (MX:∀(Ϲ:Η) (A:K') (outer:List Env) (s:Ι) (H:Hp) (vs:List V) (Q:VK) (E:XK),Jf k (A.deeper (envOfC qual (Λ st) s.heap.objs.size f Ϲ))->sp vs H Q E->
   ∃t,Rt (NW (Oy P w) P w K mg base N qual (Λ st) f Ϲ A outer s H E) (Da st) t/\t { nx:=λ_ H'=>Q .cr H',rt:=Q } (start N vs) H):Ϥ P w K mg base (Oy P w) (k+1) f fd ps sp:=by
 (refine P8 F.ex λoc od kV doc pm an=>ME λϹ ct SR tD o n Τ=>JT λlk SU _=>?_;subst Τ);exact zD lk SU S len λA outer s H vs Q E hr Rb=>MX Ϲ A outer s H vs Q E hr Rb
end
def wJ (A:CA)(x bk bl:Ε):(x::([bk,bl]++(A.new++[A.st]))).Perm ({ A with c:=x,bk:=bk,bl:=bl }:CA).fix:=jA λa=>by
 unfold CA.new CA.fix;simp only[Kw,Lr,LY,ii,IG,acS,acT]
 ac_rfl
def ϳ.past {A:List Ε}(c:ϳ A H H1)(d:ϳ [b] H1 H2)(h:H b=none):ϳ A H H2:=
 ⟨λx o e n=>d.keep x o (c.keep x o e n) (by simp;exact λz=>by rw[z,h] at e;cases e),λx xs e=>d.tup x xs (c.tup x xs e)⟩
def keyOk.RP {l:List Nat}(h:keyOk l):L2.RP l:=λc hc=>by have:=h.len.2 c hc;omega
abbrev ach (lo d:Int)(n:Nat):It:=⟨λi _=>i < n,λi H x H'=>H'=H/\x=.int (lo+i * d),λi _=>n<=i⟩
def wK {P:Ϗ}{K:Ξ}(it:Ε)(lo d:Int)(n:Nat):Turn P w K tg (ach lo d n) [it] it (λi h=>Uh h it (lo+(i:Nat) * d) ((n:Int) - (i:Nat)) d) where
 mem:=by simp
 obj:=λi h st b hb=>by
  obtain rfl:b=it:=by simpa using hb
  exact(Κ _ st (λv z=>by
   have z':acJ _=afN v:=z
   cases z'))
 keep:=λi h h' st k=>k it (by simp) _ st
 item:=by
  intro X hP hw hK hc i pins s σ H E I hf st hg;subst hP hw hK;(refine Q9 (hf it (by simp)) λf0 f1 f2 f3 f4 f5=>?_);refine(aa8 (prog:=X.prog) (w:=X.w) (I.ok.hd hc) it lo d n).item i s _ _ hg st λv h' tk hv UR kk=>?_;obtain⟨t,rfl⟩:=hv;exact(Κ _ rfl (vx (s:={ s with heap:=h',toks:=tk }) (n:="range_iterator") UR rfl rfl (by decide) (Kz (.int (lo+i * d)) H (I.turned (λb o hb e=>kk b o (by simpa using hb) e) f0 f1 f3 f4 f5) ⟨t,rfl⟩ ⟨rfl,rfl⟩ UR (λb hb=>(hf b hb).1))))
 done:=by
  intro X hP hw hK hc i pins s σ H E I hf st hg;subst hP hw hK;(refine Q9 (hf it (by simp)) λf0 f1 f2 f3 f4 f5=>?_);exact Xp (I.ok.hd hc) st (by have:n<=i:=hg;omega) λh' eb=>⟨rfl,I.turned (t':=s.toks) (λb o hb e=>eb b o hb e) f0 f1 f3 f4 f5⟩
 self:=λ_ _ _ _ _ st h=>Xq st h
abbrev Ws (lo hi d:Int):Nat:=(ac lo hi d).toNat
abbrev afa (ta:TA):TI:=λσ H R=>ta σ H λvs H1=>∃i j d:Int,vs=[.int i,.int j,.int d]/\(0<=i/\i<=j/\j < 2 ^ 40/\1<=d/\d < 2 ^ 20)/\R (ach i d (Ws i j d)) H1
section
variable {X:Cx} 
def zX {i j d:Int}(h:0<=i/\i<=j/\j < 2 ^ 40/\1<=d/\d < 2 ^ 20):0<=ac i j d/\ac i j d<=j - i:=by
 unfold ac;rw[δ (by omega)]
 split
 ·have h1:=Int.ediv_le_self d (show 0<=j - i - 1 by omega)
  have h2:=Int.ediv_nonneg (show 0<=j - i - 1 by omega) (show 0<=d by omega);generalize (j - i - 1) / d=q at h1 h2 ⊢;omega
 ·omega
def E8 {i j d:Int}(h:0<=i/\i<=j/\j < 2 ^ 40/\1<=d/\d < 2 ^ 20):RF i j d=true:=by
 have b:=zX h;unfold RF acU;rw[δ (by omega)];generalize ac i j d=q at b ⊢;simp only[Ϣ,Y',wn];refine⟨⟨⟨⟨?_,?_⟩,?_⟩,?_⟩,.inr ?_⟩<;>omega
def BL {a b c:bv}{ta:TA}(hg:Gl X "range")(hm:X.mg "range"=none)(ha:PA X [a,b,c] ta)(hs:autoParam (starEach [a,b,c] X.env=[(false,eval a X.env),(false,eval b X.env),(false,eval c X.env)]) L2.Ϩ._auto_1)
  (U4:autoParam (starEach [b,c] X.env=[(false,eval b X.env),(false,eval c X.env)]) L2.Ϩ._auto_1):PI X tg (.Call (.Name "range" p) [a,b,c] [] pos) (afa ta):=by
 intro pins s σ H R I h;refine WZ (cZ I hg hm VO (ϯ (Ow (ha pos pins s σ H _ I h) λus s1 vs H1 I1 r1 q1=>?_) (by rw[hs,U4]) (by rw[U4];rfl)));(revert q1;refine Kx λi j d e hb q=>?_);subst e;cases r1 with
 | cons r rr=>
  cases rr with
  | cons r' rr=>
   cases rr with
   | cons r'' rr=>
    cases rr;obtain⟨t,rfl⟩:=r;obtain⟨t',rfl⟩:=r';obtain⟨t'',rfl⟩:=r'';have bd:=zX hb;refine PySem.call_range_3 (by omega) ?_ (ς (Ti (by omega)));refine aak (UK ..) (E8 hb) ?_;have I2:Inv X pins σ H1 { s1 with heap:=s1.heap.push { cls:=.type "range",data:=.fields #[.int i t,.int j t',.int d t''] },toks:=s1.toks }:=I1.kept λb o e=>Δ _ e;refine(Ov _ ([_]) _ _ H1 rfl (I2.kept (t':=s1.toks) λb o e=>Δ _ e) (wK _ i d (Ws i j d)) ?_ (λb hb=>?_) q)
    ·have e1:i+((0:Nat):Int) * d=i:=by simp
     have e2:((Ws i j d:Nat):Int) - ((0:Nat):Int)=ac i j d:=by unfold Ws;omega
     show Uh _ _ (i+((0:Nat):Int) * d) (((Ws i j d:Nat):Int) - ((0:Nat):Int)) d;rw[e1,e2];exact θ _ rfl
    ·obtain rfl:=Μ.mp hb
     exact I2.P' (Φ _) (I2.At.fresh (Φ _))
end
abbrev DK (k:CK)(CN:Ε):Sp:=λvs H Q E=>∃(A:CA) (Z:List Ε) (M:CM) (r:Nat),vs=[.ref A.st,.int (r:Int)]/\J4 k H A Z M/\((r < A.rs.length/\Q .cr H)\/(A.rs.length<=r/\XB E H CN [("name",.int (r:Int))]))
abbrev BM (k:CK)(CN:Ε):Sp:=λvs H Q E=>∃(A:CA) (Z:List Ε) (M:CM) (r:Nat),vs=[.ref A.st,.int (r:Int)]/\J4 k H A Z M/\((r < A.rs.length/\∀H',Χ H H'->Q .cr H')\/(A.rs.length<=r/\r<=1000000000/\XB E H CN [("name",.int (r:Int))]))
abbrev RdQ (k:CK)(H:Hp)(Q:VK)(A:CA)(M:CM)(r start most:Nat):Prop:=
 (∃m,M.Ms[r]?=some m/\m.last<=100000/\m.first<=(start:Int)/\∀D H',H D=none->Χ H H'->Jd H' D ((m.Qz start m.last most).map m.Vf)->Q (.ref D) H')
abbrev DL (k:CK):Sp:=λvs H Q _=>∃(A:CA) (Z:List Ε) (M:CM) (r start most:Nat),vs=[.ref A.st,.int (r:Int),.int (start:Int),.int (most:Int),.bl true]/\J4 k H A Z M/\start<=1000000000/\1<=most/\most<=1000/\RdQ k H Q A M r start most
abbrev BN (k:CK):Sp:=λvs H Q _=>∃(A:CA) (Z:List Ε) (M:CM) (r start most:Nat),vs=[.ref A.c,.int (r:Int),.int (start:Int),.int (most:Int),.bl true]/\Gc k H A Z M/\start<=1000000000/\1<=most/\most<=1000/\RdQ k H Q A M r start most
structure aaU (n LS key:List Nat)(wo:Option (List Nat))(num:Nat):Prop where
 nm:Jy n
 sh:Jy LS
 ky:keyOk key
 wd:Lf wo
 wl:∀w,wo=some w->w.length<=200
 nu:1<=num/\num<=1000000000
abbrev Hj (k:CK)(CN:Ε):Sp:=λvs H Q E=>∃(A:CA) (Z:List Ε) (M:CM) (n LS key:List Nat) (wo:Option (List Nat)) (num:Nat) (lt:Ε),vs=[.ref A.st,.str (S n),.int 1,.int (num:Int),.str (S LS),.ref lt,.int 0]/\H lt=some (.tup [.str (S key),wV wo])/\J4 k H A Z M/\aaU n LS key wo num/\
 ((M.S.L (S n)=none/\XB E H CN [("name",.str (S n))])\/((M.S.L (S n)).isSome=true/\(∀x∈M.xs,x.name≠LS)/\XB E H CN [("name",.str (S LS))])\/
  (M.S.L (S n)=some 1/\(num:Int)=M.S.T (S n)+1/\∃(j:Nat) (x:Jn) (i pl:Nat) (m:Iz),M.xs[j]?=some x/\x.name=LS/\(i:Int)=Mh M.xs j x key/\M.Ms[i]?=some m/\m.last=(pl:Int)/\pl < 10 ^ 9/\
    ∀t ev u D H',Χ H H'->H ev=none->H D=none->H' t=some (.tup [.ref ev,.ref u])->H' ev=some (.lst [.ref D])->H' D=some (.dK (Oz "put" (OA n num 0 i pl key wo)))->H' u=some (.tup [.int (i:Int),.int (pl:Int)])->Q (.ref t) H'))
abbrev HL (k:CK)(CN:Ε):Sp:=λvs H Q E=>∃(A:CA) (Z:List Ε) (M:CM) (n LS key:List Nat) (wo:Option (List Nat)) (num:Nat),vs=[.ref A.c,.str (S n),.int 1,.int (num:Int),.str (S LS),.str (S key),wV wo,.int 0]/\Gc k H A Z M/\aaU n LS key wo num/\
 ((M.S.L (S n)=none/\XB E H CN [("name",.str (S n))])\/((M.S.L (S n)).isSome=true/\(∀x∈M.xs,x.name≠LS)/\XB E H CN [("name",.str (S LS))])\/
  (M.S.L (S n)=some 1/\(num:Int)=M.S.T (S n)+1/\∃(j:Nat) (x:Jn) (i pl:Nat) (m:Iz),M.xs[j]?=some x/\x.name=LS/\(i:Int)=Mh M.xs j x key/\M.Ms[i]?=some m/\m.last=(pl:Int)/\pl<=10000/\M.ls.length<=4000/\M.S.sz<=100000/\
    ∀u H' ls,ϳ A.fix H H'->Gc k H' A Z ((M.wr ls).put i m (key,wo,0) (S n) num)->ls.length=M.ls.length+1->H' u=some (.tup [.int (i:Int),.int (pl:Int)])->Q (.ref u) H'))
noncomputable abbrev KO:=List Nat×Option (List Nat)
abbrev YI (x:KO):Prop:=keyOk x.1/\Lf x.2/\∀w,x.2=some w->w.length<=200
abbrev l71 (f:List KO):List (List V):=(io f.length).map λ(i:Nat)=>[.int (i:Int),.str (S (f.getD i ([],none)).1),wV (f.getD i ([],none)).2]
abbrev Ls (f:List KO):Iz:=⟨0,f.length,0,λp=>if 0<=p then(f[p.toNat]?).map λx=>(x.1,x.2,0) else none⟩
def DM:Ls []=NE:=by
 unfold Ls NE;simp
def DN (f:List KO)(x:KO):Ls (f++[x])=(Ls f).add (x.1,x.2,0):=by
 unfold Ls Iz.add;simp only[Ω,jp];congr 1
 ·funext q
  by_cases h0:0<=q
  ·rw[δ h0,δ h0]
   by_cases h1:q=(f.length:Int)
   ·rw[δ h1,Db (by omega),show q.toNat - f.length=0 by omega]
    rfl
   ·rw[Υ h1]
    by_cases h2:q.toNat < f.length
    ·rw[wf h2]
    ·rw[NS (by simp;omega),NS (by omega)]
  ·rw[Υ h0,Υ h0,Υ (by omega)]
def zY (f:List KO):(l71 f).length=f.length:=by unfold l71;simp
def acj (f:List KO)(st most:Nat):((Ls f).Qz st (Ls f).last most).map (Ls f).Vf=((l71 f).drop st).take most:=by
 have hs:∀n,st+n<=f.length->(Ls f).Iq (st:Int) n=(io n).map λ(i:Nat)=>((st+i:Nat):Int):=by
  intro n hn;unfold Iz.Iq
  rw[show((io n).map λ(i:Nat)=>((st+i:Nat):Int))=(io n).map λ(i:Nat)=>(st:Int)+i by
   refine im λi _=>?_
   omega]
  rw[List.filter_eq_self];intro p hp;(refine ρ (τ.mp hp) λi hi Τ=>?_;subst Τ);have:=LU.mp hi;show(if 0<=(st:Int)+i then(f[((st:Int)+i).toNat]?).map _ else none).isSome=true;rw[δ (by omega),ξ (by omega)];rfl
 unfold Iz.Qz;have e1:max (st:Int) (Ls f).first=(st:Int):=by show max (st:Int) 0=_;omega
 have e2:(min (Ls f).last (Ls f).last - (st:Int)).toNat=f.length - st:=by show(min (f.length:Int) (f.length:Int) - (st:Int)).toNat=_;omega
 rw[e1,e2,ϵ,aas];congr 1
 by_cases Nk:st<=f.length
 ·rw[hs _ (by omega),χ]
  unfold l71;refine KW (by simp) λi h1 h2=>?_;have hi:i < f.length - st:=by simpa using h1
  simp only[KZ,W6,On,List.getElem_drop];have hf:f[st+i]?=some f[st+i]:=ξ (by omega);simp only[Iz.Vf,Ls];rw[δ (by omega),ϵ,hf];simp only[J7,υ,hf,W1]
 ·rw[show f.length - st=0 by omega]
  have:(l71 f).drop st=[]:=List.drop_eq_nil_of_le (by rw[zY];omega);rw[this];simp[Iz.Iq]
structure KM (H H':Hp)(D:Ε)(ys:List V)(i:Nat)(rl:List Ε):Prop where
 eq:ys=rl.map V.ref
 lr:rl.length=i
 emp:∀r∈rl,H' r=some (.lst [])
 lst:H' D=some (.lst ys)
 same:Χ H H'
 fr:Fr H H' (D::rl)
def KM.zero {D:Ε}(hD:H D=none):KM H (upd H D (.lst [])) D [] 0 []:=
 ⟨rfl,rfl,λr h=>(nomatch h),ae,Χ.upd hD,Fr.add Fr.nil (M9.refl _) hD (Χ.upd hD).Kk ⟨_,ae⟩⟩
def KM.succ {D:Ε}{rl:List Ε}(h:KM H H' D ys i rl)(hr:H' r=none) :
  upd H' r (.lst []) D=some (.lst ys)/\KM H (upd (upd H' r (.lst [])) D (.lst (ys++[.ref r]))) D (ys++[.ref r]) (i+1) (rl++[r]):=by
 have hD0:=h.fr.no D (by simp);have n1:D≠r:=λz=>by rw[<-z,h.lst] at hr;cases hr
 have s5:=Χ.upd (o:=.lst []) hr;have nd:=h.fr.nd;rw[Ϯ] at nd;refine⟨(aj n1).trans h.lst,by rw[h.eq];simp,by simp[h.lr],λb hb=>?_,ae,Χ.wr (h.same.trans s5) hD0,?_⟩
 ·have nb:b≠D:=λz=>by
   subst z;rcases ϑ.mp hb with q | q
   ·exact nd.1 q
   ·exact n1 (Μ.mp q)
  rw[aj nb];rcases ϑ.mp hb with q | q
  ·exact s5 _ _ (h.emp b q)
  ·rw[Μ.mp q];exact ae
 ·refine((h.fr.add h.same.Kk hr s5.Kk ⟨_,ae⟩).Kk M9.wr).perm (jA λa=>?_)
  simp only[Kw,Lr,LY];omega
abbrev afb:List V->Hp->VK->Prop:=λxs H Q=>∃n:Nat,n < 10 ^ 10/\xs=[.str (S (ϝ (n:Int)))]/\Q (.int (n:Int)) H
section
variable {X:Cx}
def tG {K:Ξ}:IP X (.type "int") afb:=by
 intro pins s σ H xs us Q I r h;(revert h;refine G' λn hn Τ q=>?_;subst Τ);(refine ρ (vals1 r) λu Τ=>Nc λt IK=>?_;subst Τ;subst IK);have e:(toString (n:Int):Str)=S (ϝ (n:Int)):=xY _;rw[<-e];exact W.KIN.call_num (Xr n) (by omega) (ϒ (.int (n:Int)) H (I.tok _) ⟨_,rfl⟩ q)
abbrev afc (F:List (Str×V))(te:TE):TT:=λσ H Q=>te σ H λy H1=>∃kv∈F,y=.str kv.1/\Q false H1
abbrev YJ (mg:Str->Option Η)(x:Str):Prop:=∃p:Ε,mg x=some (.ref p)/\(p == sysModules)=false
def nS {mg:Str->Option Η}{p:Ε}(g:mg x=some (.ref p))(h:(p == sysModules)=false):YJ mg x:=⟨p,g,h⟩
def E9 {K:Ξ}(c:Xd w K X.mg x F)(n:YJ X.mg x)(he:PE X e te)(hm':autoParam (behindInMarks .NotIn (.Name x p)=false) L2.Ϩ._auto_1)(hg:autoParam (Gl X x) L2.Ϩ._auto_1)(hw:autoParam (X.w=w) L2.Ϩ._auto_1)(hK:autoParam (X.K=K) L2.Ϩ._auto_1)(hd:autoParam ((x == ("__debug__":Str))=false) L2.Kh._auto_1) :
  PT X (.Compare e [.NotIn] [.Name x p] pos) (afc F te):=by
 subst hw;subst hK;intro pins s σ H Q I h;(revert c;refine Q8 λa es ep hm hl hk hf=>?_);(revert n;refine Ϟ λa' hm2 hns=>?_);obtain rfl:a=a':=by rw[hm] at hm2;cases hm2;rfl
 refine Pg (IJ (he pins s σ H _ I h) λv s1 y H1 I1 r1 q1=>IJ (pJ (v:=.ref a) hg hm rfl hd pins s1 σ H1 (λz H2=>z=.ref a/\H2=H1) I1 ⟨rfl,rfl⟩) λu s2 z H2 I2 r2 q2=>?_) hm';obtain⟨rfl,rfl⟩:=q2;(revert q1;refine G' λkv hkv Τ q=>?_;subst Τ);cases (show u=π a from r2);(refine ρ (hf kv hkv) λw' hw Tu=>?_);have ho:=I2.LZ _ _ hl;have hT:s2.TypeIs (.ref a) "dict":=(Κ _ ho rfl)
 have hM:s2.heap.MapOf (A' X.prog X.w) a (findBy OE es):=(IN _ es ep ho ⟨rfl,rfl,rfl⟩ rfl (λe he=>by
  (refine RJ (hk.mem e (by simpa using he)) λx t e1 e2=>?_)
  exact(Κ (.inr x) (by rw[e1];exact ji _ _ x t) e2)) (λk=>rfl))
 refine afS (knd:=A' X.prog X.w) (k:=.inr kv.1) (kH (k:=.inr kv.1) r1) hns hM ?_;rw[show(findBy OE es (.inr kv.1))=some w' from hw];exact wS (Κ H2 (I2.tok _) q)
end
def my (h:H b=none):del H a b=none:=by
 unfold del
 split
 ·rfl
 ·exact h
def Inv.drop {X:Cx}{s:Ι}{φ:ϟ->Prop}(I:Inv X pins σ H s)(he:H ea=some (.ext φ)):Inv X pins σ (del H ea) s:=by
 have k:∀{c:Ε} {o:HO},H c=some o->(∀ψ,o≠.ext ψ)->del H ea c=some o:=λ{c o} r n=>by
  have z:c≠ea:=by
   rintro rfl
   exact n φ (ϗ (r.symm.trans he))
  rw[dG z];exact r
 have B:=I.base;refine⟨I.ok,I.os,I.bare,⟨B.keep,B.slot,λb o e n hx=>my (B.free b o e n hx),B.there,λb xs e=>k (B.Nh b xs e) (λ_ z=>nomatch z),λb o u e=>k (B.MV b o u e) (λ_ z=>nomatch z),λb ps e=>?_⟩,I.loc,I.cell,my I.free,λx c e=>my (I.Lk x c e),λp hp=>?_,λb u q=>?_,I.len⟩
 ·obtain⟨m,e'⟩:=B.Ni b ps e
  exact⟨m,k e' (λ_ z=>nomatch z)⟩
 ·(refine IT (I.pin p hp) λp1 p2 p3=>?_)
  exact⟨p1,my p2,p3⟩
 ·have nb:b≠ea:=λz=>by rw[z,qo] at q;cases q
  rw[dG nb] at q;exact(I.At b u q).Ng (λc v _ r=>r) (λc r=>k r (λ_ z=>nomatch z)) λc xs r=>k r (λ_ z=>nomatch z)
abbrev ack (ea:Ε)(sp:Sp)(dvs:List V)(t:TA):TE:=λσ H Q=>t σ H λvs H1=>(∃C dx,H1 ea=some (xh ea C dx))/\sp (vs++dvs) (del H1 ea) Q E0
def DO {X:Cx}{k:Nat}{ps:List Str}(F:Zg X.prog X.w X.K X.mg X.base k f fd ps sp)(hr:Jf k X.A)(hg:Gl X x)(hm:X.mg x=some (.ref f))(hk:Jg X.K (.ref f)=true)(hb:Binds X.K fd ps ds)(hd:Vals dvs ds)
  (ha:PA (X.Wn ea).Kf (e::es) t) (S8:autoParam ((x == ("__debug__":Str))=false) L2.Kh._auto_1) (he:autoParam (starEach (e::es) X.env=(false,eval e X.env)::starEach es X.env) L2.Ϩ._auto_1) (NV:autoParam ((backTo pos (starEach es X.env)).any (·.1)=false) L2.Ϩ._auto_1) :
  PE (X.Wn ea).Kf (.Call (.Name x p) (e::es) [] pos) (ack ea sp dvs t):=by
 intro pins s σ H Q I h;refine Ϸ (dU I hg hm ?_ S8);refine Jz (h₀:=X.base) I.ok.mod.WC hk (Ow (ha pos pins s σ H _ I h) λus s1 vs H1 I1 r q=>⟨I1.LZ,?_⟩) he NV;obtain⟨⟨C,dx,ZX⟩,q⟩:=q;(refine Zy (Ds I1.At ZX) λo ws ge _ _ gf z2=>?_);exact zS (Y:=(X.Wn ea).Kf) (B:=X.A) (m:=some (.ref ea)) F hr rfl (.inr (IN ea o ws rfl ge qo (λz=>(by have:=I1.Rs ea z;rw[ZX] at this;cases this)) ⟨(λz=>nomatch z),gf,z2⟩)) hb hd (I1.drop ZX) r q
abbrev ai4 (ta:TE)(tb:TX):TX:=λE σ H=>ta σ H λ_ H1=>tb E σ H1
section
variable {X:Cx} {a b:bv} {tx:TX} {op:Y2}
def GW (he:PEx X e tx):PSx X (.Return (some e) pos) tx:=by
 intro pins s σ H E I h;exact SI (J2 (he pins s σ H E I h) λ_ _ z=>z.elim)
def GX (ha:PE X.Kf a ta)(hb:PEx X b tx):PEx X (.BinOp a op b pos) (ai4 ta tx):=by
 intro pins s σ H E I h;refine auu (thx (ha pins s σ H _ (I.Nj _) h) λu s1 ⟨x,H1,I1,_,q⟩=>?_);exact J2 (hb pins s1 σ H1 E I1.Iy q) λ_ _ z=>z.elim
def DP (hg:Gl X x)(hm:X.mg x=some (.ref f))(hk:Jg X.K (.ref f)=true)(he:PEx X e tx)
  (S8:autoParam ((x == ("__debug__":Str))=false) L2.Kh._auto_1) (hs:autoParam (starEach [e] X.env=(false,eval e X.env)::starEach [] X.env) L2.Ϩ._auto_1) (NV:autoParam ((backTo pos (starEach ([]:List bv) X.env)).any (·.1)=false) L2.Ϩ._auto_1) :
  PEx X (.Call (.Name x p) [e] [] pos) tx:=by
 intro pins s σ H E I h;refine Ϸ (dU I hg hm ?_ S8);refine Jz (h₀:=X.base) I.ok.mod.WC hk ?_ hs NV;rw[hs];show wpAny _ _ (spliced ((false,eval e X.env)::backTo pos (starEach [] X.env))) _ _ s;exact ci (J2 (he pins s σ H E I h) λ_ _ z=>z.elim)
end
abbrev yD (k:CK)(CN:Ε):Sp:=λvs H Q E=>∃(A:CA) (Z:List Ε) (M:CM) (r:Nat),vs=[.ref A.c,.int (r:Int)]/\Gc k H A Z M/\((∃m,M.Ms[r]?=some m/\∀H',Χ H H'->Q (.int m.last) H')\/(A.rs.length<=r/\r<=1000000000/\XB E H CN [("name",.int (r:Int))]))
def wL {K:Ξ}{fm:List Nat}(hl:GT K H b ys)(hn:fm.length=ys.length)(hz:ys.length<=1000)(vs:List V)(hv:vs.length=ys.length)
  (hg:∀t (c:Nat) y H' (o:St) (R:St->Hp->Prop),H' t=some (.tup [.str (S [c]),y])->o.length=2->R (some (.str (S [c]))::some y::σ) H'->g (.ref t) (o++σ) H' R)
  (he:∀(i:Nat) c y v H',fm[i]?=some c->ys[i]?=some y->vs[i]?=some v->Χ H H'->∀Qe:VK,(∀Kj,Χ H' Kj->Qe v Kj)->te (some (.str (S [c]))::some y::σ) H' Qe)
  (hd:∀D H',H D=none->Χ H H'->H' D=some (.lst vs)->Q (.ref D) H'):Wp (ab0 K (S fm) b) 2 g ND te σ H Q:=by
 intro D hD;have hsq:∀{H2:Hp},Χ H H2->GT K H2 b ys:=λs=>s.seq hl;refine(Κ (λi m zs H2=>m=ys.length - i/\i<=ys.length/\zs=vs.take i/\Χ H H2/\H2 D=some (.lst zs)) (RI _ rfl (Ϛ _) rfl (Χ.upd hD) ae) ?_)
 rintro i m zs H2 ⟨rfl,hi,rfl,sm,Rh⟩
 have sq:=hsq sm
 by_cases KI:i < ys.length
 ·have hsz:(vs.take i).length < sizeLine:=by
   rw[Ϭ];exact Ϡ (show min i vs.length<=1000 by omega) (by decide)
  have hf:(S fm).cps[i]?=some (fm[i]'(by omega)):=by
   show fm.toArray[i]?=_;simp
  refine .inr ⟨(NC ys (fm[i]'(by omega)) (ys[i]) sq hf (by simp)),hsz,?_⟩
  rintro x H3 ⟨T,c,y,rfl,hT,rfl,hc,hy⟩ o ho
  have ZO:=hy _ sq;have SS:fm[i]?=some c:=by
   have:fm.toArray[i]?=some c:=hc;simpa using this
  have s3:Χ H2 (upd H2 T (.tup [.str ⟨#[c]⟩,y])):=Χ.upd hT;have nTD:D≠T:=λz=>by rw[<-z,Rh] at hT;cases hT
  have hvi:vs[i]?=some (vs[i]'(by omega)):=by simp
  refine hg T c y _ o _ ae ho ⟨(Κ ([some (.str (S [c])),some y]) rfl rfl),?_⟩;simp only[ND,↓reduceIte];refine he i c y _ _ SS ZO hvi (sm.trans s3) _ λH5 s5=>⟨s5 _ _ (s3 _ _ Rh),(P7 (ys.length - (i+1)) (by omega) rfl KI ?_ ?_ ae)⟩
  ·rw[bi,hvi];rfl
  ·intro b' o' hb
   rw[aj (aD hb hD)];exact s5 _ _ (s3 _ _ (sm _ _ hb))
 ·have:i=ys.length:=by omega
  subst this;refine .inl ⟨(Κ ys sq ?_),Rh,?_⟩
  ·show fm.toArray.size<=_
   simp;omega
  ·rw[<-hv,sB] at Rh
   exact hd D H2 hD sm Rh
def Χ.ai5 {K:Ξ}(e:Χ H H')(h:JZ K H a xs):JZ K H' a xs:=by
 rcases h with(h | ⟨o,h⟩) | h
 ·exact .inl (.inl (e _ _ h))
 ·exact .inl (.inr ⟨o,e _ _ h⟩)
 ·exact .inr h
def yE {K:Ξ}(hl:JZ K H a xs)(hn:xs.length<=sizeLine)(f:V->V)
  (he:∀x H',x∈xs->Χ H H'->∀Qe:VK,(∀Kj,Χ H' Kj->Qe (f x) Kj)->te (some x::σ) H' Qe)
  (hd:∀D H',H D=none->Χ H H'->H' D=some (.lst (xs.map f))->Q (.ref D) H'):NX (Itt K a) ND te σ H Q:=λD hD=>
 have hs:∀H',Χ H H'->JZ K H' a xs:=λH' s=>s.ai5 hl
 jX (J:=Itt K a) xs.length hn hD (λi=>xs.getD i .cr) (λi=>f (xs.getD i .cr)) (λ_=>true) (λH' s=>(Κ xs (hs H' s) (Φ _)))
  (λi H' s h=>(gl xs (xs[i]) (hs H' s) (by simp)))
  (λi H' x Kj s hi y=>by
   obtain⟨rfl,z⟩:=y;have hz:=z xs (hs _ s);refine⟨rfl,?_⟩;rw[υ,hz]
   rfl)
  (λi H' h s Qt q=>q H' (Χ.refl _))
  (λi H' h hp s Qe q=>he _ H' (by rw[υ,ξ h];exact Jk h) s Qe q)
  (λH' s h=>hd D H' hD s (by
   rw[h];congr 2;rw[cV];refine KW (by simp) λi h1 h2=>?_;simp at h1 h2 ⊢;rw[ξ h2]
   rfl))
abbrev T10:List Nat:=[48,49,50,51,52,53,54,55,56,57]
def GY:Α "0123456789"=S T10:=by decide +kernel
abbrev WU (c:Nat):Bool:=decide (c∈T10)
def Fa {c:Nat}(h1:48<=c)(h2:c<=57):WU c=true:=(by decide:∀c:Fin 58,48<=c.1->WU c.1=true) ⟨c,by omega⟩ h1
def BO (m:Nat)(h:0 < m):(ϝ (m:Int))[0]?≠some 48:=by
 rw[hG]
 induction m using SN with
 | _ m ih=>
  by_cases hm:m < 10
  ·rw[Nr hm]
   show some (abf m).toNat≠_;rw[nN m hm];intro z;have:=ϗ z;omega
  ·rw[Nat.toDigits_of_base_le (by decide) (by omega),ϖ,wf]
   ·exact ih (m / 10) (by omega) (by omega)
   ·rw[Ζ];exact af0 10 (m / 10)
abbrev qM:Sp:=λvs H Q _=>∃o:Option (List Nat),vs=[.str (S (Jq o))]/\(∀w,o=some w->w.length<=1000)/\Q (wV o) H
abbrev wM:Sp:=λvs H Q _=>vs=[.str (Α "yes")]/\Q (.bl true) H
abbrev uQ:Sp:=λvs H Q _=>∃n:Nat,vs=[.str (S (ϝ (n:Int)))]/\n < 10 ^ 10/\∀H',Χ H H'->Q (.int (n:Int)) H'
abbrev Z5 (f:Nat)(t:List Nat)(v:V):Prop:=(f=110/\∃n:Nat,n < 10 ^ 10/\t=ϝ (n:Int)/\v=.int (n:Int))\/(f=119/\∃o:Option (List Nat),(∀w,o=some w->w.length<=1000)/\t=Jq o/\v=wV o)\/(f=121/\S t=Α "yes" /\ v=.bl true)\/(f=116/\v=.str (S t))
abbrev wN:Sp:=λvs H Q _=>∃(f:Nat) (t:List Nat) (v:V),vs=[.str (S [f]),.str (S t)]/\Z5 f t v/\∀H',Χ H H'->Q v H'
abbrev Pc (nm:Str)(many:Nat)(fm:List Nat):Prop:=(nm=Α "cellar" /\ ∃j:Nat,j<=3/\many=3 * j/\fm=(ϥ j [116,110,116]).flatten)\/(nm=Α "hail" /\ fm=[116])\/(nm=Α "put" /\ fm=[116,110,110,116,116,119,110])\/(nm=Α "read" /\ fm=[110,110,110,121])\/(nm=Α "front" /\ fm=[110])
def Pc.ascii {nm:Str}{many:Nat}{fm:List Nat}(h:Pc nm many fm):(fm.toArray.all λx=>decide (x < 128))=true:=by
 rcases h with⟨_,j,h1,_,rfl⟩ | ⟨_,rfl⟩ | ⟨_,rfl⟩ | ⟨_,rfl⟩ | ⟨_,rfl⟩
 ·have:j=0\/j=1\/j=2\/j=3:=by omega
  rcases this with rfl | rfl | rfl | rfl<;>simp[ϥ]
 ·simp
 ·simp
 ·simp
 ·simp
def BP:ϝ ((0:Nat):Int)=[48]:=by decide +kernel
abbrev wO:Sp:=λvs H Q _=>∃(nm:Str) (many:Nat) (fm:List Nat),vs=[.str nm,.int (many:Int)]/\Pc nm many fm/\Q (.str (S fm)) H
abbrev uR (K:Ξ):Sp:=λvs H Q _=>∃(nm:Str) (p:Ε) (ts:List (List Nat)) (fm:List Nat) (us:List V),vs=[.str nm,.ref p]/\GT K H p (tx ts)/\ts.length<=100/\Pc nm ts.length fm/\fm.length=ts.length/\us.length=ts.length/\(∀(i:Nat) c t u,fm[i]?=some c->ts[i]?=some t->us[i]?=some u->Z5 c t u)/\
 ∀D H',H D=none->Χ H H'->H' D=some (.lst us)->Q (.ref D) H'
abbrev yF (K:Ξ):Sp:=λvs H Q _=>∃(p:Ε) (ns:List Nat),vs=[.ref p]/\(GT K H p (ns.map λ(n:Nat)=>V.int (n:Int))\/JZ K H p (ns.map λ(n:Nat)=>V.int (n:Int)))/\ns.length<=100/\(∀n∈ns,n < 10 ^ 12)/\
 ∀D H',H D=none->Χ H H'->H' D=some (.lst (tx (ns.map λ(n:Nat)=>ϝ (n:Int))))->Q (.ref D) H'
def sj {lo d:Int}(hn:n<=sizeLine)(Pv:Ε->Nat->List V->Hp->Prop)(h0:∀D,H D=none->Pv D 0 [] (upd H D (.lst [])))
  (hl:∀D i ys H',i<=n->Pv D i ys H'->H' D=some (.lst ys)/\ys.length<=i)
  (hs:∀D i ys H',H D=none->i < n->Pv D i ys H'->∀Qe:VK,(∀y H5,H5 D=some (.lst ys)->Pv D (i+1) (ys++[y]) (upd H5 D (.lst (ys++[y])))->Qe y H5)->te (some (.int (lo+i * d))::σ) H' Qe)
  (hd:∀D ys H',H D=none->Pv D n ys H'->Q (.ref D) H'):NX (ach lo d n) ND te σ H Q:=by
 intro D hD;refine(Κ (λi m ys H=>m=n - i/\i<=n/\Pv D i ys H) (ύ n rfl (Ϛ _) (h0 D hD)) ?_)
 rintro i m ys H2 ⟨rfl,hi,p⟩
 obtain⟨h1,h2⟩:=hl D i ys H2 hi p
 by_cases KI:i < n
 ·refine .inr ⟨KI,by omega,λx H3 y=>?_⟩
  obtain⟨rfl,rfl⟩:H3=H2/\x=.int (lo+i * d):=y;simp only[ND,Om];exact hs D i ys H3 hD KI p _ λy H5 z1 z2=>⟨z1,(Jw (n - (i+1)) (by omega) rfl KI z2)⟩
 ·have e:i=n:=by omega
  subst e;exact .inl ⟨Φ _,h1,hd D ys H2 hD p⟩
def GZ (j:Nat):Ws 0 ((3 * j:Nat):Int) 3=j:=by
 unfold Ws ac;rw[δ (by omega)]
 by_cases h:(0:Int) < ((3 * j:Nat):Int)
 ·rw[δ h];omega
 ·rw[Υ h];omega
noncomputable abbrev Lt3:=Nat×List Nat×Option (List Nat)
abbrev acl (x:Lt3):List V:=[.int (x.1:Int),.str (S x.2.1),wV x.2.2]
abbrev OC (x:Lt3):List (List Nat):=[ϝ (x.1:Int),x.2.1,Jq x.2.2]
abbrev oZ:Sp:=λvs H Q _=>∃(p:Ε) (ls:List Lt3),vs=[.ref p]/\Jd H p (ls.map acl)/\ls.length<=1000/\(∀x∈ls,x.1 < 10 ^ 12/\∀w,x.2.2=some w->w.length<=1000)/\∀D H',H D=none->Χ H H'->H' D=some (.lst (tx (ls.flatMap OC)))->Q (.ref D) H'
abbrev Nl (xs:List Jn):List V:=xs.flatMap Jn.v
abbrev sk (K:Ξ):Sp:=λvs H Q _=>∃(p:Ε) (xs:List Jn),vs=[.ref p]/\GT K H p (Nl xs)/\xs.length<=3/\∀D H',H D=none->Χ H H'->Jd H' D (xs.map Jn.v)->Q (.ref D) H'
def iK:∀xs:List Jn,(Nl xs).length=3 * xs.length
 | []=>rfl
 | x::r=>by
  show(x.v++Nl r).length=_;rw[Ω,iK r,Ψ];show 3+_=_;omega
def qN:∀{xs:List Jn} {i:Nat} {x:Jn},xs[i]?=some x->(Nl xs)[3 * i]?=some (.str (S x.name))/\(Nl xs)[3 * i+1]?=some (.int x.rows)/\(Nl xs)[3 * i+2]?=some (.str x.kind)
 | [],_,_,h=>by simp at h
 | y::r,0,x,h=>by
  cases h;exact⟨rfl,rfl,rfl⟩
 | y::r,i+1,x,h=>by
  (refine IT (qN (xs:=r) (i:=i) (x:=x) (by simpa using h)) λh1 h2 h3=>?_);refine⟨?_,?_,?_⟩
  ·rw[show 3 * (i+1)=3 * i+1+1+1 by omega];exact h1
  ·rw[show 3 * (i+1)+1=(3 * i+1)+1+1+1 by omega];exact h2
  ·rw[show 3 * (i+1)+2=(3 * i+2)+1+1+1 by omega];exact h3
abbrev jn (ts:List (List Nat)):List Nat:=db [59] (ts.map gd)
abbrev mz (k:CK)(K:Ξ):Sp:=λvs H Q _=>∃(A:CA) (Z:List Ε) (M:CM) (n:List Nat) (p:Ε),vs=[.ref A.c,.ref p]/\GT K H p [.str (S n)]/\Gc k H A Z M/\Jy n/\M.S.L (S n)=none/\M.ls.length<=4000/\M.S.sz<=100000/\
 ∀D H' ls,ϳ A.fix H H'->Gc k H' A Z ((M.wr ls).Le (S n))->ls.length=M.ls.length+1->H' D=some (.lst (tx [[49],[48]]))->Q (.ref D) H'
abbrev oE (k:CK)(K:Ξ):Sp:=λvs H Q _=>∃(A:CA) (Z:List Ε) (M:CM) (n LS key:List Nat) (wo:Option (List Nat)) (num:Nat) (p:Ε) (j:Nat) (x:Jn),vs=[.ref A.c,.ref p]/\GT K H p [.str (S n),.int 1,.int (num:Int),.str (S LS),.str (S key),wV wo,.int 0]/\UC k H A Z M n LS key wo 1 num 0 j x/\M.S.L (S n)=some 1/\
 ((∃(i r pl:Nat),(num:Int)=M.S.T (S n)+1 - (M.S.P (S n)).length+i/\(M.S.P (S n))[i]?=some ((r:Int),(pl:Int))/\r < 10 ^ 12/\pl < 10 ^ 12/\∀D H',Χ H H'->H' D=some (.lst (tx [ϝ (r:Int),ϝ (pl:Int)]))->Q (.ref D) H')\/
  ((num:Int)=M.S.T (S n)+1/\∃(i pl:Nat) (m:Iz),(i:Int)=Mh M.xs j x key/\M.Ms[i]?=some m/\m.last=(pl:Int)/\pl<=10000/\i < 10 ^ 12/\M.ls.length<=4000/\M.S.sz<=100000/\
   ∀D H' ls,ϳ A.fix H H'->Gc k H' A Z ((M.wr ls).put i m (key,wo,0) (S n) num)->ls.length=M.ls.length+1->H' D=some (.lst (tx [ϝ (i:Int),ϝ (pl:Int)]))->Q (.ref D) H'))
abbrev MK (f:List KO):List Lt3:=(io f.length).map λi=>(i,(f.getD i ([],none)).1,(f.getD i ([],none)).2)
abbrev mB (k:CK)(K:Ξ):Sp:=λvs H Q _=>∃(A:CA) (Z:List Ε) (M:CM) (r:Nat) (p:Ε) (f:List KO),vs=[.ref A.c,.ref p]/\GT K H p [.int (r:Int),.int 0,.int 1000,.bl true]/\Gc k H A Z M/\M.Ms[r]?=some (Ls f)/\f.length<=100/\(∀x∈f,YI x)/\
 ∀D H',H D=none->Χ H H'->H' D=some (.lst (tx ((MK f).flatMap OC)))->Q (.ref D) H'
abbrev kJ (k:CK)(K:Ξ)(CN:Ε):Sp:=λvs H Q E=>∃(A:CA) (Z:List Ε) (M:CM) (r:Nat) (p:Ε),vs=[.ref A.c,.ref p]/\GT K H p [.int (r:Int)]/\Gc k H A Z M/\
 ((∃(m:Iz) (n:Nat),M.Ms[r]?=some m/\m.last=(n:Int)/\n < 10 ^ 12/\∀D H',Χ H H'->H' D=some (.lst (tx [ϝ (n:Int)]))->Q (.ref D) H')\/(A.rs.length<=r/\r<=1000000000/\XB E H CN [("name",.int (r:Int))]))
def Fb:([1,0]:List Nat).map (λ(n:Nat)=>ϝ (n:Int))=[[49],[48]]:=by decide +kernel
def d8 (f:List KO):(MK f).length=f.length:=by unfold MK;simp
def G0 (f:List KO):l71 f=(MK f).map acl:=by unfold l71 MK;rw[χ];rfl
def Fc {f:List KO}(h:∀x∈f,YI x)(hl:f.length<=1000):∀x∈MK f,x.1 < 10 ^ 12/\∀w,x.2.2=some w->w.length<=1000:=λx hx=>by
 unfold MK at hx;(refine ρ (τ.mp hx) λi hi Τ=>?_;subst Τ);have hi':=LU.mp hi;refine⟨by show i < _;omega,λw hw=>?_⟩;have:=(h (f.getD i ([],none)) (by rw[υ,ξ hi'];exact Jk hi')).2.2 w hw;omega
abbrev afe:List V->Hp->VK->Prop:=λxs H Q=>Ys xs H Q\/∃l,xs=[.str l]/\Q (.str l) H
def BQ {X:Cx}{K:Ξ}:IP X (.type "str") afe:=by
 intro pins s σ H xs us Q I r h;rcases h with h | ⟨l,rfl,q⟩
 ·exact a8 (K:=K) pins s σ H xs us Q I r h
 ·cases r with
  | cons r1 r2=>
   cases r2;obtain⟨t,rfl⟩:=r1;exact PySem.P.str_of_str (ϒ (.str l) H I ⟨t,rfl⟩ q)
abbrev R0:List Nat:=[111,107]
abbrev YK:List Nat:=[110,111]
abbrev nsT:List Nat:=[78,111,83,117,99,104]
abbrev RA:List Nat:=[99,101,108,108,97,114]
abbrev Xj:List Nat:=[104,97,105,108]
abbrev V0:List Nat:=[112,117,116]
abbrev reT:List Nat:=[114,101,97,100]
abbrev NQ:List Nat:=[102,114,111,110,116]
abbrev aco (v:V)(t:List Nat):Prop:=v=.str (S t)\/∃n:Nat,n < 10 ^ 12/\v=.int (n:Int)/\t=ϝ (n:Int)
abbrev yG (K:Ξ):Sp:=λvs H Q _=>∃(nm:List Nat) (p:Ε) (v:V) (t:List Nat),vs=[.str (S nm),.ref p]/\GT K H p [v]/\aco v t/\nm.length<=1000/\t.length<=1000/\∀H',Χ H H'->Q (.str (S (jn [YK,nm,t]))) H'
abbrev Prs (nm:List Nat)(ts:List (List Nat))(us:List V):Prop:=∃fm,Pc (S nm) ts.length fm/\fm.length=ts.length/\us.length=ts.length/\∀(i:Nat) c t u,fm[i]?=some c->ts[i]?=some t->us[i]?=some u->Z5 c t u
abbrev OH (v:V):List (Str×V):=[("cellar",v)]
inductive Act (k:CK) (CD:Ε) (H:Hp) (d:Ε) (R:List (List Nat)->Hp->Prop):List Nat->List V->Prop
 | SX {v:V} {dx:Ε} {xs:List Jn} (hd:H d=some (.ins CD dx (OH v))) (ok:JK xs) (l3:xs.length<=3) (q:∀A Z H' ls,H' d=some (.ins CD dx (OH (.ref A.c)))->(∀b∈A.fix,H b=none)->ϳ [d] H H'->Gc k H' A Z ⟨xs,ϥ (Ϝ xs xs.length) NE,OG,ls⟩->ls.length=1->R [] H'):Act k CD H d R RA (Nl xs)
 | Le {A:CA} {Z:List Ε} {M:CM} {n:List Nat} {dx:Ε} (hd:H d=some (.ins CD dx (OH (.ref A.c)))) (hC:Gc k H A Z M) (hn:Jy n) (hL:M.S.L (S n)=none) (R3:M.ls.length<=4000) (hsz:M.S.sz<=100000)
   (q:∀H' ls,ϳ A.fix H H'->Gc k H' A Z ((M.wr ls).Le (S n))->ls.length=M.ls.length+1->R [[49],[48]] H'):Act k CD H d R Xj [.str (S n)]
 | put {A:CA} {Z:List Ε} {M:CM} {n LS key:List Nat} {wo:Option (List Nat)} {num j:Nat} {x:Jn} {dx:Ε} (hd:H d=some (.ins CD dx (OH (.ref A.c)))) (hP:UC k H A Z M n LS key wo 1 num 0 j x) (hL:M.S.L (S n)=some 1) (h:(num:Int)=M.S.T (S n)+1) {i pl:Nat} {m:Iz} (hi:(i:Int)=Mh M.xs j x key) (hm:M.Ms[i]?=some m) (NV:m.last=(pl:Int)) (h4:pl<=10000) (Vh:i < 10 ^ 12) (R3:M.ls.length<=4000) (hsz:M.S.sz<=100000)
   (q:∀H' ls,ϳ A.fix H H'->Gc k H' A Z ((M.wr ls).put i m (key,wo,0) (S n) num)->ls.length=M.ls.length+1->R [ϝ (i:Int),ϝ (pl:Int)] H'):Act k CD H d R V0 [.str (S n),.int 1,.int (num:Int),.str (S LS),.str (S key),wV wo,.int 0]
 | known {A:CA} {Z:List Ε} {M:CM} {n LS key:List Nat} {wo:Option (List Nat)} {num j:Nat} {x:Jn} {dx:Ε} (hd:H d=some (.ins CD dx (OH (.ref A.c)))) (hP:UC k H A Z M n LS key wo 1 num 0 j x) (hL:M.S.L (S n)=some 1) {i r pl:Nat} (h:(num:Int)=M.S.T (S n)+1 - (M.S.P (S n)).length+i) (hy:(M.S.P (S n))[i]?=some ((r:Int),(pl:Int))) (h3:r < 10 ^ 12) (h4:pl < 10 ^ 12)
   (q:∀H',Χ H H'->R [ϝ (r:Int),ϝ (pl:Int)] H'):Act k CD H d R V0 [.str (S n),.int 1,.int (num:Int),.str (S LS),.str (S key),wV wo,.int 0]
 | read {A:CA} {Z:List Ε} {M:CM} {r:Nat} {f:List KO} {dx:Ε} (hd:H d=some (.ins CD dx (OH (.ref A.c)))) (hC:Gc k H A Z M) (hm:M.Ms[r]?=some (Ls f)) (hl:f.length<=100) (hf:∀x∈f,YI x) (q:∀H',Χ H H'->R ((MK f).flatMap OC) H'):Act k CD H d R reT [.int (r:Int),.int 0,.int 1000,.bl true]
 | front {A:CA} {Z:List Ε} {M:CM} {r n:Nat} {m:Iz} {dx:Ε} (hd:H d=some (.ins CD dx (OH (.ref A.c)))) (hC:Gc k H A Z M) (hm:M.Ms[r]?=some m) (hn:m.last=(n:Int)) (Vh:n < 10 ^ 12) (q:∀H',Χ H H'->R [ϝ (n:Int)] H'):Act k CD H d R NQ [.int (r:Int)]
inductive Zk (k:CK) (CD:Ε) (H:Hp) (d:Ε):V->List Nat->List V->Prop
 | cr {dx:Ε} {us:List V} (hd:H d=some (.ins CD dx (OH .cr))):Zk k CD H d (.str (S RA)) NQ us
 | nor {A:CA} {Z:List Ε} {M:CM} {r:Nat} {dx:Ε} (hd:H d=some (.ins CD dx (OH (.ref A.c)))) (hC:Gc k H A Z M) (h1:A.rs.length<=r) (h2:r<=1000000000):Zk k CD H d (.int (r:Int)) NQ [.int (r:Int)]
abbrev Fd (k:CK)(CD CN:Ε):Sp:=λvs H Q E=>∃(d:Ε) (nm:List Nat) (ts:List (List Nat)) (us:List V),vs=[.ref d,.str (S (jn (nm::ts)))]/\Prs nm ts us/\(jn (nm::ts)).length<=1000000/\ts.length<=100/\
 ((∃R,Act k CD H d R nm us/\∀Lg u H',R Lg H'->H' u=some (.lst (tx Lg))->Q (.ref u) H')\/∃v,Zk k CD H d v nm us/\∀H',Χ H H'->XB E H' CN [("name",v)])
abbrev G1 (k:CK)(CD:Ε):Sp:=λvs H Q _=>∃(d:Ε) (nm:List Nat) (ts:List (List Nat)) (us:List V),vs=[.ref d,.str (S (jn (nm::ts)))]/\Prs nm ts us/\(jn (nm::ts)).length<=1000000/\ts.length<=100/\
 ((∃R,Act k CD H d R nm us/\∀Lg H1,R Lg H1->(Lg.map Ϻ).sum+Lg.length<=900000/\∀H',Χ H1 H'->Q (.str (S (jn (R0::Lg)))) H')\/∃v t,Zk k CD H d v nm us/\aco v t/\t.length<=1000/\∀H',Χ H H'->Q (.str (S (jn [YK,nsT,t]))) H')
abbrev uS (CD:Ε):Sp:=λvs H Q _=>∃(x dx:Ε),vs=[.ref x]/\H x=some (.ins CD dx [])/\Q .cr (upd H x (.ins CD dx (OH .cr)))
end
section
def acp {X:Cx}{E:XK}:Passes IL X E:=λ_ _ _ _ _ _ _ h=>h.elim
end
section
def tH (ts:List (List Nat)):ϡ 59 (jn (nm::ts))=(nm::ts).map gd:=ju (by simp) λp hp=>by
 (refine ρ (τ.mp hp) λq _ Τ=>?_;subst Τ);exact zT q
end
section
open PySem
def UC.same {k:CK}{A:CA}{M:CM}{n LS:List Nat}{life num dd:Nat}{x:Jn}(h:UC k H A Z M n LS key wo life num dd j x)(s:Χ H H'):UC k H' A Z M n LS key wo life num dd j x:={ h with ce:=h.ce.same s }
end
section
open PySem
def G2 (v w:V):MW (Α "cellar") w (OH v)=OH w:=δ rfl
end
section
open PySem
def Act.on {k:CK}{R:List (List Nat)->Hp->Prop}{us:List V}(h:Act k CD H d R nm us)(s:Χ H H1):Act k CD H1 d (λLg H'=>R Lg H'/\∀p o,H p=none->H1 p=some o->H' p=some o) nm us:=by
 cases h with
 | SX hd ok l3 q=>exact .SX (s _ _ hd) ok l3 λA Z H' ls e f c C l=>⟨q A Z H' ls e (λb hb=>aV s (f b hb)) ((ϳ.of_same s).trans c) C l,λp o n y=>c.keep _ _ y λz=>by rw[Μ.mp z,hd] at n;cases n⟩
 | Le hd hC hn hL R3 hsz q=>exact .Le (s _ _ hd) (hC.same s) hn hL R3 hsz λH' ls c C l=>⟨q H' ls ((ϳ.of_same s).trans c) C l,λp o n y=>c.keep _ _ y (hC.RZ n)⟩
 | put hd hP hL h hi hm NV h4 Vh R3 hsz q=>exact .put (s _ _ hd) (hP.same s) hL h hi hm NV h4 Vh R3 hsz λH' ls c C l=>⟨q H' ls ((ϳ.of_same s).trans c) C l,λp o n y=>c.keep _ _ y (hP.ce.RZ n)⟩
 | known hd hP hL h hy h3 h4 q=>exact .known (s _ _ hd) (hP.same s) hL h hy h3 h4 λH' s'=>⟨q H' (s.trans s'),λp o _ y=>s' _ _ y⟩
 | read hd hC hm hl hf q=>exact .read (s _ _ hd) (hC.same s) hm hl hf λH' s'=>⟨q H' (s.trans s'),λp o _ y=>s' _ _ y⟩
 | front hd hC hm hn Vh q=>exact .front (s _ _ hd) (hC.same s) hm hn Vh λH' s'=>⟨q H' (s.trans s'),λp o _ y=>s' _ _ y⟩
def Zk.same {k:CK}{v:V}{us:List V}(h:Zk k CD H d v nm us)(s:Χ H H'):Zk k CD H' d v nm us:=by
 cases h with
 | cr hd=>exact .cr (s _ _ hd)
 | nor hd hC h1 h2=>exact .nor (s _ _ hd) (hC.same s) h1 h2
def Act.obj {k:CK}{R:List (List Nat)->Hp->Prop}{us:List V}(h:Act k CD H d R nm us):∃dx v,H d=some (.ins CD dx (OH v)):=by cases h<;>exact(Nd _ _ (‹_›))
def Zk.obj {k:CK}{v:V}{us:List V}(h:Zk k CD H d v nm us):∃dx v,H d=some (.ins CD dx (OH v)):=by cases h<;>exact(Nd _ _ (‹_›))
end
section
open PySem PySem.Spec PyProof.Rows
def tI (c:Nat)(z:List Nat)(g:Nat->List Nat):∀a:List Nat,db z ((ϡ c a).map λp=>p.flatMap g)=a.flatMap λx=>if x=c then z else g x
 | []=>rfl
 | x::a=>by
  have ih:=tI c z g a;rw[Do,<-ih,ϡ];obtain⟨p,ps,e⟩:∃p ps,ϡ c a=p::ps:=by
   cases h:ϡ c a with
   | nil=>exact absurd h (dI _ _)
   | cons p ps=>exact(Nd p ps rfl)
  rw[e]
  by_cases h:x=c
  ·rw[δ h,δ h]
   show[]++z++db z ((p::ps).map _)=_;rw[IG]
  ·rw[Υ h,Υ h]
   cases ps with
   | nil=>show(x::p).flatMap g=_;rw[Do];rfl
   | cons q qs=>show(x::p).flatMap g++z++db z _=g x++(p.flatMap g++z++db z _);rw[Do];simp only[Kv]
def G3 (a:List Nat):db [126,115] ((ϡ 59 a).map λp=>db [126,119] (ϡ 126 p))=gd a:=by
 have e:(λp=>db [126,119] (ϡ 126 p))=λp=>p.flatMap λx=>if x=126 then[126,119] else[x]:=funext λp=>cW _ _ _;rw[e,tI,gd];congr 1;funext x;unfold YC
 by_cases h:x=126
 ·rw[δ h,δ h,Υ (by omega)]
 ·rw[Υ h,Υ h]
def G4:∀p:List Nat,(db [126,119] (ϡ 126 p)).length<=2 * p.length:=λp=>by
 rw[cW]
 induction p with
 | nil=>exact Φ _
 | cons x p ih=>
  rw[Do,Ω,Ψ]
  split<;>simp only[Ψ,ϕ]<;>omega
def uT {f:List Nat->List Nat}(h:∀p,(f p).length<=2 * p.length):∀l:List (List Nat),((l.map f).map Ϻ).sum<=2 * (l.map Ϻ).sum
 | []=>Φ _
 | x::l=>by have:=uT h l;have:=h x;simp only[ο,am];omega
def iL:∀{l:List (List Nat)},(∀x∈l,x.length<=n)->(l.map Ϻ).sum<=l.length * n
 | [],_=>Ϛ _
 | x::l,h=>by
  have h1:=iL λy hy=>h y (ε _ hy);have h2:=h x (.head _);simp only[ο,am,Ψ,Nat.succ_mul];omega
abbrev yH:Sp:=λvs H Q _=>∃a,vs=[.str (S a)]/\a.length<=1000/\∀H',Χ H H'->Q (.str (S (gd a))) H'
abbrev wQ (K:Ξ):Sp:=λvs H Q _=>∃p l,vs=[.ref p]/\GT K H p (tx l)/\(∀x∈l,x.length<=1000)/\l.length<=400/\∀H',Χ H H'->Q (.str (S (jn l))) H'
abbrev Zl (c:Nat):Prop:=JI c=true
abbrev BR:Sp:=λvs H Q _=>∃(c st:Int) (n:Nat),vs=[.int c,.int st,.int (n:Int)]/\n<=100/\∀l H',Χ H H'->l.length=n->(∀x∈l,Zl x)->Q (.str (S l)) H'
abbrev BS:Sp:=λvs H Q _=>∃c:Int,vs=[.int c]/\∀wo H',Χ H H'->Lf wo->(∀w,wo=some w->w.length<=9)->Q (.str (S (Jq wo))) H'
def G5 (n:Int):Zl (sgB n):=by
 unfold Zl JI sgB;have h:(n % 94).toNat < 94:=by omega
 split<;>simp<;>omega
def DQ {l:List Nat}(h:∀x∈l,Zl x):l.all JI=true:=IM.mpr h
def aff {l:List Nat}(h1:1<=l.length)(h2:l.length<=24)(h:∀x∈l,Zl x):keyOk l:=by
 unfold keyOk;rw[dF (by simp[K2,cm];omega)];exact DQ h
def acq {l:List Nat}(h2:l.length<=200)(h:∀x∈l,Zl x):Lf (some l):=by
 unfold Lf;show(_ || Jl (.str (S l)) 0 200 JI)=true;rw[dF (by simp[K2,cm];omega),DQ h,LA]
abbrev Jo (c:Int):List Nat:=([[98,111,120],[97,49],[],[122,122,57]]:List (List Nat)).getD (JG c 1 % 4).toNat []
abbrev Tc (c:Int):Nat:=(JG c 2 % ((Jo c).length+1:Nat)).toNat
abbrev lv (c:Int)(k:Nat):List Nat:=(Jo c).take (Tc c)++[97+k]++(Jo c).drop (Tc c)
abbrev Pq (c:Int):List (List Nat):=(io 8).map (lv c)
abbrev yI:Sp:=λvs H Q _=>∃c:Int,vs=[.int c]/\∀D H',H D=none->Χ H H'->H' D=some (.lst (tx (Pq c)))->Q (.ref D) H'
def dJ (c:Int):(Jo c).length<=3/\∀x∈Jo c,x∈Yv:=by
 have h:(JG c 1 % 4).toNat < 4:=by omega
 unfold Jo;revert h;generalize (JG c 1 % 4).toNat=n;revert n;decide
def zZ (c:Int):Tc c<=(Jo c).length:=by
 unfold Tc;have:=(zJ c 2).1;have h2:=Mf (JG c 2) (b:=(((Jo c).length+1:Nat):Int)) (by omega);omega
def mC (c:Int)(k:Nat):(lv c k).length=(Jo c).length+1:=by
 unfold lv;have:=zZ c;simp only[Ω,Ϭ,sw,jp];omega
def DR {k:Nat}(h:lv c j=lv c k):j=k:=by
 unfold lv at h;rw[Kv,Kv] at h;have:=List.append_cancel_left h;have e:=List.append_cancel_right this;simp at e;exact e
def Fe {k:Nat}(hk:k < 8):∀x∈lv c k,x∈Yv:=by
 intro x hx;unfold lv at hx;rcases ϑ.mp hx with hx | hx
 ·rcases ϑ.mp hx with hx | hx
  ·exact(dJ c).2 x (Ou hx)
  ·rw[Μ.mp hx]
   exact(by decide:∀k:Fin 8,97+k.1∈Yv) ⟨k,hk⟩
 ·exact(dJ c).2 x (List.mem_of_mem_drop hx)
def jB {k:Nat}(hk:k < 8):(lv c k).all Vg=true:=IM.mpr λx hx=>j' (Fe hk x hx)
def j3 {k:Nat}(hk:k < 8):Jy (lv c k):=by
 unfold Jy;have h1:=mC c k;have h2:=(dJ c).1;rw[dF (by simp[K2,cm];omega)];exact jB hk
def DS (l:List (List Nat)):(jn l).length<=2 * (l.map Ϻ).sum+l.length:=by
 unfold jn
 induction l with
 | nil=>exact Φ _
 | cons x l ih=>
  have g:=nM x;cases l with
  | nil=>show(gd x).length<=_;simp only[ο,Ja,am,UZ,Ψ,ϕ];omega
  | cons y l=>
   show(gd x++[59]++db [59] ((y::l).map gd)).length<=_;rw[Ω,Ω];simp only[ο,am,Ψ,ϕ] at ih ⊢;omega
abbrev BU (k:CK)(CD:Ε)(K:Ξ):Sp:=λvs H Q _=>∃(d rq:Ε) (nm:List Nat) (ts:List (List Nat)) (us:List V) (due:List Nat),vs=[.ref d,.ref rq,.str (S due)]/\GT K H rq (tx (nm::ts))/\(∀x∈nm::ts,x.length<=1000)/\ts.length<=100/\Prs nm ts us/\
 ((∃R,Act k CD H d R nm us/\∀Lg H1,R Lg H1->due=jn (R0::Lg)/\(∀x∈Lg,x.length<=1000)/\Lg.length<=400/\∀H',Χ H1 H'->Q (.bl true) H')\/∃v t,Zk k CD H d v nm us/\aco v t/\t.length<=1000/\due=jn [YK,nsT,t]/\∀H',Χ H H'->Q (.bl true) H')
abbrev Ks (c:Int)(i:Nat):Nat:=(1+JG c (3+(i:Int)) % 9).toNat
def dM (c:Int)(i:Nat):1<=Ks c i/\Ks c i<=9:=by unfold Ks;omega
abbrev Vl (i:Nat):Str:=if i=0 then Α "table" else Α "stream"
abbrev N0 (c:Int)(i:Nat):Jn:=⟨lv c i,Ks c i,Vl i⟩
abbrev Mb (c:Int):List Jn:=[N0 c 0,N0 c 1]
def z9 (h:i < 8):WM (N0 c i):=by
 have h1:=mC c i;have h2:=(dJ c).1;refine⟨⟨?_,?_,jB h⟩,dM c i,?_⟩
 ·show 1<=(lv c i).length;omega
 ·show(lv c i).length<=12;omega
 ·unfold N0 Vl;dsimp only;split
  ·exact .inl rfl
  ·exact .inr rfl
def Aa (c:Int):JK (Mb c):=by
 refine⟨by show 1<=2;decide,by show 2<=6;decide,λx hx=>?_,?_⟩
 ·rcases Θ.mp hx with rfl | hx
  ·exact z9 (by decide)
  ·rw[Μ.mp hx];exact z9 (by decide)
 ·show[lv c 0,lv c 1].Nodup
  rw[Ϯ];exact⟨λz=>absurd (DR (Μ.mp z)) (by decide),Ϯ.mpr ⟨Ρ,.nil⟩⟩
set_option genInjectivity false in
structure Wt where
 num:Nat
 j:Nat
 key:List Nat
 wo:Option (List Nat)
 r:Nat
 pl:Nat
abbrev XN (c:Int)(p:Wt):List (List Nat):=[lv c 2,[49],ϝ (p.num:Int),lv c p.j,p.key,Jq p.wo,[48]]
abbrev rqV (c:Int)(p:Wt):List V:=[.str (S (lv c 2)),.int 1,.int (p.num:Int),.str (S (lv c p.j)),.str (S p.key),wV p.wo,.int 0]
abbrev Rj (p:Wt):List Nat:=jn [R0,ϝ (p.r:Int),ϝ (p.pl:Int)]
structure okP (c:Int)(p:Wt):Prop where
 num:1<=p.num/\p.num<=100
 j:p.j < 2
 key:keyOk p.key
 kl:p.key.length<=24
 wo:Lf p.wo
 wl:∀w,p.wo=some w->w.length<=9
 r:p.r < Ks c 0+Ks c 1
 pl:p.pl<=100
def bC (h:n < 10 ^ 12):(ϝ (n:Int)).length<=12:=by
 rw[hG,Ζ]
 by_cases h0:n=0
 ·subst h0;decide
 ·exact(Nat.length_toDigits_le_iff (by decide) (by decide)).mpr h
def dN {k:Nat}:(lv c k).length<=1000:=by have:=mC c k;have:=(dJ c).1;omega
def wR (h:∀w,wo=some w->w.length<=9):(Jq wo).length<=1000:=by
 cases wo with
 | none=>decide
 | some w=>show w.length+1<=1000;have:=h w rfl;omega
def tJ {p:Wt}(h:okP c p):∀x∈V0::XN c p,x.length<=1000:=by
 have h1:=bC (n:=p.num) (by have:=h.num;omega);have h2:=h.kl;have h3:=wR h.wl;intro x hx;simp only[XN,Θ,Ρ,ϛ] at hx;rcases hx with rfl | rfl | rfl | rfl | rfl | rfl | rfl | rfl
 ·decide
 ·exact dN
 ·decide
 ·omega
 ·exact dN
 ·omega
 ·exact h3
 ·decide
def Ab {p:Wt}(h:okP c p):Prs V0 (XN c p) (rqV c p):=by
 refine(Jw ([116,110,110,116,116,119,110]) (.inr (.inr (.inl ⟨s!"d",rfl⟩))) rfl rfl (λi f t u h1 h2 h3=>?_));have hn:=h.num
 match i with
 | 0=>cases h1;cases h2;cases h3;exact .inr (.inr (.inr ⟨rfl,rfl⟩))
 | 1=>cases h1;cases h2;cases h3;exact .inl ⟨rfl,(ύ 1 (by decide) (s!"d") rfl)⟩
 | 2=>cases h1;cases h2;cases h3;exact .inl ⟨rfl,(ύ p.num (by omega) rfl rfl)⟩
 | 3=>cases h1;cases h2;cases h3;exact .inr (.inr (.inr ⟨rfl,rfl⟩))
 | 4=>cases h1;cases h2;cases h3;exact .inr (.inr (.inr ⟨rfl,rfl⟩))
 | 5=>cases h1;cases h2;cases h3;exact .inr (.inl ⟨rfl,(ύ p.wo (λw hw=>by have:=h.wl w hw;omega) rfl rfl)⟩)
 | 6=>cases h1;cases h2;cases h3;exact .inl ⟨rfl,(ύ 0 (by decide) (s!"d") rfl)⟩
 | i+7=>cases h1
structure P84 (M:CM)(c:Int)(ps:List Wt)(fs:List (List KO)):Prop where
 xs:M.xs=Mb c
 ms:M.Ms=fs.map Ls
 fl:fs.length=Ks c 0+Ks c 1
 L:M.S.L (S (lv c 2))=some 1
 Tn:M.S.T (S (lv c 2))=ps.length
 P:M.S.P (S (lv c 2))=QE (ps.map λp=>((p.r:Int),(p.pl:Int)))
 ok:∀p∈ps,okP c p
 n0:∀p,ps[0]?=some p->p.num=1
 okf:∀f∈fs,∀x∈f,YI x
 f20:∀f∈fs,f.length<=ps.length
 ls:M.ls.length<=2+ps.length
 sz:M.S.sz<=1+ps.length
def P84.put {M:CM}{ps:List Wt}{fs:List (List KO)}{p:Wt}{f:List KO}(h:P84 M c ps fs)(hp:okP c p)(hn:p.num=ps.length+1)(hf:fs[p.r]?=some f)(hl:p.pl=f.length)(els:ls.length=M.ls.length+1):P84 ((M.wr ls).put p.r (Ls f) (p.key,p.wo,0) (S (lv c 2)) (p.num:Int)) c (ps++[p]) (fs.set p.r (f++[(p.key,p.wo)])):=by
 have mf:=Ν hf;refine⟨h.xs,?_,by rw[RB];exact h.fl,h.L,?_,?_,λq hq=>?_,λq hq=>?_,λf' hf'=>?_,λf' hf'=>?_,?_,?_⟩
 ·show M.Ms.set p.r ((Ls f).add (p.key,p.wo,0))=_
  rw[h.ms,List.map_set,DN]
 ·show(if S (lv c 2)=S (lv c 2) then(p.num:Int) else _)=_
  rw[δ rfl,Ω,hn];rfl
 ·show(if S (lv c 2)=S (lv c 2) then(M.S.P (S (lv c 2))++[((p.r:Int),(Ls f).last)]).drop ((M.S.P (S (lv c 2))++[((p.r:Int),(Ls f).last)]).length - 8) else _)=_
  rw[δ rfl,h.P,yt,ϖ];show QE (_++[((p.r:Int),((f.length:Nat):Int))])=_;rw[<-hl];rfl
 ·rcases ϑ.mp hq with hq | hq
  ·exact h.ok q hq
  ·rw[Μ.mp hq];exact hp
 ·cases ps with
  | nil=>cases hq;exact hn
  | cons a r=>exact h.n0 q hq
 ·rcases Tr hf' with q | rfl
  ·exact h.okf f' q
  ·intro x hx
   rcases ϑ.mp hx with q | q
   ·exact h.okf f mf x q
   ·rw[Μ.mp q]
    exact⟨hp.key,hp.wo,λw hw=>by have:=hp.wl w hw;omega⟩
 ·rw[Ω]
  rcases Tr hf' with q | rfl
  ·exact XZ (h.f20 f' q)
  ·have:=h.f20 f mf
   rw[Ω];simp;omega
 ·show ls.length<=2+(ps++[p]).length
  have:=h.ls;rw[Ω];simp;omega
 ·show M.S.sz+1<=1+(ps++[p]).length
  have:=h.sz;rw[Ω];simp;omega
abbrev N1 (x:Jn):List (List Nat):=[x.name,ϝ (x.rows:Int),x.kind.cps.toList]
def Ac {xs:List Jn}(h:∀x∈xs,x.rows<=9)(h3:xs.length<=3):Prs RA (xs.flatMap N1) (Nl xs):=by
 have hl:∀xs:List Jn,(xs.flatMap N1).length=3 * xs.length:=λxs=>by
  induction xs with
  | nil=>rfl
  | cons x r ih=>rw[Do,Ω,ih,Ψ];show 3+_=_;omega
 have hr:∀n:Nat,((ϥ n [116,110,116]).flatten:List Nat).length=3 * n:=λn=>by
  induction n with
  | zero=>rfl
  | succ n ih=>rw[List.replicate_succ,XH,Ω,ih];show 3+_=_;omega
 refine(Jw _ (.inl ⟨s!"d",(ύ xs.length h3 (hl xs) rfl)⟩) (by rw[hr,hl]) (by rw[iK,hl]) ?_);clear h3
 induction xs with
 | nil=>intro i c t u h1;cases h1
 | cons x r ih=>
  intro i c t u h1 h2 h3
  match i with
  | 0=>cases h1;cases h2;cases h3;exact .inr (.inr (.inr ⟨rfl,rfl⟩))
  | 1=>cases h1;cases h2;cases h3;exact .inl ⟨rfl,(ύ x.rows (by have:=h x (.head _);omega) rfl rfl)⟩
  | 2=>cases h1;cases h2;cases h3;exact .inr (.inr (.inr ⟨rfl,by rw[show S x.kind.cps.toList=x.kind from(xY _).symm]⟩))
  | i+3=>exact ih (λy hy=>h y (ε _ hy)) i c t u h1 h2 h3
def uU {f:Nat}{t:List Nat}{u:V}(hf:Pc (S nm) 1 [f])(h:Z5 f t u):Prs nm [t] [u]:=(Jw _ hf rfl rfl (λi c t' u' h1 h2 h3=>by
 match i with
 | 0=>cases h1;cases h2;cases h3;exact h
 | i+1=>cases h1))
abbrev Z6 (c:Int)(i:Nat):List (List Nat):=((io i).map (N0 c)).flatMap N1
def DT (c:Int)(i:Nat):Z6 c (i+1)=Z6 c i++N1 (N0 c i):=by
 unfold Z6;rw[NM,ϖ,OZ];simp
set_option genInjectivity false in
structure KL where
 kp:Ε
 N:Ε
 mm:Ε
 st:Ε
 Pu:Ε
 R:Ε
 rl:List Ε
abbrev MY (L:KL)(n:Nat):List (Key×V):=[(.inr "names",.ref L.N),(.inr "many",.ref L.mm),(.inr "starts",.ref L.st),(.inr "number",.int (n:Int)),(.inr "puts",.ref L.Pu),(.inr "rows",.ref L.R)]
def ia (L:KL)(n:Nat):Io (MY L n) (.inr (Α "names"))=some (.ref L.N):=by rfl
def Ad (L:KL)(n:Nat):Io (MY L n) (.inr (Α "many"))=some (.ref L.mm):=by rfl
def BV (L:KL)(n:Nat):Io (MY L n) (.inr (Α "starts"))=some (.ref L.st):=by rfl
def tK (L:KL)(n:Nat):Io (MY L n) (.inr (Α "number"))=some (.int (n:Int)):=by rfl
def fW (L:KL)(n:Nat):Io (MY L n) (.inr (Α "puts"))=some (.ref L.Pu):=by rfl
def mD (L:KL)(n:Nat):Io (MY L n) (.inr (Α "rows"))=some (.ref L.R):=by rfl
def G6 (L:KL)(n m:Nat):putK (MY L n) (.inr (Α "number")) (.int (m:Int))=MY L m:=by rfl
abbrev KL.own (L:KL):List Ε:=[L.kp,L.N,L.mm,L.st,L.Pu,L.R]++L.rl
abbrev LLs (H:Hp)(B:List Ε)(r:Ε)(rows:List (List (List Nat))):Prop:=∃ts,H r=some (.lst (ts.map V.ref))/\Paired (λt x=>t∉B/\H t=some (.lst (tx x))) ts rows
abbrev Pr (H:Hp)(B:List Ε)(r:Ε)(qs:List (List (List Nat)×List Nat)):Prop:=∃ts,H r=some (.lst (ts.map V.ref))/\Paired (λt (x:List (List Nat)×List Nat)=>∃rq,rq∉B/\H t=some (.tup [.ref rq,.str (S x.2)])/\H rq=some (.lst (tx x.1))) ts qs
abbrev R4 (c:Int)(ps:List Wt):List (List (List Nat)×List Nat):=ps.map λp=>(V0::XN c p,Rj p)
structure K5 (H:Hp)(B:List Ε)(L:KL)(c:Int)(n:Nat)(fs:List (List KO))(qs:List (List (List Nat)×List Nat)):Prop where
 kp:H L.kp=some (.dK (MY L n))
 nm:H L.N=some (.lst (tx (Pq c)))
 mm:H L.mm=some (.lst [.int (Ks c 0:Int),.int (Ks c 1:Int)])
 st:H L.st=some (.lst [.int 0,.int (Ks c 0:Int)])
 rr:H L.R=some (.lst (L.rl.map V.ref))
 lr:L.rl.length=fs.length
 row:∀(i:Nat) r f,L.rl[i]?=some r->fs[i]?=some f->LLs H B r ((MK f).map OC)
 pu:Pr H B L.Pu qs
section
variable {B C:List Ε} {L:KL} {fs:List (List KO)} 
def LLs.Ji {rows:List (List (List Nat))}(h:LLs H B r rows)(g:ϳ C H H')(hC:∀b∈C,b∈B)(nr:r∉C):LLs H' B r rows:=by
 (revert h;refine Ϟ λts e p=>?_);exact(Κ ts (g.keep _ _ e nr) (Paired.S7 p λt x zz=>MU zz λn e=>⟨n,g.keep _ _ e λz=>n (hC _ z)⟩))
def Pr.Ji (h:Pr H B r qs)(g:ϳ C H H')(hC:∀b∈C,b∈B)(nr:r∉C):Pr H' B r qs:=by
 (revert h;refine Ϟ λts e p=>?_);exact(Κ ts (g.keep _ _ e nr) (Paired.S7 p λt x zz=>ϭ zz λrq n e1 e2=>(ύ rq n (g.tup _ _ e1) (g.keep _ _ e2 λz=>n (hC _ z)))))
def KL.mem (L:KL)(h:b∈[L.kp,L.N,L.mm,L.st,L.Pu,L.R]):b∈L.own:=ώ _ h
def KL.acv (L:KL)(h:b∈L.rl):b∈L.own:=ι _ h
def K5.Ji (h:K5 H B L c n fs qs)(g:ϳ C H H')(hC:∀b∈C,b∈B)(nC:∀b∈L.own,b∉C):K5 H' B L c n fs qs:=
 have k:∀(i:Nat) {b:Ε},[L.kp,L.N,L.mm,L.st,L.Pu,L.R][i]?=some b->b∉C:=λi b e=>nC _ (L.mem (Ν e))
 ⟨g.keep _ _ h.kp (k 0 rfl),g.keep _ _ h.nm (k 1 rfl),g.keep _ _ h.mm (k 2 rfl),g.keep _ _ h.st (k 3 rfl),g.keep _ _ h.rr (k 5 rfl),h.lr,λi r f h1 h2=>(h.row i r f h1 h2).Ji g hC (nC _ (L.acv (Ν h1))),h.pu.Ji g hC (k 4 rfl)⟩
def K5.same (h:K5 H B L c n fs qs)(s:Χ H H'):K5 H' B L c n fs qs:=h.Ji (C:=[]) (ϳ.of_same s) (λ_ z=>nomatch z) (λ_ _ z=>nomatch z)
def K5.ai7 (h:K5 H B L c n fs qs){m:Nat}(nd:L.own.Nodup)(kB:L.kp∈B)(g:ϳ [L.kp] H H')(e:H' L.kp=some (.dK (MY L m))):K5 H' B L c m fs qs:=by
 have n0:=(ϴ.mp nd)
 have k:∀(i:Nat) {b:Ε},[L.kp,L.N,L.mm,L.st,L.Pu,L.R][i]?=some b->0 < i->b∉[L.kp]:=λi b e hi z=>by
  have:=hV n0.1 e (show[L.kp,L.N,L.mm,L.st,L.Pu,L.R][0]?=some b by rw[Μ.mp z];rfl);omega
 have kr:∀b∈L.rl,b∉[L.kp]:=λb hb z=>n0.2.2 L.kp (.head _) b hb (Μ.mp z).symm;have hC:∀b∈[L.kp],b∈B:=λb hb=>by rw[Μ.mp hb];exact kB
 exact⟨e,g.keep _ _ h.nm (k 1 rfl (by decide)),g.keep _ _ h.mm (k 2 rfl (by decide)),g.keep _ _ h.st (k 3 rfl (by decide)),g.keep _ _ h.rr (k 5 rfl (by decide)),h.lr,λi r f h1 h2=>(h.row i r f h1 h2).Ji g hC (kr _ (Ν h1)),h.pu.Ji g hC (k 4 rfl (by decide))⟩
def K5.ai8 (h:K5 H B L c n fs qs)(nd:L.own.Nodup){f f':List KO}(hr:L.rl[i]?=some r)(hf:fs[i]?=some f)(rB:r∈B)(g:ϳ [r] H H')(e:LLs H' B r ((MK f').map OC)):K5 H' B L c n (fs.set i f') qs:=by
 have n0:=(ϴ.mp nd)
 have mr:=Ν hr;have k:∀(i:Nat) {b:Ε},[L.kp,L.N,L.mm,L.st,L.Pu,L.R][i]?=some b->b∉[r]:=λi b e z=>n0.2.2 b (Ν e) r mr (Μ.mp z);have hC:∀b∈[r],b∈B:=λb hb=>by rw[Μ.mp hb];exact rB
 have Pa:i < fs.length:=(Ο.mp hf).1;refine⟨g.keep _ _ h.kp (k 0 rfl),g.keep _ _ h.nm (k 1 rfl),g.keep _ _ h.mm (k 2 rfl),g.keep _ _ h.st (k 3 rfl),g.keep _ _ h.rr (k 5 rfl),by rw[RB];exact h.lr,λi' r' f'' h1 h2=>?_,h.pu.Ji g hC (k 4 rfl)⟩
 by_cases z:i'=i
 ·subst z
  rw[hr] at h1;rw[Kt Pa] at h2;cases h1;cases h2;exact e
 ·rw[JR (ω z)] at h2
  exact(h.row i' r' f'' h1 h2).Ji g hC λy=>z (hV n0.2.1 h1 (Μ.mp y▸hr))
def K5.ai9 (h:K5 H B L c n fs qs){qs':List (List (List Nat)×List Nat)}(nd:L.own.Nodup)(kB:L.Pu∈B)(g:ϳ [L.Pu] H H')(e:Pr H' B L.Pu qs'):K5 H' B L c n fs qs':=by
 have n0:=(ϴ.mp nd)
 have k:∀(i:Nat) {b:Ε},[L.kp,L.N,L.mm,L.st,L.Pu,L.R][i]?=some b->i≠4->b∉[L.Pu]:=λi b e hi z=>hi (hV n0.1 e (show[L.kp,L.N,L.mm,L.st,L.Pu,L.R][4]?=some b by rw[Μ.mp z];rfl));have kr:∀b∈L.rl,b∉[L.Pu]:=λb hb z=>n0.2.2 L.Pu (mi 4 rfl) b hb (Μ.mp z).symm;have hC:∀b∈[L.Pu],b∈B:=λb hb=>by rw[Μ.mp hb];exact kB
 exact⟨g.keep _ _ h.kp (k 0 rfl (by decide)),g.keep _ _ h.nm (k 1 rfl (by decide)),g.keep _ _ h.mm (k 2 rfl (by decide)),g.keep _ _ h.st (k 3 rfl (by decide)),g.keep _ _ h.rr (k 5 rfl (by decide)),h.lr,λi r f h1 h2=>(h.row i r f h1 h2).Ji g hC (kr _ (Ν h1)),e⟩
end
def K5.here {B:List Ε}{L:KL}{fs:List (List KO)}(h:K5 H B L c n fs qs):∀b∈L.own,∃o,H b=some o:=λb hb=>by
 rcases ϑ.mp hb with hb | hb
 ·simp only[Θ,Ρ,ϛ] at hb
  rcases hb with rfl | rfl | rfl | rfl | rfl | rfl
  ·exact⟨_,h.kp⟩
  ·exact⟨_,h.nm⟩
  ·exact⟨_,h.mm⟩
  ·exact⟨_,h.st⟩
  ·(refine ρ h.pu λts e _=>?_);exact⟨_,e⟩
  ·exact⟨_,h.rr⟩
 ·obtain⟨i,hi⟩:=Lc hb
  have hl:i < fs.length:=h.lr▸(Ο.mp hi).1;(refine ρ (h.row i b _ hi (ξ hl)) λts e _=>?_);exact⟨_,e⟩
abbrev R7 (L:KL)(d:Ε)(A:CA):List Ε:=d::(L.own++A.fix)
structure Rk (k:CK)(CD:Ε)(H:Hp)(d:Ε)(L:KL)(A:CA)(Z:List Ε)(M:CM)(c:Int)(n:Nat)(fs:List (List KO))(qs:List (List (List Nat)×List Nat)):Prop where
 ce:Gc k H A Z M
 dk:∃dx,H d=some (.ins CD dx (OH (.ref A.c)))
 kp:K5 H (R7 L d A) L c n fs qs
 nd:L.own.Nodup
 na:∀b∈L.own,b∉A.fix
 do':d∉L.own
 da:d∉A.fix
 zz:∀b∈L.Pu::L.rl,b∈Z
section
variable {k:CK} {L:KL} {A:CA} {M M':CM} {fs X6:List (List KO)} {qs':List (List (List Nat)×List Nat)}
def Rk.same (h:Rk k CD H d L A Z M c n fs qs)(s:Χ H H'):Rk k CD H' d L A Z M c n fs qs:={ h with ce:=h.ce.same s,dk:=h.dk.imp λ_ e=>s _ _ e,kp:=h.kp.same s }
def Rk.one (h:Rk k CD H d L A Z M c n fs qs)(hb:b∈L.own)(g:ϳ [b] H H')(hz:b∈Z\/∀xs,H b≠some (.lst xs))(e:K5 H' (R7 L d A) L c n' X6 qs'):Rk k CD H' d L A Z M c n' X6 qs':=
 { h with
  ce:=h.ce.Ji g (λx hx=>by rw[Μ.mp hx];exact h.na b hb) (λx hx=>by rw[Μ.mp hx];exact hz) (λx hx=>by rw[Μ.mp hx];exact e.here b hb)
  dk:=h.dk.imp λ_ e=>g.keep _ _ e λz=>h.do' (Μ.mp z▸hb)
  kp:=e }
def Rk.act (h:Rk k CD H d L A Z M c n fs qs)(g:ϳ A.fix H H')(C:Gc k H' A Z M'):Rk k CD H' d L A Z M' c n fs qs:=
 { h with ce:=C,dk:=h.dk.imp λ_ e=>g.keep _ _ e h.da,kp:=h.kp.Ji g (λb hb=>ε _ (ι _ hb)) h.na }
def Rk.bad (h:Rk k CD H d L A Z M c n fs qs)(e:H b=none):b∉R7 L d A:=λz=>by
 rcases Θ.mp z with rfl | z
 ·obtain⟨dx,q⟩:=h.dk;rw[q] at e;cases e
 ·rcases ϑ.mp z with z | z
  ·obtain⟨o,q⟩:=h.kp.here b z;rw[q] at e;cases e
  ·exact h.ce.RZ e z
end
structure W84 (k:CK)(CD:Ε)(H:Hp)(d:Ε)(L:KL)(A:CA)(Z:List Ε)(M:CM)(c:Int)(fs:List (List KO))(ps:List Wt):Prop where
 hw:Rk k CD H d L A Z M c ps.length fs (R4 c ps)
 pw:P84 M c ps fs
abbrev DU (k:CK)(CD:Ε):Sp:=λvs H Q _=>∃(d:Ε) (L:KL) (A:CA) (Z:List Ε) (M:CM) (c:Int) (fs:List (List KO)) (ps:List Wt) (x:Int),vs=[.ref d,.ref L.kp,.int x]/\W84 k CD H d L A Z M c fs ps/\ps.length<=30/\
 ∀H' M' X6 p,ϳ (L.own++A.fix) H H'->W84 k CD H' d L A Z M' c X6 (ps++[p])->Q (.bl true) H'
abbrev BW (k:CK)(CD:Ε):Sp:=λvs H Q _=>∃(d dx:Ε) (L:KL) (c:Int) (fs:List (List KO)),vs=[.ref d,.ref L.kp]/\H d=some (.ins CD dx (OH .cr))/\K5 H (d::L.own) L c 0 fs []/\fs=ϥ (Ks c 0+Ks c 1) []/\L.own.Nodup/\d∉L.own/\
 ∀H' A Z M,ϳ [d] H H'->(∀b∈A.fix,H b=none)->W84 k CD H' d L A Z M c fs []->Q (.bl true) H'
def at0 {v:V}(h:xs[i]?=some v):Wd xs (0+(i:Int))=some v:=aW (by omega) (by rw[show(0+(i:Int)).toNat=i by omega];exact h)
def eW (h:i < 8):(tx (Pq c))[i]?=some (.str (S (lv c i))):=by
 unfold tx Pq;rw[μ,μ,ξ (by rw[P1];exact h),W6];rfl
def HM (c:Int)(i:Nat):tx (RA::Z6 c i)++[.str (S (lv c i)),.str (S (ϝ (Ks c i:Int))),.str (Vl i)]=tx (RA::Z6 c (i+1)):=by
 rw[DT];show tx (RA::Z6 c i)++_=tx (RA::Z6 c i++N1 (N0 c i));unfold tx N1;rw[ϖ];simp only[ο,Ja];rw[show S (N0 c i).kind.cps.toList=Vl i from(xY _).symm];rfl
def wU (h:i < 8):∀x∈N1 (N0 c i),x.length<=1000:=λx hx=>by
 have:=dM c i;simp only[N1,Θ,Ρ,ϛ] at hx;rcases hx with rfl | rfl | rfl
 ·exact dN
 ·have:=bC (n:=(N0 c i).rows) (by show Ks c i < _;omega);omega
 ·show(Vl i).cps.toList.length<=1000
  unfold Vl
  split<;>decide +kernel
def K5.empty {B B':List Ε}{L:KL}{m:Nat}(h:K5 H B L c n (ϥ m []) []):K5 H B' L c n (ϥ m []) []:=by
 refine { h with row:=λi r f h1 h2=>?_,pu:=?_ }
 ·(refine ρ (h.row i r f h1 h2) λts e p=>?_)
  rw[Je (Ν h2)] at p ⊢;cases p;exact(Κ ([]) e (.nil))
 ·(refine ρ h.pu λts e p=>?_)
  cases p;exact(Κ ([]) e (.nil))
def P84.start (c:Int)(ls:List (List Nat))(h:ls.length=2):P84 (((⟨Mb c,ϥ (Ϝ (Mb c) (Mb c).length) NE,OG,[]⟩:CM).wr ls).Le (S (lv c 2))) c [] (ϥ (Ks c 0+Ks c 1) []):=by
 refine⟨rfl,?_,FB,δ rfl,?_,?_,(λp hp=>nomatch hp),(λp hp=>nomatch hp),λf hf x hx=>?_,λf hf=>?_,?_,Φ _⟩
 ·show ϥ (Ϝ (Mb c) 2) NE=_
  rw[List.map_replicate,DM];rfl
 ·show(if S (lv c 2)=S (lv c 2) then(if (0:Int)=0 then(0:Int) else 0) else 0)=_
  rw[δ rfl];rfl
 ·show(if S (lv c 2)=S (lv c 2) then(if (0:Int)=0 then([]:List Spot) else[]) else[])=_
  rw[δ rfl];rfl
 ·rw[Je hf] at hx;cases hx
 ·rw[Je hf];exact Φ _
 ·show ls.length<=2;omega
def Xk (c:Int)(h:j < 2):[V.int 0,.int (Ks c 0:Int)][j]?=some (.int (Ϝ (Mb c) j:Int)):=by
 obtain rfl | rfl:j=0\/j=1:=by omega
 ·rfl
 ·rfl
def acw (c:Int)(h:j < 2):[V.int (Ks c 0:Int),.int (Ks c 1:Int)][j]?=some (.int (Ks c j:Int)):=by
 obtain rfl | rfl:j=0\/j=1:=by omega
 ·rfl
 ·rfl
def wW (c:Int)(h:j < 2):(Mb c)[j]?=some (N0 c j):=by
 obtain rfl | rfl:j=0\/j=1:=by omega
 ·rfl
 ·rfl
def afh (c:Int)(h:j < 2)(key:List Nat):(Ϝ (Mb c) j:Int)+Uw key % (Ks c j:Int)=(Mh (Mb c) j (N0 c j) key:Int)/\Mh (Mb c) j (N0 c j) key < Ks c 0+Ks c 1:=by
 have m0:=dM c 0;have m1:=dM c 1;have mj:=dM c j;have e1:=NT (Uw key) (b:=(Ks c j:Int)) (by omega);have e2:=Mf (Uw key) (b:=(Ks c j:Int)) (by omega);have er:Mh (Mb c) j (N0 c j) key=Ϝ (Mb c) j+(Uw key % (Ks c j:Int)).toNat:=rfl;rw[er];refine⟨by omega,?_⟩;obtain rfl | rfl:j=0\/j=1:=by omega
 ·show 0+_ < _;omega
 ·show(Ks c 0+0)+_ < _;omega
def LLs.add {B:List Ε}{t:Ε}{rows:List (List (List Nat))}{x:List (List Nat)}(e:H r=some (.lst (ts.map V.ref)))(p:Paired (λt x=>t∉B/\H t=some (.lst (tx x))) ts rows)(rB:r∈B)(nt:t∉B)(ht:H t=some (.lst (tx x))):LLs (upd H r (.lst (ts.map V.ref++[.ref t]))) B r (rows++[x]):=by
 have k:∀{b:Ε} {o:HO},b∉B->H b=some o->upd H r (.lst (ts.map V.ref++[.ref t])) b=some o:=λ{b o} n q=>by have nz:b≠r:=(λz=>n (by rw[z];exact rB));rw[aj nz];exact q
 exact(Κ (ts++[t]) (ae.trans (by rw[ϖ];rfl)) (Paired.YA ⟨nt,k nt ht⟩ (Paired.S7 p λb y zz=>MU zz λn q=>⟨n,k n q⟩)))
def Pr.add {B:List Ε}{t rq:Ε}{x:List (List Nat)×List Nat}(e:H r=some (.lst (ts.map V.ref)))(p:Paired (λt (x:List (List Nat)×List Nat)=>∃rq,rq∉B/\H t=some (.tup [.ref rq,.str (S x.2)])/\H rq=some (.lst (tx x.1))) ts qs)(rB:r∈B)(nq:rq∉B)(ht:H t=some (.tup [.ref rq,.str (S x.2)]))(hq:H rq=some (.lst (tx x.1))):Pr (upd H r (.lst (ts.map V.ref++[.ref t]))) B r (qs++[x]):=by
 have k:∀{b:Ε} {o:HO},b∉B->H b=some o->upd H r (.lst (ts.map V.ref++[.ref t])) b=some o:=λ{b o} n q=>by have nz:b≠r:=(λz=>n (by rw[z];exact rB));rw[aj nz];exact q
 have kt:∀{b:Ε} {ys:List V},H b=some (.tup ys)->upd H r (.lst (ts.map V.ref++[.ref t])) b=some (.tup ys):=λ{b ys} q=>by rw[aj λz=>by rw[z,e] at q;cases q];exact q
 exact(Κ (ts++[t]) (ae.trans (by rw[ϖ];rfl)) (Paired.YA (ύ rq nq (kt ht) (k nq hq)) (Paired.S7 p λb y zz=>ϭ zz λrq n q1 q2=>(ύ rq n (kt q1) (k n q2)))))
def DV (f:List KO)(x:KO):MK (f++[x])=MK f++[(f.length,x.1,x.2)]:=by
 unfold MK;rw[Ω,jp,NM,ϖ];congr 1
 ·refine im λi hi=>?_
  have:=LU.mp hi;simp only[υ,wf this]
 ·simp[υ]
def HN {l:List (List Nat)}(h:∀x∈l,RP x):RP (jn l):=by
 unfold jn
 induction l with
 | nil=>exact λc hc=>absurd hc Ρ
 | cons x l ih=>
  have hx:=HJ (h x (.head _));cases l with
  | nil=>exact hx
  | cons y l=>exact zK (zK hx λc hc=>by rw[Μ.mp hc];decide) (ih λz hz=>h z (ε _ hz))
def G7 {p:Wt}(h:okP c p):RP (Rj p)/\∀t∈V0::XN c p,RP t:=by
 refine⟨HN λx hx=>?_,λt ht=>?_⟩
 ·simp only[Θ,Ρ,ϛ] at hx
  rcases hx with rfl | rfl | rfl
  ·unfold RP;decide
  ·exact qk _
  ·exact qk _
 ·have j:=h.j
  simp only[XN,Θ,Ρ,ϛ] at ht;rcases ht with rfl | rfl | rfl | rfl | rfl | rfl | rfl | rfl
  ·unfold RP;decide
  ·exact zQ (jB (by decide))
  ·unfold RP;decide
  ·exact qk _
  ·exact zQ (jB (by omega))
  ·exact h.key.RP
  ·exact λc hc=>by have:=(qJ h.wo λw hw=>by have:=h.wl w hw;omega).2 c hc;omega
  ·unfold RP;decide
def Ae {K:Ξ}{B:List Ε}:∀{ts:List Ε} {qs:List (List (List Nat)×List Nat)},Paired (λt (x:List (List Nat)×List Nat)=>∃rq,rq∉B/\H t=some (.tup [.ref rq,.str (S x.2)])/\H rq=some (.lst (tx x.1))) ts qs->(∀x∈qs,RP x.2/\∀t∈x.1,RP t)->∃ds,Jx K H (ts.map V.ref) ds/\(∀d∈ds,wd 2 d)/\ds.length=qs.length
 | _,_,.nil,_=>(ύ ([]) (.nil) (λ_ z=>absurd z Ρ) rfl)
 | _,_,.cons (b:=x) ⟨rq,_,e1,e2⟩ r,ok=>by
  (refine ϭ (Ae (K:=K) r λy hy=>ok y (ε _ hy)) λds h1 h2 h3=>?_);obtain⟨o1,o2⟩:=ok x (.head _);refine(ύ _ (.cons (.tup (.inl (.inl e1)) (.cons (GN (.inl (.inl e2))) (.cons (.str _) .nil))) h1) (λd hd=>?_) (by rw[Ψ,Ψ,h3]));rcases Θ.mp hd with rfl | hd
  ·refine Dl λd hd=>?_
   rcases Θ.mp hd with rfl | hd
   ·exact HK o2
   ·rw[Μ.mp hd];exact Dk 1 o1
  ·exact h2 d hd
def Af {K:Ξ}{B:List Ε}{e:Ε}{ps:List Wt}(h:Pr H B r (R4 c ps))(ok:∀p∈ps,okP c p)(he:H e=some (.lst []))(q:Q (.bl (!ps.isEmpty)) H):Wh K (.ref r) (.ref e) H Q:=by
 (revert h;refine Ϟ λts et pt=>?_);obtain⟨ds,h1,h2,h3⟩:=Ae (K:=K) pt λx hx=>by
  (refine ρ (τ.mp hx) λp hp Τ=>?_;subst Τ);exact G7 (ok p hp)
 refine Gx rfl (.lst (.inl (.inl et)) h1) (.lst (.inl (.inl he)) .nil) (uD h2).shaped (uD (n:=2) λ_ z=>absurd z Ρ).shaped ?_;unfold R4 at h3;rw[Ζ] at h3;cases ps with
 | nil=>cases ds with
  | nil=>exact q
  | cons d ds=>cases h3
 | cons p ps=>cases ds with
  | nil=>cases h3
  | cons d ds=>exact q
def BX {l:List Spot}(h:l.length<=8):QE l=l:=by unfold QE;rw[show l.length - 8=0 by omega];rfl
def BY (n:Nat):59∉ϝ (n:Int)/\126∉ϝ (n:Int):=by
 rw[hG];refine⟨λz=>?_,λz=>?_⟩<;>(refine ρ (τ.mp z) λch h1 h2=>?_)<;>have:=Nat.isDigit_of_mem_toDigits (by decide) (by decide) h1<;>(unfold Char.isDigit at this;simp only[Ϣ,wn,az'] at this;have h3:ch.val.toNat=_:=h2;rw[h3] at this;exact absurd this (by decide))
def DW (n:Nat):gd (ϝ (n:Int))=ϝ (n:Int):=by
 obtain⟨h1,h2⟩:=BY n;unfold gd;generalize ϝ (n:Int)=l at h1 h2
 induction l with
 | nil=>rfl
 | cons x l ih=>
  rw[Do,ih (λz=>h1 (ε _ z)) (λz=>h2 (ε _ z))];unfold YC;rw[Υ (λz=>h2 (by rw[z];exact .head _)),Υ (λz=>h1 (by rw[z];exact .head _))];rfl
end
section
open PySem
def tL {F:α->β->Prop}{b:β}:∀{as:List α} {bs:List β},Paired F as (bs++[b])->∃as' a,as=as'++[a]/\F a b
 | _,[],.cons h .nil=>(gl ([]) _ rfl h)
 | _,_::bs,.cons (a:=x) _ t=>by
  (refine RJ (tL (bs:=bs) t) λas' a Τ h=>?_;subst Τ);exact(gl (x::as') a rfl h)
end
section
open PySem PySem.Spec PyProof.Rows
abbrev yeT:List Nat:=[121,101,115]
def DX {r:Nat}(h:r < 10 ^ 10):Prs reT [ϝ (r:Int),[48],[49,48,48,48],yeT] [.int (r:Int),.int 0,.int 1000,.bl true]:=by
 refine(Jw ([110,110,110,121]) (.inr (.inr (.inr (.inl ⟨s!"d",rfl⟩)))) rfl rfl (λi f t u h1 h2 h3=>?_))
 match i with
 | 0=>cases h1;cases h2;cases h3;exact .inl ⟨rfl,(ύ r h rfl rfl)⟩
 | 1=>cases h1;cases h2;cases h3;exact .inl ⟨rfl,(ύ 0 (by decide) (s!"d") rfl)⟩
 | 2=>cases h1;cases h2;cases h3;exact .inl ⟨rfl,(ύ 1000 (by decide) (s!"d") rfl)⟩
 | 3=>cases h1;cases h2;cases h3;exact .inr (.inr (.inl ⟨rfl,s!"d",rfl⟩))
 | i+4=>cases h1
def j4 {r:Nat}(h:r < 10 ^ 10):Prs NQ [ϝ (r:Int)] [.int (r:Int)]:=uU (.inr (.inr (.inr (.inr ⟨s!"d",rfl⟩)))) (.inl ⟨rfl,(ύ r h rfl rfl)⟩)
def BZ {f:List KO}(ok:∀x∈f,YI x)(hl:f.length<=100):∀x∈R0::(MK f).flatMap OC,x.length<=1000:=λx hx=>by
 rcases Θ.mp hx with rfl | hx
 ·decide
 (refine ρ (KY.mp hx) λy hy hx=>?_);unfold MK at hy;(refine ρ (τ.mp hy) λi hi Τ=>?_;subst Τ);have hi':=LU.mp hi;have o:=ok (f.getD i ([],none)) (by rw[υ,ξ hi'];exact Jk hi');simp only[OC,Θ,Ρ,ϛ] at hx;rcases hx with rfl | rfl | rfl
 ·have:=bC (n:=i) (by omega);omega
 ·have:=o.1.len.1;omega
 ·have:=(qJ o.2.1 o.2.2).1;omega
def mE {r:Nat}(h:r < 10 ^ 12){l:List (List Nat)}(hl:∀x∈l,x.length<=1000):∀x∈ϝ (r:Int)::l,x.length<=1000:=λx hx=>by
 rcases Θ.mp hx with rfl | hx
 ·have:=bC h;omega
 ·exact hl x hx
end
section
open PySem
def G8 (n:Nat):[111,107,59]++ϝ (n:Int)=jn [R0,ϝ (n:Int)]:=by
 show _=gd R0++[59]++gd (ϝ (n:Int));rw[DW];rfl
end
section
open PySem PySem.Spec PyProof.Rows
abbrev UD (c:Int):Jn:=⟨lv c 3,1,Α "stream"⟩
def Ag (c:Int):JK [UD c]:=by
 have h1:=mC c 3;have h2:=(dJ c).1;refine⟨by show 1<=1;decide,by show 1<=6;decide,λx hx=>?_,Ϯ.mpr ⟨Ρ,.nil⟩⟩;rw[Μ.mp hx];exact⟨⟨by show 1<=(lv c 3).length;omega,by show(lv c 3).length<=12;omega,jB (by decide)⟩,⟨by show 1<=1;decide,by show 1<=9;decide⟩,.inr rfl⟩
def Ff (c:Int):[V.str (Α "cellar"),.str (S (lv c 3)),.str (Α "1"),.str (Α "stream")]=tx (RA::[UD c].flatMap N1):=by
 rw[show Α "cellar"=S RA by decide +kernel,show Α "1"=S (ϝ ((1:Nat):Int)) by decide +kernel,show Α "stream"=S (Α "stream").cps.toList from xY _];rfl
def yJ (c:Int):∀x∈RA::[UD c].flatMap N1,x.length<=1000:=λx hx=>by
 rcases Θ.mp hx with rfl | hx
 ·decide
 ·have hx:x∈[lv c 3,ϝ ((1:Nat):Int),(Α "stream").cps.toList]:=by simpa [N1,UD] using hx
  rcases Θ.mp hx with rfl | hx
  ·exact dN
  ·rcases Θ.mp hx with rfl | hx
   ·decide +kernel
   ·rw[Μ.mp hx];decide +kernel
def nx0 {R:TS}{D:Ends}{σ:L2.St}(h:R=tR)(k:tR D σ H):R D σ H:=h▸k
def nx1 {R t1:TS}{D:Ends}{σ:L2.St}(h:R=O5 t1 tR)(k:∀R,R=tR->O5 t1 R D σ H):R D σ H:=h▸k _ rfl
def nx2 {R t1 t2:TS}{D:Ends}{σ:L2.St}(h:R=O5 t1 (O5 t2 tR))(k:∀R,R=tR->O5 t1 (O5 t2 R) D σ H):R D σ H:=h▸k _ rfl
abbrev DY:Sp:=λvs H Q _=>∃(A B p:Ε),vs=[.ref A,.ref B,.ref p]/\H p=some (.lst [])/\Q .cr H
abbrev wX (K:Ξ):Sp:=λvs H Q _=>∃(q B p:Ε) (e0:List Int),vs=[.ref q,.ref B,.ref p]/\GT K H q (e0.map V.int)/\H B=some (.lst [])/\H p=some (.lst [])/\∀A H',H A=none->Χ H H'->H' A=some (.lst (e0.map V.int))->Q (.ref A) H'
abbrev yK (K:Ξ):Sp:=λvs H Q _=>∃(q p:Ε) (e0:List Int),vs=[.ref q,.ref p]/\GT K H q (e0.map V.int)/\H p=some (.lst [])/\∀A H',H A=none->Χ H H'->H' A=some (.lst (e0.map V.int))->Q (.ref A) H'
def n1 {x y:Ε}(h:x≠y):x∉[y]:=λm=>h (Μ.mp m)
def n2 {x y:Ε}(h:x≠y/\x≠z):x∉[y,z]:=λm=>(Θ.mp m).elim h.1 λm=>h.2 (Μ.mp m)
structure FT (K:Ξ)(mg:Str->Option Η)(x:Str)(st:ϙ)(ps:List Str)(f:Ε)(d:Jr):Prop where
 F:WG K x x st f d
 b:Binds K d ps []
 m:mg x=some (.ref f)
structure FM (K:Ξ)(C:Ε)(x q:Str)(st:ϙ)(ps:List Str)(f:Ε)(d:Jr):Prop where
 F:WG K x q st f d
 b:Binds K d ps []
 m:U5 K C x f
structure FI (K:Ξ)(q:Str)(st:ϙ)(ps:List Str)(f:Ε)(d:Jr):Prop where
 F:WG K "__init__" q st f d
 b:Binds K d ps []
section
variable {K:Ξ} {h:ϟ} {q:Str} {st:ϙ} {ps:List Str} {kV:Η}
def kK (l:K.lookup f=some ⟨oc,od,.func (JO "__init__" q (IR st) (Da st) (Λ st) .none kV doc pm an Ϲ ct),SR⟩)(c:NK K Ϲ q=true)(k:Jg K (.ref f)=true)
  (e:∀(kV doc pm:Η) (an:Option Ε) (Ϲ ct:Η) (us:List Η),us.length=ps.length->bindArgs (JO "__init__" q (IR st) (Da st) (Λ st) .none kV doc pm an Ϲ ct) ⟨us,[]⟩=pure (ps.zip us)) :
  FI K q st ps f (JO "__init__" q (IR st) (Da st) (Λ st) .none kV doc pm an Ϲ ct):=⟨nF l c k,(nF l c k).binds e⟩
def cD (a:GE K (.ref C) x=some (some (.ref f)))(i:SJ K (.ref f)=true)(l:K.lookup f=some ⟨oc,od,.func (JO x q (IR st) (Da st) (Λ st) .none kV doc pm an Ϲ ct),SR⟩)(c:NK K Ϲ q=true)(k:Jg K (.ref f)=true)
  (e:∀(kV doc pm:Η) (an:Option Ε) (Ϲ ct:Η) (us:List Η),us.length=ps.length->bindArgs (JO x q (IR st) (Da st) (Λ st) .none kV doc pm an Ϲ ct) ⟨us,[]⟩=pure (ps.zip us)) :
  FM K C x q st ps f (JO x q (IR st) (Da st) (Λ st) .none kV doc pm an Ϲ ct):=⟨nF l c k,(nF l c k).binds e,a,i,k⟩
def aI (X:K.In h)(G:h.Ns mainGlobals mg)(a:W.nsIn K mainGlobals x=some (some (.ref f)))(l:K.lookup f=some ⟨oc,od,.func (JO x x (IR st) (Da st) (Λ st) .none kV doc pm an Ϲ ct),SR⟩)(c:NK K Ϲ x=true)(k:Jg K (.ref f)=true)
  (e:∀(kV doc pm:Η) (an:Option Ε) (Ϲ ct:Η) (us:List Η),us.length=ps.length->bindArgs (JO x x (IR st) (Da st) (Λ st) .none kV doc pm an Ϲ ct) ⟨us,[]⟩=pure (ps.zip us)) :
  FT K mg x st ps f (JO x x (IR st) (Da st) (Λ st) .none kV doc pm an Ϲ ct):=⟨nF l c k,(nF l c k).binds e,rc X G a⟩
end
noncomputable abbrev Em (K:Ξ)(C D:Ε)(b:Bool):Prop:=UP K (.ref C) (.ref D)=some b
noncomputable abbrev Xi (K:Ξ)(C f:Ε):Prop:=GE K (.ref C) "__init__"=some (some (.ref f))
noncomputable abbrev Xf (K:Ξ)(f:Ε):Prop:=SJ K (.ref f)=true
def k9 {K:Ξ}{td:Option Ε}{tn:Nat}{vs:List V}{us:List Η}(r:Vals vs us)(hn:us.length<=sizeLine)(l:K.lookup a=some ⟨.type "tuple",td,.seq us.toArray tn,tsl⟩):∀H,JZ K H a vs:=λ_=>.inr (IN _ _ _ l rfl rfl hn r)
abbrev afi:V->Tok->Η
 | .cr,_=>.none
 | .bl b,_=>.bool b
 | .int i,t=>.int i t
 | .str x,t=>.str x t
 | .VW b,t=>.bytes b t
 | .Zz b,t=>.float b t
 | .ref a,_=>.ref a
 | .ty n,_=>.type n
def Mc {v:V}{t:Tok}:RelV v (afi v t):=by cases v<;>first | rfl | exact⟨t,rfl⟩
def i6 {v:V}{t:Tok}(h:mg x=some (afi v t)):Km mg x v:=(Κ _ h Mc)
noncomputable abbrev iT (z:Int){t:Tok}:Η:=.int z t
def DZ {w:IH}{K:Ξ}{F:List (Str×V)}{p:Ε}{es:Array Lw}{ep:Nat}(g:mg x=some (.ref p))(l:K.lookup p=some { cls:=.type "dict",dict:=none,data:=.dict es ep,slots:=#[] })
  (k:JV w.params es.toList) (d:∀kv∈F,∃u,Tw es kv.1=some u/\RelV kv.2 u):Xd w K mg x F:=(lc _ _ _ g l k d)
def FF {K:Ξ}{td:Option Ε}{tn:Nat}{vs:List V}{us:List Η}(g:mg x=some (.ref a))(r:Vals vs us)(hn:us.length<=sizeLine)(l:K.lookup a=some ⟨.type "tuple",td,.seq us.toArray tn,tsl⟩):Uv K mg x vs:=(Κ _ g (k9 r hn l))
def el8 {p:List α->Prop}(h:∀a b c d e f g i,p [a,b,c,d,e,f,g,i]):∀us:List α,us.length=8->p us
 | [a,b,c,d,e,f,g,i],_=>h a b c d e f g i
end
end L2
namespace K84
open PySem PySem.Spec PyProof.Rows L2
abbrev top (i:Nat):ϙ:=PySem.Challenge.pw_lettercell_k84_letters_at_a_desk.main.body.getD i (.Pass ⟨0,0,0,0⟩)
noncomputable abbrev fX:ϙ:=inClass (top 7) 0
def lg:η ["self","name"] ["self","name"] (Λ fX):=s!"f"
noncomputable abbrev tM:ϙ:=top 28
def yO:η ["text"] ["text"] (Λ tM):=s!"f"
noncomputable abbrev oF:ϙ:=top 29
def eQ:η ["text","pieces","plain","piece"] ["text"] (Λ oF):=s!"f"
noncomputable abbrev qP:ϙ:=top 30
def B1:η ["fields"] ["fields"] (Λ qP):=s!"f"
noncomputable abbrev qQ:ϙ:=top 31
def B5:η ["text"] ["text"] (Λ qQ):=s!"f"
noncomputable abbrev wY:ϙ:=top 32
def j5:η ["text","c","sign"] ["text"] (Λ wY):=s!"f"
noncomputable abbrev tN:ϙ:=top 33
def qR:η ["number","body","figures"] ["number","body"] (Λ tN):=s!"f"
noncomputable abbrev oG:ϙ:=top 38
def uV:η ["word"] ["word"] (Λ oG):=s!"f"
noncomputable abbrev tO:ϙ:=top 39
def yP:η ["text"] ["text"] (Λ tO):=s!"f"
noncomputable abbrev mI:ϙ:=top 40
noncomputable abbrev tP:ϙ:=top 42
def yQ:η ["part","value"] ["part","value"] (Λ tP):=s!"f"
noncomputable abbrev qS:ϙ:=top 44
def fY:η ["name","values","event","part","value"] ["name","values"] (Λ qS):=s!"f"
noncomputable abbrev lh:ϙ:=top 45
def oH:η ["event","name"] ["event"] (Λ lh):=s!"f"
noncomputable abbrev fi:ϙ:=top 47
def bA:η ["shelves","texts","name","many","kind"] ["shelves"] (Λ fi):=s!"f"
noncomputable abbrev jC:ϙ:=top 49
def o7:η ["state","event"] ["state","event"] (Λ jC):=s!"f"
noncomputable abbrev kL:ϙ:=top 50
def fj:η ["state","event","row","place"] ["state","event"] (Λ kL):=s!"f"
noncomputable abbrev wZ:ϙ:=top 71
def tQ:η ["state","event","happening"] ["state","event"] (Λ wZ):=s!"f"
noncomputable abbrev tS:ϙ:=top 78
def yR:η ["thing","least","most"] ["thing","least","most"] (Λ tS):=s!"f"
noncomputable abbrev tT:ϙ:=top 79
def yS:η ["sign"] ["sign"] (Λ tT):=s!"f"
noncomputable abbrev nR:ϙ:=top 80
def yT:η ["thing"] ["thing"] (Λ nR):=s!"f"
noncomputable abbrev qT:ϙ:=top 81
def B6:η ["thing"] ["thing"] (Λ qT):=s!"f"
noncomputable abbrev nS:ϙ:=top 82
def yU:η ["thing"] ["thing"] (Λ nS):=s!"f"
noncomputable abbrev qU:ϙ:=top 83
def w8:η ["thing","low","high"] ["thing","low","high"] (Λ qU):=s!"f"
noncomputable abbrev xa:ϙ:=top 84
def j6:η ["key","h","sign"] ["key"] (Λ xa):=s!"f"
noncomputable abbrev xb:ϙ:=top 85
def B8:η ["key","many"] ["key","many"] (Λ xb):=s!"f"
noncomputable abbrev gK:ϙ:=top 92
def qV:η ["names"] ["names"] (Λ gK):=s!"f"
noncomputable abbrev fk:ϙ:=top 93
def o9:η ["bounded"] ["bounded"] (Λ fk):=s!"f"
noncomputable abbrev jD:ϙ:=top 94
def pd:η ["key","word"] ["key","word"] (Λ jD):=s!"f"
noncomputable abbrev kM:ϙ:=top 95
def qW:η ["thing"] ["thing"] (Λ kM):=s!"f"
noncomputable abbrev kN:ϙ:=top 96
def qX:η ["state","row"] ["state","row"] (Λ kN):=s!"f"
noncomputable abbrev oI:ϙ:=top 100
def uW:η ["state","row"] ["state","row"] (Λ oI):=s!"f"
noncomputable abbrev qY:ϙ:=top 105
def fZ:η ["state","sender","events","deed","life"] ["state","sender"] (Λ qY):=s!"f"
noncomputable abbrev tU:ϙ:=top 106
def iM:η ["state","sender","life","number","shelf","letter","deed","row","known","place"] ["state","sender","life","number","shelf","letter","deed"] (Λ tU):=s!"f"
noncomputable abbrev oJ:ϙ:=top 124
def mJ:η ["state","row","start","most","whole","kept"] ["state","row","start","most","whole"] (Λ oJ):=s!"f"
noncomputable abbrev i7:ϙ:=inClass (top 126) 0
def nU:η ["self"] ["self"] (Λ i7):=s!"f"
noncomputable abbrev mK:ϙ:=inClass (top 126) 1
def cO:η ["self","bodies","last","k","body","sign"] ["self","bodies"] (Λ mK):=s!"f"
noncomputable abbrev ib:ϙ:=inClass (top 140) 0
def mL:η ["self"] ["self"] (Λ ib):=s!"f"
noncomputable abbrev i8:ϙ:=inClass (top 140) 4
def nV:η ["self","sender"] ["self","sender"] (Λ i8):=s!"f"
noncomputable abbrev gL:ϙ:=inClass (top 140) 16
def qZ:η ["self"] ["self"] (Λ gL):=s!"f"
noncomputable abbrev mN:ϙ:=top 145
def gM:η ["ends","paper","pairs","number","pair","other"] ["ends","paper","pairs"] (Λ mN):=s!"f"
noncomputable abbrev tV:ϙ:=top 146
def iN:η ["ends","paper","pairs","now","many"] ["ends","paper","pairs"] (Λ tV):=s!"f"
noncomputable abbrev xf:ϙ:=top 147
def B9:η ["ends","pairs"] ["ends","pairs"] (Λ xf):=s!"f"
noncomputable abbrev jE:ϙ:=inClass (top 154) 0
def pe:η ["self"] ["self"] (Λ jE):=s!"f"
noncomputable abbrev tW:ϙ:=inClass (top 154) 1
def rf:η ["self","key","word","deed","place"] ["self","key","word","deed"] (Λ tW):=s!"f"
noncomputable abbrev xg:ϙ:=inClass (top 154) 2
def Ca:η ["self","place"] ["self","place"] (Λ xg):=s!"f"
noncomputable abbrev rg:ϙ:=inClass (top 154) 3
def gb:η ["self","start","limit","most","found","place","letter"] ["self","start","limit","most"] (Λ rg):=s!"f"
noncomputable abbrev tX:ϙ:=top 155
def yW:η ["thing"] ["thing"] (Λ tX):=s!"f"
noncomputable abbrev rh:ϙ:=top 156
def xi:η ["thing"] ["thing"] (Λ rh):=s!"f"
noncomputable abbrev dY:ϙ:=top 157
def rj:η ["thing"] ["thing"] (Λ dY):=s!"f"
noncomputable abbrev fq:ϙ:=inClass (top 158) 0
def kq:η ["self","shelves"] ["self","shelves"] (Λ fq):=s!"f"
noncomputable abbrev jF:ϙ:=inClass (top 158) 1
def pj:η ["self"] ["self"] (Λ jF):=s!"f"
noncomputable abbrev cL:ϙ:=inClass (top 158) 2
def jG:η ["self"] ["self"] (Λ cL):=s!"f"
noncomputable abbrev gj:ϙ:=inClass (top 158) 3
def b6:η ["self","name","start","shelf"] ["self","name"] (Λ gj):=s!"f"
noncomputable abbrev d9:ϙ:=inClass (top 158) 4
def bG:η ["self","row","end","shelf"] ["self","row"] (Λ d9):=s!"f"
noncomputable abbrev fu:ϙ:=inClass (top 158) 5
def ku:η ["self","row"] ["self","row"] (Λ fu):=s!"f"
noncomputable abbrev gk:ϙ:=inClass (top 158) 7
def fw:η ["self","name","key","rows"] ["self","name","key"] (Λ gk):=s!"f"
noncomputable abbrev fz:ϙ:=inClass (top 161) 0
def kz:η ["self"] ["self"] (Λ fz):=s!"f"
noncomputable abbrev jH:ϙ:=inClass (top 161) 1
def i9:η ["self","name","life"] ["self","name"] (Λ jH):=s!"f"
noncomputable abbrev jI:ϙ:=inClass (top 161) 2
def pk:η ["self","name"] ["self","name"] (Λ jI):=s!"f"
noncomputable abbrev ja:ϙ:=inClass (top 161) 3
def nX:η ["self","name","life"] ["self","name","life"] (Λ ja):=s!"f"
noncomputable abbrev gm:ϙ:=inClass (top 161) 4
def b9:η ["self","name","number","due","kept","oldest"] ["self","name","number"] (Λ gm):=s!"f"
noncomputable abbrev jJ:ϙ:=inClass (top 161) 5
def jb:η ["self","name","number","row","place","due"] ["self","name","number","row","place"] (Λ jJ):=s!"f"
noncomputable abbrev gp:ϙ:=inClass (top 161) 6
def lj:η ["self","name"] ["self","name"] (Λ gp):=s!"f"
noncomputable abbrev gq:ϙ:=inClass (top 161) 7
def ll:η ["self","name"] ["self","name"] (Λ gq):=s!"f"
noncomputable abbrev fA:ϙ:=inClass (top 163) 0
def kA:η ["self"] ["self"] (Λ fA):=s!"f"
noncomputable abbrev dO:ϙ:=inClass (top 166) 0
def mO:η ["self","shelves"] ["self","shelves"] (Λ dO):=s!"f"
noncomputable abbrev dP:ϙ:=inClass (top 166) 4
def mP:η ["self","row"] ["self","row"] (Λ dP):=s!"f"
noncomputable abbrev gs:ϙ:=inClass (top 168) 0
def lq:η ["self","shelves"] ["self","shelves"] (Λ gs):=s!"f"
noncomputable abbrev iO:ϙ:=inClass (top 168) 1
def gN:η ["self","asked","events","event"] ["self","asked"] (Λ iO):=s!"f"
noncomputable abbrev kO:ϙ:=inClass (top 168) 2
def rm:η ["self","sender"] ["self","sender"] (Λ kO):=s!"f"
noncomputable abbrev mQ:ϙ:=inClass (top 168) 3
def sr:η ["self","sender","life","number","shelf","key","word","deed"] ["self","sender","life","number","shelf","key","word","deed"] (Λ mQ):=s!"f"
noncomputable abbrev kP:ϙ:=inClass (top 168) 22
def rn:η ["self","row","start","most","whole"] ["self","row","start","most","whole"] (Λ kP):=s!"f"
noncomputable abbrev gu:ϙ:=inClass (top 168) 23
def lu:η ["self","row"] ["self","row"] (Λ gu):=s!"f"
noncomputable abbrev jK:ϙ:=top 183
def uZ:η ["text"] ["text"] (Λ jK):=s!"f"
noncomputable abbrev mR:ϙ:=top 184
def su:η ["text"] ["text"] (Λ mR):=s!"f"
noncomputable abbrev rA:ϙ:=top 185
def xj:η ["text"] ["text"] (Λ rA):=s!"f"
noncomputable abbrev nY:ϙ:=top 186
def yX:η ["told"] ["told"] (Λ nY):=s!"f"
noncomputable abbrev jL:ϙ:=top 187
def cn:η ["letters","texts","place","key","word"] ["letters"] (Λ jL):=s!"f"
noncomputable abbrev oK:ϙ:=top 189
def u0:η ["cellar","things"] ["cellar","things"] (Λ oK):=s!"f"
noncomputable abbrev rC:ϙ:=top 190
def xk:η ["cellar","things"] ["cellar","things"] (Λ rC):=s!"f"
noncomputable abbrev oM:ϙ:=top 210
def u3:η ["cellar","things"] ["cellar","things"] (Λ oM):=s!"f"
noncomputable abbrev mS:ϙ:=top 211
def sv:η ["cellar","things"] ["cellar","things"] (Λ mS):=s!"f"
noncomputable abbrev rD:ϙ:=top 222
def xl:η ["name","many"] ["name","many"] (Λ rD):=s!"f"
noncomputable abbrev rE:ϙ:=top 223
def xm:η ["form","text"] ["form","text"] (Λ rE):=s!"f"
noncomputable abbrev jM:ϙ:=top 224
def mT:η ["name","texts","forms"] ["name","texts"] (Λ jM):=s!"f"
noncomputable abbrev iP:ϙ:=top 225
def sy:η ["things"] ["things"] (Λ iP):=s!"f"
noncomputable abbrev tY:ϙ:=top 226
def lz:η ["name","fields","texts","field"] ["name","fields"] (Λ tY):=s!"f"
noncomputable abbrev jd:ϙ:=inClass (top 227) 0
def nZ:η ["self"] ["self"] (Λ jd):=s!"f"
noncomputable abbrev oN:ϙ:=inClass (top 227) 1
def dj:η ["self","text","texts","name","things","up","tell"] ["self","text"] (Λ oN):=s!"f"
noncomputable abbrev rF:ϙ:=inClass (top 227) 2
def oO:η ["self","text","e"] ["self","text"] (Λ rF):=s!"f"
noncomputable abbrev oP:ϙ:=top 229
def u4:η ["_law_script","_law_k"] ["_law_script","_law_k"] (Λ oP):=s!"f"
noncomputable abbrev tZ:ϙ:=top 230
def rG:η ["_law_cell","_law_k","_law_number"] ["_law_cell","_law_k"] (Λ tZ):=s!"f"
noncomputable abbrev oQ:ϙ:=top 231
def iQ:η ["_law_number","_law_some"] ["_law_number"] (Λ oQ):=s!"f"
noncomputable abbrev n6:ϙ:=top 232
def lA:η ["_law_cell","_law_base","_law_at"] ["_law_cell"] (Λ n6):=s!"f"
noncomputable abbrev n9:ϙ:=top 233
def yY:η ["_law_text"] ["_law_text"] (Λ n9):=s!"f"
noncomputable abbrev lB:ϙ:=top 234
def xp:η ["_law_parts"] ["_law_parts"] (Λ lB):=s!"f"
noncomputable abbrev oR:ϙ:=top 235
def dm:η ["_law_cell","_law_start","_law_size","_law_found","_law_k"] ["_law_cell","_law_start","_law_size"] (Λ oR):=s!"f"
noncomputable abbrev rH:ϙ:=top 236
def gv:η ["_law_key","_law_many","_law_low","_law_sign"] ["_law_key","_law_many"] (Λ rH):=s!"f"
noncomputable abbrev oS:ϙ:=top 237
def u5:η ["_law_cell"] ["_law_cell"] (Λ oS):=s!"f"
noncomputable abbrev Ai:ϙ:=top 238
def fB:η ["_law_desk","_law_kept","_law_cell","_law_at","_law_key","_law_word","_law_row","_law_place","_law_request"] ["_law_desk","_law_kept","_law_cell"] (Λ Ai):=s!"f"
noncomputable abbrev xq:ϙ:=top 239
def t6:η ["_law_desk","_law_request","_law_due","_law_found"] ["_law_desk","_law_request","_law_due"] (Λ xq):=s!"f"
noncomputable abbrev xr:ϙ:=top 240
def j7:η ["_law_desk","_law_kept","_law_request","_law_at"] ["_law_desk","_law_kept"] (Λ xr):=s!"f"
noncomputable abbrev D1:ϙ:=top 241
def fC:η ["_law_script","_law_cell","_law_many","_law_kept","_law_desk","_law_number","_law_row","_law_due","_law_letter"] ["_law_script"] (Λ D1):=s!"f"
set_option genInjectivity false in
structure Adr where
 {Qj AC bn KN IS ln Kn IZ KG ww ML JC Qk QF R9 Vm Vn TC QG TD Ps TF Sa Sb LH Ko KS Vo TH TJ TK Vp TL Sc Vq Vr OI N2 N3 OJ OK QH Sd TM QI Lh Pt KP Nt OL Pw TN Vs LI Ql Vt Se TQ Sf OM Kb N4 Ll Mj K7 LJ Ml Kc N5 N6 Nu Mm N7 Mn Mo Kd KQ MZ Kp Px ON Nm MM Mp QJ Py Sg TR N8 Mq Nn Mr Lu Sh Sj QK Pz TU Li QL Sk QM TV QN TW TY Sl QO Sm QP WV Vu Vv aaX JL Jp AT IA Ir IC:Ε}
 {Mt Qm QQ Sn Vw Vx TZ QR T0 PB T3 So Sq LK N9 OO Vy T4 T5 T6 Vz T7 Sr VA VB OP N' Oa OQ OR QS Ss T8 QT Nv PD M0 Nw OS PF T9 VC Ob Qn VD Su T' Sv OU LL Oc Lm Mu K9 LM Mv LN Od Oe Nx Mw Of Mx My LO M3 M4 Mz PJ OV No MN MA QU PK Sw Ua Og QV Sx QW PL Sy Sz QX PM Ub Ny QY SA QZ Uc Q0 Ud Ue SD Q1 SE Q2 WW VE VF YL:Jr}
 {Xl UE Td:List Η}
structure Txt (w:IH)(K:Ξ)(mg:Str->Option Η)(a:Adr):Prop where
 yZ:mg "Senders"=some (.ref a.bn)
 y4:mg "Readers"=some (.ref a.KN)
 D3:mg "State"=some (.ref a.IS)
 Aj:mg "Desk"=some (.ref a.ln)
 D4:mg "Deeds"=some (.ref a.Kn)
 Cb:mg "Cellar"=some (.ref a.IZ)
 G9:mg "Row"=some (.ref a.KG)
 y6:mg "Shelves"=some (.ref a.ww)
 Fh:mg "Book"=some (.ref a.ML)
 y8:mg "BadWord"=some (.ref a.Qj)
 og:mg "NoSuch"=some (.ref a.AC)
 Cc:Mk K a.bn a.Kc
 Cd:Mk K a.KN a.Kd
 Fi:Mk K a.IS a.KQ
 D5:Mk K a.ln a.Li
 Fj:Mk K a.Kn a.KP
 D6:Mk K a.IZ a.Kp
 HR:Mk K a.KG a.LI
 Ce:Mk K a.ww a.Kb
 Ha:Mk K a.ML a.Lh
 t7:Xi K a.AC a.JC
 t8:Xf K a.JC
 dn:FI K "NoSuch.__init__" fX ["self","name"] a.JC a.Mt
 j8:FT K mg "guarded" tM ["text"] a.Qk a.Qm
 gw:FT K mg "unguarded" oF ["text"] a.QF a.QQ
 bD:FT K mg "joined" qP ["fields"] a.R9 a.Sn
 mU:FT K mg "parted" qQ ["text"] a.Vm a.Vw
 mV:FT K mg "sum_of" wY ["text"] a.Vn a.Vx
 j9:FT K mg "line_of" tN ["number","body"] a.TC a.TZ
 cG:FT K mg "word_text" oG ["word"] a.QG a.QR
 ka:FT K mg "word_in" tO ["text"] a.TD a.T0
 iR:FT K mg "owner_text" mI ["owner"] a.Ps a.PB
 kc:FT K mg "text_of" tP ["part","value"] a.TF a.T3
 bM:FT K mg "event_of" qS ["name","values"] a.Sa a.So
 iS:FT K mg "body_for" lh ["event"] a.Sb a.Sq
 cf:FT K mg "body_for_shelves" fi ["shelves"] a.LH a.LK
 fD:FT K mg "hail_happens" jC ["state","event"] a.Ko a.N9
 gO:FT K mg "put_happens" kL ["state","event"] a.KS a.OO
 mW:FT K mg "happen" wZ ["state","event"] a.Vo a.Vy
 cx:FT K mg "is_text" tS ["thing","least","most"] a.TH a.T4
 dQ:FT K mg "is_sign" tT ["sign"] a.TJ a.T5
 dR:FT K mg "is_name" nR ["thing"] a.TK a.T6
 mX:FT K mg "is_key" qT ["thing"] a.Vp a.Vz
 ke:FT K mg "is_word" nS ["thing"] a.TL a.T7
 cT:FT K mg "is_whole" qU ["thing","low","high"] a.Sc a.Sr
 mY:FT K mg "spread" xa ["key"] a.Vq a.VA
 mZ:FT K mg "row_in" xb ["key","many"] a.Vr a.VB
 bN:FT K mg "check_names" gK ["names"] a.OI a.OP
 aX:FT K mg "check_wholes" fk ["bounded"] a.N2 a.N'
 dq:FT K mg "check_letter" jD ["key","word"] a.N3 a.Oa
 dZ:FT K mg "check_truth" kM ["thing"] a.OJ a.OQ
 d3:FT K mg "check_there" kN ["state","row"] a.OK a.OR
 cH:FT K mg "asked_row" oI ["state","row"] a.QH a.QS
 iU:FT K mg "hail_act" qY ["state","sender"] a.Sd a.Ss
 kf:FT K mg "put_act" tU ["state","sender","life","number","shelf","letter","deed"] a.TM a.T8
 gy:FT K mg "read_from" oJ ["state","row","start","most","whole"] a.QI a.QT
 je:FI K "Book.__init__" i7 ["self"] a.Lh a.Nv
 du:FM K a.ML "write" "Book.write" mK ["self","bodies"] a.Pt a.PD
 ic:FI K "Deeds.__init__" ib ["self"] a.KP a.M0
 cp:FM K a.Kn "open_of" "Deeds.open_of" i8 ["self","sender"] a.Nt a.Nw
 gP:FM K a.Kn "pairs" "Deeds.pairs" gL ["self"] a.OL a.OS
 eR:FT K mg "lower_once" mN ["ends","paper","pairs"] a.Pw a.PF
 kg:FT K mg "lowered" tV ["ends","paper","pairs"] a.TN a.T9
 m3:FT K mg "fronts" xf ["ends","pairs"] a.Vs a.VC
 jN:FI K "Row.__init__" jE ["self"] a.LI a.Ob
 Cf:U5 K a.KG "add" a.Ql
 Cg:Qc K "add" "Row.add" tW a.Ql a.Qn a.Xl
 Ch:Binds K a.Qn ["self","key","word","deed"] []
 rJ:FM K a.KG "at" "Row.at" xg ["self","place"] a.Vt a.VD
 lC:FM K a.KG "seen" "Row.seen" rg ["self","start","limit","most"] a.Se a.Su
 kh:FT K mg "is_kind" tX ["thing"] a.TQ a.T'
 iV:FT K mg "is_shelf" rh ["thing"] a.Sf a.Sv
 d4:FT K mg "are_shelves" dY ["thing"] a.OM a.OU
 fE:FI K "Shelves.__init__" fq ["self","shelves"] a.Kb a.LL
 fF:FM K a.ww "told" "Shelves.told" jF ["self"] a.N4 a.Oc
 cM:FM K a.ww "many_rows" "Shelves.many_rows" cL ["self"] a.Ll a.Lm
 dv:FM K a.ww "rows_of" "Shelves.rows_of" gj ["self","name"] a.Mj a.Mu
 cI:FM K a.ww "shelf_with" "Shelves.shelf_with" d9 ["self","row"] a.K7 a.K9
 cU:FM K a.ww "shelf_at" "Shelves.shelf_at" fu ["self","row"] a.LJ a.LM
 dw:FM K a.ww "row_for" "Shelves.row_for" gk ["self","name","key"] a.Ml a.Mv
 fG:FI K "Senders.__init__" fz ["self"] a.Kc a.LN
 fH:FM K a.bn "hail" "Senders.hail" jH ["self","name"] a.N5 a.Od
 bg:FM K a.bn "need" "Senders.need" jI ["self","name"] a.N6 a.Oe
 eE:FM K a.bn "allow" "Senders.allow" ja ["self","name","life"] a.Nu a.Nx
 dy:FM K a.bn "spot_of" "Senders.spot_of" gm ["self","name","number"] a.Mm a.Mw
 fI:FM K a.bn "note" "Senders.note" jJ ["self","name","number","row","place"] a.N7 a.Of
 bK:FM K a.bn "life_of" "Senders.life_of" gp ["self","name"] a.Mn a.Mx
 dz:FM K a.bn "last_of" "Senders.last_of" gq ["self","name"] a.Mo a.My
 fJ:FI K "Readers.__init__" fA ["self"] a.Kd a.LO
 ie:FI K "State.__init__" dO ["self","shelves"] a.KQ a.M3
 bQ:FM K a.IS "front_at" "State.front_at" dP ["self","row"] a.MZ a.M4
 gz:FI K "Cellar.__init__" gs ["self","shelves"] a.Kp a.Mz
 dA:FM K a.IZ "act" "Cellar.act" iO ["self","asked"] a.Px a.PJ
 gQ:FM K a.IZ "hail" "Cellar.hail" kO ["self","sender"] a.ON a.OV
 u6:U5 K a.IZ "put" a.Nm
 u7:Qc K "put" "Cellar.put" mQ a.Nm a.No a.UE
 u9:Binds K a.No ["self","sender","life","number","shelf","key","word","deed"] []
 sC:U5 K a.IZ "read" a.MM
 sD:Qc K "read" "Cellar.read" kP a.MM a.MN a.Td
 sE:Binds K a.MN ["self","row","start","most","whole"] []
 dB:FM K a.IZ "front_of" "Cellar.front_of" gu ["self","row"] a.Mp a.MA
 gA:FT K mg "number_in" jK ["text"] a.QJ a.QU
 eS:FT K mg "asked_word" mR ["text"] a.Py a.PK
 iW:FT K mg "truth_in" rA ["text"] a.Sg a.Sw
 cy:FT K mg "numbers" nY ["told"] a.TR a.Ua
 dC:FT K mg "letters_told" jL ["letters"] a.N8 a.Og
 jO:FT K mg "hail_told" oK ["cellar","things"] a.Mq a.QV
 lD:FT K mg "put_told" rC ["cellar","things"] a.Nn a.Sx
 jP:FT K mg "read_told" oM ["cellar","things"] a.Mr a.QW
 iX:FT K mg "front_told" mS ["cellar","things"] a.Lu a.PL
 iY:FT K mg "forms_of" rD ["name","many"] a.Sh a.Sy
 iZ:FT K mg "thing_in" rE ["form","text"] a.Sj a.Sz
 gB:FT K mg "things_in" jM ["name","texts"] a.QK a.QX
 eT:FT K mg "shelves_of" iP ["things"] a.Pz a.PM
 ki:FT K mg "refused" tY ["name","fields"] a.TU a.Ub
 eF:FI K "Desk.__init__" jd ["self"] a.Li a.Ny
 eB:FM K a.ln "told" "Desk.told" oN ["self","text"] a.QL a.QY
 lE:FM K a.ln "say" "Desk.say" rF ["self","text"] a.Sk a.SA
 gC:FT K mg "_law_cell_at" oP ["_law_script","_law_k"] a.QM a.QZ
 ay:FT K mg "_law_mixed" tZ ["_law_cell","_law_k"] a.TV a.Uc
 gD:FT K mg "_law_sign_by" oQ ["_law_number"] a.QN a.Q0
 kj:FT K mg "_law_names" n6 ["_law_cell"] a.TW a.Ud
 km:FT K mg "_law_field" n9 ["_law_text"] a.TY a.Ue
 bO:FT K mg "_law_joined" lB ["_law_parts"] a.Sl a.SD
 cJ:FT K mg "_law_text_by" oR ["_law_cell","_law_start","_law_size"] a.QO a.Q1
 i0:FT K mg "_law_row_of" rH ["_law_key","_law_many"] a.Sm a.SE
 gE:FT K mg "_law_word_by" oS ["_law_cell"] a.QP a.Q2
 pR:FT K mg "_law_put" Ai ["_law_desk","_law_kept","_law_cell"] a.WV a.WW
 aH:FT K mg "_law_said" xq ["_law_desk","_law_request","_law_due"] a.Vu a.VE
 m5:FT K mg "_law_made" xr ["_law_desk","_law_kept"] a.Vv a.VF
 FG:FT K mg "law" D1 ["_law_script"] a.aaX a.YL
 aE:Tt K a.bn
 bp:wE K a.bn "lasts"
 bR:wE K a.bn "lives"
 bS:wE K a.bn "spots"
 rK:Tt K a.KN
 m6:wE K a.KN "places"
 pA:wE K a.KN "rows"
 aS:Tt K a.IS
 fK:wE K a.IS "deeds"
 pB:wE K a.IS "groups"
 oi:wE K a.IS "readers"
 cP:wE K a.IS "rows"
 ba:wE K a.IS "senders"
 bT:wE K a.IS "shelves"
 sF:wE K a.IS "turn"
 gF:Tt K a.ln
 cK:wE K a.ln "cellar"
 fL:Tt K a.Kn
 kQ:wE K a.Kn "busy"
 jQ:wE K a.Kn "deeds"
 bb:Tt K a.IZ
 fM:wE K a.IZ "book"
 bh:wE K a.IZ "state"
 cN:Tt K a.KG
 va:wE K a.KG "drawn"
 dS:wE K a.KG "end"
 i4:wE K a.KG "first"
 fN:wE K a.KG "letters"
 bE:Tt K a.ww
 bF:wE K a.ww "shelves"
 gG:Tt K a.ML
 cz:wE K a.ML "lines"
 m7:Uy K a.AC
 jR:wE K a.AC "name"
 m8:Em K a.AC a.Qj false
 oj:Em K a.AC a.AC true
 rL:mg "all"=none
 Hb:mg "bool"=none
 oU:mg "enumerate"=none
 D7:mg "int"=none
 cg:mg "isinstance"=none
 cq:mg "len"=none
 om:mg "list"=none
 HS:mg "max"=none
 HU:mg "min"=none
 Ak:mg "ord"=none
 i5:mg "range"=none
 HV:mg "set"=none
 cY:mg "str"=none
 HW:mg "sum"=none
 Fl:mg "tuple"=none
 FH:mg "zip"=none
 Ci:Km mg "FIGURES" (.str "0123456789")
 rM:Km mg "FIGURES_MOST" (.int 10)
 fO:Km mg "GREATEST" (.int 1000000000)
 vc:L2.Xd w K mg "HAPPENINGS" [("hail",.ref a.Ko),("put",.ref a.KS)]
 y9:Km mg "KEY_MOST" (.int 24)
 Fm:Uv K mg "KINDS" [.str "table",.str "stream"]
 rN:Km mg "LETTERS_MOST" (.int 1000)
 xt:Km mg "NAME_MOST" (.int 12)
 vd:Km mg "NAME_SIGNS" (.str "abcdefghijklmnopqrstuvwxyz0123456789")
 Al:L2.Xd w K mg "PARTS" [("hail",.ref a.Jp),("put",.ref a.JL)]
 za:Km mg "PER_CENT" (.int 37)
 lF:L2.Xd w K mg "REQUESTS" [("hail",.ref a.IC),("put",.ref a.Ir),("read",.ref a.IA),("front",.ref a.AT)]
 xu:L2.YJ mg "REQUESTS"
 xv:Km mg "ROWS_MOST" (.int 9)
 rO:Km mg "SHELVES_MOST" (.int 6)
 vf:Km mg "SPOTS_KEPT" (.int 8)
 Fn:Uv K mg "TEXTS" [.str "sender",.str "key",.str "group",.str "shelf",.str "taker",.str "reader"]
 xw:Km mg "WORD_MOST" (.int 200)
 Hc:∀(s:Ι) (u:Η),SK s a.YL ⟨[u],[]⟩ [("_law_script",u)]
 m9:∀H,JZ K H a.JL [.str "sender",.str "number",.str "deed",.str "row",.str "place",.str "key",.str "word"]
 kR:∀H,JZ K H a.Jp [.str "sender",.str "life"]
 dD:∀H,JZ K H a.AT [.str "n",.ref a.Lu]
 ig:∀H,JZ K H a.IA [.str "nnny",.ref a.Mr]
 eG:∀H,JZ K H a.Ir [.str "tnnttwn",.ref a.Nn]
 ij:∀H,JZ K H a.IC [.str "t",.ref a.Mq]
private def rdN:String:="rSw ab' rZf ab5 Hh ahN tCT avb air WK aiY ace wy yu BB yv Hf yb yc vZ we mh oY wg yn yd qr qu yo DB A6 sZ Hg Hi Bq Br Bs Bt Bu yr Bv Bw qy tw GP Bp yq wu GQ vS x8 AW vR DY wX yK BA By Bz aiT Dj x4 Ia sXs abW agn aiK aaP aeG asU asV xNo tAs aeH aiJ Ends.less Yc aeQ wz wA uL yw wB uM uN wC nQ qH BE wD yy afa DK BM wG wH DL Hj yz yA FE E6 E7 HL BN yB BK GV Ec yC aeU afc afb qM wM uQ wN wO uR yF Bo yD oZ sk uK x2 ack ai4 DG qi and_assoc HX Hw Im HY adS adT abO tSl ZG ad4 tBM auR tyV rJoin ahX ahW O5 adP Ya adO adN ahL ahM tC tOp tUn rU rI Qw Ye abo X9 asu X8 abn ast adM Qx Uq Yh aaz aaA tCB tB ZB ahI tOr adK auG adL Wa tIf ahH adI ad1 ahV ail agd abK abL ah' aia aeb Wf abJ ZK aim ain au8 aaK Ys Ib HB Hz aiE asK avq agh gY qj zH zI HZ Df Ie Ig Gy Ih aik abQ gI Ik Il Ii Yo Ij Fq Ey Fs Ez D9 EA Gv Ft Gw Fu EB Fv Fw EC Fx ED Ea EE Fy EF Fz EG Eb EH _root_.Lake.L2.start Yd ahR ahS Int.reduceNeg Int.reducePow Int.reduceLT Int.reduceLE Int.reduceToNat or_true true_or and_self Nat.reducePow auE auF ahF ahG List.length_cons List.length_nil List.replicate List.cons_append List.nil_append List.append_nil Nat.reduceAdd Nat.reduceSub Nat.zero_add Nat.add_zero Nat.sub_self List.getElem?_cons_zero List.getElem?_cons_succ List.set_cons_zero List.set_cons_succ Option.some.injEq V.int.injEq V.bl.injEq V.str.injEq V.ref.injEq V.ty.injEq reduceCtorEq exists_eq exists_eq' not_true_eq_false not_false_eq_true exists_eq_left' exists_eq_left exists_eq_right exists_eq_right' exists_and_left exists_and_right exists_const false_and and_false true_and and_true exists_false or_false false_or List.cons.injEq eq_self_iff_true Bool.false_eq_true Bool.or_self Bool.or_true Bool.true_or Bool.or_false Bool.false_or if_true if_false ite_true ite_false Bool.not_true Bool.not_false decide_eq_true_eq Bool.not_eq_true' decide_eq_false_iff_not"
open Lean in
private def rdM (d:String):MacroM (TSyntax `tactic):=do
 let ds:=d.splitOn " "
 let ls <-((rdN.splitOn " ").filter λs=>!ds.contains s).mapM λs=>`(Parser.Tactic.simpLemma| $(mkIdent s.toName):term)
 let ls:=ls.toArray
 `(tactic| simp(maxSteps:=3000000) only[$ls,*,↓reduceIte,↓$(P5 `tV0):term,↓$(P5 `tVs):term,↓$(P5 `onRr):term,↓$(P5 `onBb):term])
private def rdD:List String:=["Yc aeQ wz wA uL yw wB uM uN wC nQ qH BE wD yy afa DK BM wG wH DL Hj yz yA FE E6 E7 HL BN yB BK GV Ec yC aeU afc afb qM wM uQ wN wO uR yF Bo yD oZ sk uK x2 ack ai4 DG",
"aeQ wz wA uL yw wB uM uN wC nQ qH BE wD yy afa DK BM wG wH DL Hj yz yA FE E6 E7 HL BN yB BK GV Ec yC aeU afc afb qM wM uQ wN wO uR yF Bo yD oZ sk uK x2 ack ai4 DG",
"Yc wB uM uN wC nQ qH BE wD yy afa DK BM wG wH DL Hj yz yA FE E6 E7 HL BN yB BK GV Ec yC aeU afc afb qM wM uQ wN wO uR yF Bo yD oZ sk uK x2 ack ai4 DG",
"Yc nQ qH BE wD yy afa DK BM wG wH DL Hj yz yA FE E6 E7 HL BN yB BK GV Ec yC aeU afc afb qM wM uQ wN wO uR yF Bo yD oZ sk uK x2 ack ai4 DG",
"Yc wD yy afa DK BM wG wH DL Hj yz yA FE E6 E7 HL BN yB BK GV Ec yC aeU afc afb qM wM uQ wN wO uR yF Bo yD oZ sk uK x2 ack ai4 DG",
"Yc afa DK BM wG wH DL Hj yz yA FE E6 E7 HL BN yB BK GV Ec yC aeU afc afb qM wM uQ wN wO uR yF Bo yD oZ sk uK x2 ack ai4 DG",
"GQ Yc yy yz yA FE E6 E7 HL BN yB BK GV Ec yC aeU afc afb qM wM uQ wN wO uR yF Bo yD oZ sk uK x2 ack ai4 DG",
"Yc afa DK BM DL Hj HL BN yB BK GV Ec yC aeU afc afb qM wM uQ wN wO uR yF Bo yD oZ sk uK x2 ack ai4 DG",
"Yc wA nQ qH BE wD yy DL Hj E7 aeU afc afb qM wM uQ wN wO uR yF Bo yD oZ sk uK x2 ack ai4 DG",
"Yc wA nQ qH BE wD yy DL Hj E7 oZ sk uK x2 ack ai4 DG",
"Yc wA nQ qH BE wD yy DL Hj E7 uK x2 ack ai4 DG",
"yu BB yv Hf yb yc vZ we mh oY wg yn yd qr qu yo DB A6 sZ Hg Hi Bq Br Bs Bt Bu yr Bv Bw tw GP Bp yq wu GQ vS x8 AW vR DY wX yK BA By Bz Dj x4 Ia aeQ wz wA uL yw wB uM uN wC nQ qH BE wD yy DK BM wG wH DL Hj yz yA FE E6 E7 HL BN yB BK GV Ec yC qM wM uQ wN wO uR yF Bo yD oZ sk ai4 DG",
"yu BB yv Hf yb yc vZ we mh oY wg yn yd qr qu yo DB A6 sZ Hg Hi Bq Br Bs Bt Bu yr Bv Bw qy tw GP Bp yq wu GQ vS x8 AW vR DY wX yK BA By Bz Dj x4 Ia aeQ wz wA uL yw wB uM uN wC nQ qH BE wD yy DK BM wG wH DL Hj yz yA FE E6 E7 HL BN yB BK GV Ec yC qM wM uQ wN wO uR yF Bo yD oZ sk uK x2 ai4 DG",
"yu BB yv Hf yb yc vZ we mh oY wg yn yd qr qu yo DB A6 sZ Hg Hi Bq Br Bs Bt Bu yr Bv Bw qy tw GP Bp yq wu GQ vS x8 AW vR DY wX yK BA By Bz Dj x4 Ia aeQ wz wA uL yw wB uM uN wC nQ qH BE wD yy DK BM wG wH DL Hj yz yA FE E6 E7 HL BN yB BK GV Ec yC qM wM uQ wN wO uR yF Bo yD oZ sk uK x2 DG",
"yu BB yv Hf yb yc vZ we mh oY wg yn yd qr qu yo DB A6 sZ Hg Hi Bq Br Bs Bt Bu yr Bv Bw qy tw GP Bp yq wu GQ vS x8 AW vR DY wX yK BA By Bz x4 Ia aeQ wz wA uL yw wB uM uN wC nQ qH BE wD yy DK BM wG wH DL Hj yz yA FE E6 E7 HL BN yB BK GV Ec yC qM wM uQ wN wO uR yF Bo yD oZ sk uK x2 ai4",
"yu BB yv Hf yb yc vZ we mh oY wg yn yd qr qu yo DB A6 sZ Hg Hi Bq Br Bs Bt Bu yr Bv Bw qy tw GP Bp yq wu GQ vS x8 AW vR DY wX yK BA By Bz x4 Ia aeQ wz wA uL yw wB uM uN wC nQ qH BE wD yy DK BM wG wH DL Hj yz yA FE E6 E7 HL BN yB BK GV Ec yC qM wM uQ wN wO uR yF Bo yD oZ sk uK x2 ai4 DG",
"yu BB yv Hf yb yc vZ we mh oY wg yn yd qr qu yo DB A6 sZ Hg Hi Bq Br Bs Bt Bu yr Bv Bw qy tw GP Bp yq wu GQ vS x8 AW vR DY wX yK BA By Bz x4 Ia aeQ wz wA uL yw wB uM uN wC nQ qH BE wD yy DK BM wG wH DL Hj yz yA FE E6 E7 HL BN yB BK GV Ec yC qM wM uQ wN wO uR yF Bo yD oZ sk uK x2 ai4 DG",
"yu BB yv Hf yb yc vZ we mh oY wg yn yd qr qu yo DB A6 sZ Hg Hi Bq Br Bs Bt Bu yr Bv Bw qy tw GP Bp yq wu GQ vS x8 AW vR DY wX yK BA By Bz x4 Ia aeQ wz wA uL yw wB uM uN wC nQ qH BE wD yy DK BM wG wH DL Hj yz yA FE E6 E7 HL BN yB BK GV Ec yC qM wM uQ wN wO uR yF Bo yD oZ sk uK x2 ai4 DG",
"yu BB yv Hf yb yc vZ we mh oY wg yn yd qr qu yo DB A6 sZ Hg Hi Bq Br Bs Bt Bu yr Bv Bw qy tw GP Bp yq wu GQ vS x8 AW vR DY wX yK BA By Bz x4 Ia aeQ wz wA uL yw wB uM uN wC nQ qH BE wD yy DK BM wG wH DL Hj yz yA FE E6 E7 HL BN yB BK GV Ec yC qM wM uQ wN wO uR yF Bo yD oZ sk uK x2 ai4 DG"]
open Lean in
local macro_rules | `(tactic| walk_at $l:str)=>do
 let w:=l.getString
 let R:=mkIdent `Rz
 let h:=mkIdent `hRz
 let some d:=rdD[w.front.toNat-97]? | Macro.throwUnsupported
 let r<-rdM d
 let n:=w.back
 if n == '1' || n == '2' then `(tactic| (refine $(mkIdent (if n == '1' then `YB else `aiR)) fun $R $h=>?_;$r))
 else if n == '0' then `(tactic| (refine $(mkIdent `nx0) $h ?_;clear $h;$r))
 else if n == '3' || n == '4' then `(tactic| (refine $(mkIdent (if n == '3' then `nx1 else `nx2)) $h ?_;clear $h;intro $R $h;$r))
 else return r
seal PE PT PW PA PS Rt PG PGs PIc PO PPs PC
section
variable {P:Ϗ} {w:IH} {K:Ξ} {mg:Str->Option Η} {base:ϟ} {a:Adr}
def fP (T:Txt w K mg a):Ϥ P w K mg base IL 1 a.JC a.Mt ["self","name"] (Dr a.AC ["name"]):=by
 refine T.dn.F.ok lg (λvs H Q E h=>?_) (λϹ A outer s H vs Q E hr h=>?_)
 ·(revert h;refine Kx λea t ys Τ hl _=>?_;subst Τ)
  rw[Ψ,hl];rfl
 ·(revert h;refine Q8 λea t ys Τ hl he q=>?_;subst Τ)
  obtain⟨y0,rfl⟩:∃y0,ys=[y0]:=by
   match ys,hl with
   | [y0],_=>exact⟨y0,rfl⟩
  refine(Κ _ (ah (EO (pv 0) (pv 1) rfl)) ?_);walk_at "a";exact(ύ a.AC T.m7 T.jR (MF t (.inl ⟨he,λd hd nd=>q d _ hd nd (λb h1 h2=>by rw[aj h2,aj h1]) ae (by rw[aj nd];exact ae)⟩)))
def bq (T:Txt w K mg a):Ϥ P w K mg base IL 1 a.TV a.Uc ["_law_cell","_law_k"] Dj:=by
 refine T.ay.F.ok rG (λvs H Q E h=>?_) (λϹ A outer s H vs Q E hr h=>?_)
 ·(revert h;refine sK λc k Τ _=>?_;subst Τ)
  rfl
 ·(revert h;refine sK λc k Τ q=>?_;subst Τ)
  refine(Κ _ (ag (ax (i:=2) rG.nd rfl (ς rfl) (aC bV (aC (aB (K:=K)) (aC (aB (K:=K)) (aC iG (aC bV (pv 0) ai) ai) (aC iG ai (pv 1))) ai) ai))
   (ah (ar (aC bV (aC iG (pv 2) (pv 2)) ai)))) ?_)
  walk_at "a";refine⟨.inl ?_,q⟩;omega
def vg (T:Txt w K mg a):Ϥ P w K mg base IL 1 a.QM a.QZ ["_law_script","_law_k"] (x4 K):=by
 refine T.gC.F.ok u4 (λvs H Q E h=>?_) (λϹ A outer s H vs Q E hr h=>?_)
 ·(revert h;refine Ka λp ns k Τ _=>?_;subst Τ)
  rfl
 ·(revert h;refine Q8 λp ns k Τ hs hk q=>?_;subst Τ)
  refine(Κ _ (ag (aL (aF kZ (pv 1) (az (aO (K:=K)) (by rfl) T.cq u8 (aa (pv 0) af)) (ϸ _)) (ah (ar (au (ak (K:=K) (wv hr)) (pv 0) (pv 1) (λ_ _=>rfl)))) aw)
   (ah (ar ai))) ?_)
  walk_at "a";refine bY hs ?_;walk_at "a";rw[Ζ];refine Ox (λKI=>?_) (λhge=>?_)
  ·refine aJ hs (v:=.int (ns.getD k.toNat 0)) (aW hk ?_) q
   rw[μ,υ,ξ (show k.toNat < ns.length by omega)];rfl
  ·rw[υ,NS (show ns.length<=k.toNat by omega)] at q
   exact q
def lG (T:Txt w K mg a):Ϥ P w K mg base IL 1 a.TH a.T4 ["thing","least","most"] yb:=by
 refine T.cx.F.ok yR (λvs H Q E h=>?_) (λϹ A outer s H vs Q E hr h=>?_)
 ·(revert h;refine Ka λx lo hi Τ _=>?_;subst Τ)
  rfl
 ·(revert h;refine Kx λx lo hi Τ t q=>?_;subst Τ)
  refine(Κ _ (ah (ar (eY (az (bo (K:=K)) (by rfl) T.cg JQ (aa (pv 0) (aa (iq (v:=.ty "str") rfl T.cY Iv rfl) af))) (iw (pW fe fe (pv 1) (az (aO (K:=K)) (by rfl) T.cq u8 (aa (pv 0) af)) (pv 2)))))) ?_);cases t with
  | cr=>walk_at "a";exact q
  | bl b=>walk_at "a";exact q
  | int i=>walk_at "a";exact q
  | str l h=>
   walk_at "a";refine⟨ζ h (by decide),?_⟩;simp only[K2,cm] at q;refine Ox (λhc=>?_) (λhc=>?_)
   ·rw[j' hc,JB] at q;exact q
   ·rw[Ϧ hc,wP] at q;exact q
  | lst h=>walk_at "a";simp only[oA h];walk_at "a";exact q
  | tup h=>walk_at "a";simp only[vP h];walk_at "a";exact q
def rP (T:Txt w K mg a):Ϥ P w K mg base IL 2 a.TK a.T6 ["thing"] yc:=by
 refine T.dR.F.ok yT (λvs H Q E h=>?_) (λϹ A outer s H vs Q E hr h=>?_)
 ·(revert h;refine Ϟ λx Τ _=>?_;subst Τ)
  rfl
 ·(revert h;refine G' λx Τ t q=>?_;subst Τ)
  refine(Κ _ (ah (ar (eY (aq (lG T) (hr.mono (by decide)) rfl T.cx.m T.cx.F.kp T.cx.b .nil ό (aa (pv 0) (aa ai (aa (bx T.xt) af)))) (iw (az (dE (K:=K)) (by rfl) T.rL PY (aa (bu ["thing"] ["thing"] (Λ nR) (by exact⟨rfl,s!"d",s!"d",s!"d",s!"d",s!"d",s!"d",s!"d",s!"d"⟩) (aU (K:=K) (pv 0)) (λC₁ s₁ H₁ f₁=>(iB (uz (K:=K) (wv hr)) (pv 0) (bx T.vd) (by rfl)))) af)))))) ?_);walk_at "a";refine⟨t,Ox (λh1=>?_) (λh1=>?_)⟩
  ·(refine ρ (pM t h1) λl Τ hl=>?_;subst Τ)
   walk_at "a";refine g9 (ζ hl (by decide)) (λc=>.bl (Vg c)) (λc H' _ s Qe qe=>?_) (λD H' hD s hl=>?_)
   ·walk_at "a"
    rw[GB,zM];exact qe H' (Χ.refl _)
   ·refine k4 (bs:=l.map Vg) (.inl (.inl (by rw[hl,χ];rfl))) ?_
    have e:=q H' s;rw[dF h1] at e;rw[fh];exact e
  ·rw[lZ h1] at q
   exact q H (Χ.refl _)
def rQ (T:Txt w K mg a):Ϥ P w K mg base IL 1 a.TJ a.T5 ["sign"] yu:=by
 refine T.dQ.F.ok yS (λvs H Q E h=>?_) (λϹ A outer s H vs Q E hr h=>?_)
 ·(revert h;refine Ϟ λx Τ _=>?_;subst Τ)
  rfl
 ·(revert h;refine Ϟ λx Τ q=>?_;subst Τ)
  refine(Κ _ (ah (ar (eY (pW fe fe ao (pv 0) ao) (iw (iB (di (K:=K) (hU hr)) (az jZ (by rfl) T.Ak Za (aa (pv 0) af)) (bx T.za) (ϸ _)))))) ?_);walk_at "a";have e1:(Α " ").cps.toList=[32]:=by decide +kernel
  have e2:(Α "~").cps.toList=[126]:=by decide +kernel
  rw[e1,e2];simp only[aeq];unfold JI at q;refine Ox (λh1=>?_) (λh1=>?_)
  ·rw[j' (show 32<=x by omega),JB] at q
   refine Ox (λh2=>?_) (λh2=>?_)
   ·rw[j' (show x<=126 by omega),JB] at q
    rw[show(!decide ((x:Int)=37))=decide (x≠37) by by_cases e:x=37<;>simp[e];omega];exact q
   ·rw[Ϧ (show ¬x<=126 by omega),wP] at q
    exact q
  ·rw[Ϧ (show ¬32<=x by omega),wP,wP] at q
   exact q
def fh {l:List Nat}{p:Nat->Bool}:(l.map p).all id=l.all p:=by simp[P3,VU]
def dF {l:List Nat}{lo hi:Int}{p:Nat->Bool}(h:K2 (.str (S l)) lo hi=true):Jl (.str (S l)) lo hi p=l.all p:=by
 simp only[K2,Jl,Ϣ] at h ⊢;rw[h.1,h.2];simp
def lZ {x:V}{lo hi:Int}{p:Nat->Bool}(h:¬K2 x lo hi=true):Jl x lo hi p=false:=by
 cases x with
 | str z=>
  simp only[K2,Jl,Ϣ] at h ⊢
  by_cases h1:decide (lo<=(z.length:Int))=true
  ·rw[h1,JB]
   have h2:¬decide ((z.length:Int)<=hi)=true:=λe=>h ⟨h1,e⟩;rw[MQ.mpr h2,wP]
  ·rw[MQ.mpr h1,wP]
 | _=>rfl
def pM {H:Hp}{x:V}{lo hi:Int}(t:Tv H x)(h:K2 x lo hi=true):∃l:List Nat,x=.str (S l)/\l.length<=1000:=by
 cases t with
 | str l hl=>exact(Κ l rfl hl)
 | _=>simp[K2] at h
def Cj (T:Txt w K mg a):Ϥ P w K mg base IL 2 a.Vp a.Vz ["thing"] BB:=by
 refine T.mX.F.ok B6 (λvs H Q E h=>?_) (λϹ A outer s H vs Q E hr h=>?_)
 ·(revert h;refine Ϟ λx Τ _=>?_;subst Τ)
  rfl
 ·(revert h;refine G' λx Τ t q=>?_;subst Τ)
  refine(Κ _ (ah (ar (eY (aq (lG T) (hr.mono (by decide)) rfl T.cx.m T.cx.F.kp T.cx.b .nil ό (aa (pv 0) (aa ai (aa (bx T.y9) af)))) (iw (az (dE (K:=K)) (by rfl) T.rL PY (aa (bu ["thing"] ["thing"] (Λ qT) (by exact⟨rfl,s!"d",s!"d",s!"d",s!"d",s!"d",s!"d",s!"d",s!"d"⟩) (aU (K:=K) (pv 0)) (λC₁ s₁ H₁ f₁=>(aq (rQ T) (hr.mono (by decide)) rfl T.dQ.m T.dQ.F.kp T.dQ.b .nil ό (aa (pv 0) af)))) af)))))) ?_);walk_at "a";refine⟨t,Ox (λh1=>?_) (λh1=>?_)⟩
  ·(refine ρ (pM t h1) λl Τ hl=>?_;subst Τ)
   walk_at "a";refine g9 (ζ hl (by decide)) (λc=>.bl (JI c)) (λc H' _ s Qe qe=>?_) (λD H' hD s hl=>?_)
   ·walk_at "a"
    exact qe H' (Χ.refl _)
   ·refine k4 (bs:=l.map JI) (.inl (.inl (by rw[hl,χ];rfl))) ?_
    have e:=q H' s;rw[dF h1] at e;rw[fh];exact e
  ·rw[lZ h1] at q
   exact q H (Χ.refl _)
def zc (T:Txt w K mg a):Ϥ P w K mg base IL 2 a.TL a.T7 ["thing"] yv:=by
 refine T.ke.F.ok yU (λvs H Q E h=>?_) (λϹ A outer s H vs Q E hr h=>?_)
 ·(revert h;refine Ϟ λx Τ _=>?_;subst Τ)
  rfl
 ·(revert h;refine G' λx Τ t q=>?_;subst Τ)
  refine(Κ _ (ag (aL (ny (ub (pv 0))) (ah (ar eX)) aw)
   (ah (ar (eY (aq (lG T) (hr.mono (by decide)) rfl T.cx.m T.cx.F.kp T.cx.b .nil ό (aa (pv 0) (aa ai (aa (bx T.xw) af)))) (iw (az (dE (K:=K)) (by rfl) T.rL PY (aa (bu ["thing"] ["thing"] (Λ nS) (by exact⟨rfl,s!"d",s!"d",s!"d",s!"d",s!"d",s!"d",s!"d",s!"d"⟩) (aU (K:=K) (pv 0)) (λC₁ s₁ H₁ f₁=>(aq (rQ T) (hr.mono (by decide)) rfl T.dQ.m T.dQ.F.kp T.dQ.b .nil ό (aa (pv 0) af)))) af))))))) ?_)
  walk_at "a";refine Ox (λh0=>?_) (λh0=>?_)
  ·rw[j' h0,abb] at q
   exact q H (Χ.refl _)
  rw[Ϧ h0,aao] at q;refine⟨t,Ox (λh1=>?_) (λh1=>?_)⟩
  ·(refine ρ (pM t h1) λl Τ hl=>?_;subst Τ)
   walk_at "a";refine g9 (ζ hl (by decide)) (λc=>.bl (JI c)) (λc H' _ s Qe qe=>?_) (λD H' hD s hl=>?_)
   ·walk_at "a"
    exact qe H' (Χ.refl _)
   ·refine k4 (bs:=l.map JI) (.inl (.inl (by rw[hl,χ];rfl))) ?_
    have e:=q H' s;rw[dF h1] at e;rw[fh];exact e
  ·rw[lZ h1] at q
   exact q H (Χ.refl _)
def oV (T:Txt w K mg a):Ϥ P w K mg base IL 1 a.Sc a.Sr ["thing","low","high"] vZ:=by
 refine T.cT.F.ok w8 (λvs H Q E h=>?_) (λϹ A outer s H vs Q E hr h=>?_)
 ·(revert h;refine Ka λx lo hi Τ _=>?_;subst Τ)
  rfl
 ·(revert h;refine Kx λx lo hi Τ t q=>?_;subst Τ)
  refine(Κ _ (ah (ar (eY (az (bo (K:=K)) (by rfl) T.cg JQ (aa (pv 0) (aa (iq (v:=.ty "int") rfl T.D7 af1 rfl) af))) (eY (FP (az (bo (K:=K)) (by rfl) T.cg JQ (aa (pv 0) (aa (iq (v:=.ty "bool") rfl T.Hb boot_bool rfl) af)))) (iw (pW fe fe (pv 1) (pv 0) (pv 2))))))) ?_);cases t with
  | cr=>walk_at "a";exact q
  | bl b=>walk_at "a";exact q
  | int i=>
   walk_at "a";simp only[NZ] at q;refine Ox (λhc=>?_) (λhc=>?_)
   ·rw[j' hc,JB] at q;exact q
   ·rw[Ϧ hc,wP] at q;exact q
  | str l h=>walk_at "a";exact q
  | lst h=>walk_at "a";simp only[vN h];walk_at "a";exact q
  | tup h=>walk_at "a";simp only[vO h];walk_at "a";exact q
def Cm (T:Txt w K mg a):Ϥ P w K mg base IL 1 a.Vq a.VA ["key"] A6:=by
 refine T.mY.F.ok j6 (λvs H Q E h=>?_) (λϹ A outer s H vs Q E hr h=>?_)
 ·(revert h;refine Ϟ λl Τ _=>?_;subst Τ)
  rfl
 ·(revert h;refine Ϟ λl Τ q=>?_;subst Τ)
  refine(Κ _ (ag (ax (i:=1) j6.nd rfl (ς rfl) ai)
   (ag (cE Ϫ rfl (aU (K:=K) (pv 0)) (aT (i:=2) j6.nd rfl (ς rfl)) (ah (ax (i:=1) j6.nd rfl (ς rfl) (aC CH (aC (aB (K:=K)) (aC iG (pv 1) ai) (az jZ (by rfl) T.Ak Za (aa (pv 2) af))) ai))))
   (ah (ar (aC xP (pv 1) (aC CG (pv 1) ai)))))) ?_)
  walk_at "a";refine qh (λi σ H'=>H'=H/\∃v,σ=[some (.str (S l)),some (.int (RT (l.take i))),v]) ⟨rfl,(MF none rfl)⟩ ?_ ?_
  ·rintro i c σ H' hc ⟨rfl,v,rfl⟩
   walk_at "a";rw[qm hc]
  ·rintro σ H' ⟨rfl,v,rfl⟩
   walk_at "a";have e:l.take (S l).cps.size=l:=by simp
   rw[e];exact q
def Cn (T:Txt w K mg a):Ϥ P w K mg base IL 2 a.Vr a.VB ["key","many"] sZ:=by
 refine T.mZ.F.ok B8 (λvs H Q E h=>?_) (λϹ A outer s H vs Q E hr h=>?_)
 ·(revert h;refine sK λl m Τ _=>?_;subst Τ)
  rfl
 ·(revert h;refine IY λl m Τ hm q=>?_;subst Τ)
  refine(Κ _ (ah (ar (aC bV (aq (Cm T) (hr.mono (by decide)) rfl T.mY.m T.mY.F.kp T.mY.b .nil ό (aa (pv 0) af)) (pv 1)))) ?_);walk_at "a";exact⟨hm,q⟩
def pC (T:Txt w K mg a):Ϥ P w K mg base IL 1 a.LI a.Ob ["self"] (vS a.KG):=by
 refine T.jN.F.ok pe (λvs H Q E h=>?_) (λϹ A outer s H vs Q E hr h=>?_)
 ·(revert h;refine sK λx dx Τ _=>?_;subst Τ)
  rfl
 ·(revert h;refine IY λx dx Τ hx q=>?_;subst Τ)
  refine(Κ _ (ag (bw (pv 0) ai rfl)
   (ag (bw (pv 0) ai rfl)
   (ag (bw (pv 0) ai rfl)
   (ah (bw (pv 0) d6 rfl))))) ?_)
  walk_at "a";refine(IN _ dx ([]) hx T.cN T.i4 (by decide) (IN _ dx _ ae T.cN T.dS (by decide) (IN _ dx _ ae T.cN T.va (by decide) (λd hd=>?_))));have UT:d≠x:=λz=>by rw[z,ae] at hd;cases hd
  rw[aj UT,aj UT,aj UT] at hd;refine(IN _ dx _ ((aj (ω UT)).trans ae) T.cN T.fN (by decide) ?_);refine q d _ hd UT ?_ ⟨⟨dx,ae⟩,(ύ ([]) ((aj UT).trans ae) (by decide) (λp=>⟨rfl,rfl⟩)),by decide,by decide,by decide,λp h=>by cases h⟩;have m:x∈[x]:=by simp
  refine(ϳ.upd m (bZ hx)).trans ((ϳ.upd m (bZ ae)).trans ((ϳ.upd m (bZ ae)).trans ((ϳ.new (by rw[aj UT,aj UT,aj UT];exact hd)).trans (ϳ.upd m (bZ ((aj (ω UT)).trans ae))))))
def zd (T:Txt w K mg a):Ϥ P w K mg base IL 1 a.Ql a.Qn ["self","key","word","deed"] (x8 a.KG):=by
 refine T.Cg.ok rf (λvs H Q E h=>?_) (λϹ A outer s H vs Q E hr h=>?_)
 ·(revert h;refine Kg λr d M x Τ _=>?_;subst Τ)
  rfl
 ·(revert h;refine Kg λr d M x Τ=>JT λR hb q=>?_;subst Τ)
  refine(Κ _ (ag (ax (i:=4) rf.nd rfl (ς rfl) (av (K:=K) (pv 0) rfl))
   (ag (iz (bW (aa (pv 1) (aa (pv 2) (aa (pv 3) af)))) (iy (av (K:=K) (pv 0) rfl) (pv 4) (eK (wv hr))))
   (ag (bw (pv 0) (aC (aB (K:=K)) (pv 4) ai) rfl)
   (ah (ar (pv 4)))))) ?_)
  obtain⟨dx,hr⟩:=R.obj;(refine ϭ R.dict λϔ hd hk hl=>?_);walk_at "a";refine(lc _ dx _ hr T.cN T.dS (ύ _ (vT M d) (by decide) (λt ht=>?_)));have htr:t≠r:=λz=>by rw[z,hr] at ht;cases ht
  have htd:t≠d:=λz=>by rw[z,hd] at ht;cases ht
  have hdr:d≠r:=ω R.ne;have MR:upd H t (.tup (Ta x)) r=some (.ins a.KG dx (Ve M d)):=(aj (ω htr)).trans hr;have UU:upd H t (.tup (Ta x)) d=some (.dK ϔ):=(aj (ω htd)).trans hd;have hz:ϔ.length < sizeLine:=Ϡ (show ϔ.length<=100000 by omega) (by decide);refine(lc _ dx _ MR T.cN T.fN (Κ _ (lX M d) (eM (Pm.k (k:=.inl M.last) UU hz) ?_)));walk_at "a";refine(IN _ dx _ ((aj (ω hdr)).trans MR) T.cN T.dS (show 4 < 1000 by decide) ?_);have c1:ϳ [r,d] H (upd H t (.tup (Ta x))):=ϳ.new ht;have c2:ϳ [r,d] (upd H t (.tup (Ta x))) (upd (upd H t (.tup (Ta x))) d (.dK (putK ϔ (.inl M.last) (.ref t)))):=ϳ.upd (by simp) (iF UU);have c3:ϳ [r,d] (upd (upd H t (.tup (Ta x))) d (.dK (putK ϔ (.inl M.last) (.ref t)))) _:=ϳ.upd (o:=.ins a.KG dx (MW (Α "end") (.int (M.last+1)) (Ve M d))) (show r∈[r,d] by simp) (bZ ((aj (ω hdr)).trans MR));have c:=c1.trans (c2.trans c3);have l0:NY (upd H t (.tup (Ta x))) (putK ϔ (.inl M.last) (.ref t)) (λq=>if q=M.last then some x else M.L q):=(hl.Ji c1).put ae;refine q _ c ⟨⟨dx,ae⟩,(ύ _ ((aj hdr).trans ae) ?_ (l0.Ji (c2.trans c3))),R.f0,Int.le_trans R.fl (show M.last<=M.last+1 by omega),R.dr,λp hp=>?_⟩
  ·have:=bJ ϔ (.inl M.last:Key) (.ref t)
   show((putK ϔ (.inl M.last) (.ref t)).length:Int)<=M.last+1;omega
  ·have f:=R.fl
   show M.first<=p/\p < M.last+1
   by_cases e:p=M.last
   ·omega
   ·have Vd:(M.L p).isSome=true:=by
     have:(if p=M.last then some x else M.L p).isSome=true:=hp
     rwa [Υ e] at this
    have:=R.within p Vd;omega
def Co (T:Txt w K mg a):Ϥ P w K mg base IL 1 a.Vt a.VD ["self","place"] (AW a.KG):=by
 refine T.rJ.F.ok Ca (λvs H Q E h=>?_) (λϹ A outer s H vs Q E hr h=>?_)
 ·(revert h;refine Kg λr d M p Τ _=>?_;subst Τ)
  rfl
 ·(revert h;refine Kg λr d M p Τ=>Jb λR q=>?_;subst Τ)
  refine(Κ _ (ah (ar (CW (wv hr) (av (K:=K) (pv 0) rfl) (pv 1) ⟨rfl,rfl,rfl,rfl⟩))) ?_);obtain⟨dx,hr⟩:=R.obj;(refine ϭ R.dict λϔ hd hk hl=>?_);walk_at "a";exact(lc _ dx _ hr T.cN T.fN (Κ _ (lX M d) (ύ d rfl (.inl ⟨ϔ,.inl hd⟩) (Κ _ (Jc.k (k:=.inl p) hd) (q _ (hl p).1)))))
def xx (T:Txt w K mg a):Ϥ P w K mg base IL 2 a.Se a.Su ["self","start","limit","most"] (vR a.KG):=by
 refine T.lC.F.ok gb (λvs H Q E h=>?_) (λϹ A outer s H vs Q E hr h=>?_)
 ·(revert h;refine ME λr d M st li mo Τ _=>?_;subst Τ)
  rfl
 ·(revert h;refine ME λr d M st li mo Τ=>P6 λR hb h0 h1 h2=>Jb λh3 q=>?_;subst Τ)
  refine(Κ _ (ag (ax (i:=4) gb.nd rfl (ς rfl) (aG af))
   (ag (cE Ϫ rfl (Ar rfl T.i5 (aa (az (AR rfl) (by rfl) T.HS boot_max (aa (pv 1) (aa (av (K:=K) (pv 0) rfl) af))) (aa (az (AS rfl) (by rfl) T.HU boot_min (aa (pv 2) (aa (av (K:=K) (pv 0) rfl) af))) af))) (aT (i:=5) gb.nd rfl (ς rfl)) (ag (aL (aF Go (az (aO (K:=K)) (by rfl) T.cq u8 (aa (pv 4) af)) (pv 3) (ϸ _)) (ah Cw) aw)
   (ag (ax (i:=6) gb.nd rfl (ς rfl) (aR (pv 0) T.cN T.rJ.m (Co T) (hr.mono (by decide)) T.rJ.b .nil ό (aa (pv 5) af)))
   (ah (aL (ny (zt (pv 6))) (ah (aN (bf (K:=K) PySem.F.plainAttrs_list PySem.F.slot_list_append PySem.F.type_list_append cu (pv 4) (aa (bW (aa (pv 5) (aa (au (ak (K:=K) (wv hr)) (pv 6) ai (λ_ _=>rfl)) (aa (au (ak (K:=K) (wv hr)) (pv 6) ai (λ_ _=>rfl)) af)))) af)))) aw)))))
   (ah (ar (pv 4))))) ?_)
  obtain⟨dx,hr⟩:=R.obj;have f0:=R.f0;have fl:=R.fl;walk_at "a";refine⟨by decide,λD hD=>(lc _ dx _ ((Χ.upd hD) _ _ hr) T.cN T.i4 (Κ _ (x9 M d) (Κ _ rfl (lc _ dx _ ((Χ.upd hD) _ _ hr) T.cN T.dS (Κ _ (vT M d) (P7 _ rfl (by omega) (by omega) (by omega) (by omega) ?_))))))⟩;generalize hlo:max st M.first=lo;generalize hn:(min li M.last - lo).toNat=n;have hn1:n<=100000:=by omega
  have afk:M.Qz st li mo=(M.Iq lo n).take mo.toNat:=by unfold Iz.Qz;rw[hlo,hn]
  rw[afk] at q;refine kY (λi σ H'=>Χ H H'/\i<=n/\Jd H' D (((M.Iq lo i).take mo.toNat).map M.Vf)/\∃v1 v2,σ=[some (V.ref r),some (V.int st),some (V.int li),some (V.int mo),some (V.ref D),v1,v2]) ⟨Χ.upd hD,Ϛ _,(Κ ([]) ae ?_),(Nd none none rfl)⟩ ?_ ?_
  ·rw[show M.Iq lo 0=[] from rfl,MT]
   exact .nil
  ·rintro i σ H' hi ⟨hs,hin,⟨ts,hl,ht⟩,v1,v2,rfl⟩
   have hlen:=ht.length;rw[Ζ,Ϭ] at hlen;have hsl:=uF M lo i;refine YB λRy Zm=>?_;walk_at "a";refine bY (.inl (.inl hl)) ?_;walk_at "a";rw[Ζ];refine Ox (λhm=>?_) (λhm=>?_)
   ·obtain⟨more,he⟩:=uE M lo hin
    refine q D H' hD hs ?_;rw[he,List.take_append_of_le_length (by omega)];exact(Κ ts hl ht)
   ·have R':=R.Ji (A:=[]) (ϳ.of_same hs) (by simp) (by simp)
    rw[Zm];clear Zm;refine YB λRy Zm=>?_;walk_at "a";refine(ϒ dx _ (hs _ _ hr) (EI M d) (gl d M R' (λv hv=>?_)));rw[Zm];clear Zm;walk_at "a";have KI:(M.Iq lo i).length < mo.toNat:=by omega
    have e1:(M.Iq lo i).take mo.toNat=M.Iq lo i:=ϩ (by omega);rw[e1] at ht;cases hM:M.L (lo+(i:Int)) with
    | none=>
     rw[hM] at hv;cases (show v=.cr from hv);simp only[decide_true,Bool.not_true,W3,if_false];refine⟨hs,by omega,(Κ ts hl ?_)⟩;rw[gJ,hM,Υ (by simp),Ke,e1];exact ht
    | some x=>
     rw[hM] at hv;(revert hv;refine Ϟ λt Τ htt=>?_;subst Τ);have hT:JZ K H' t (Ta x):=.inl (.inl htt);simp only[reduceCtorEq,decide_false,Bool.not_false,Om];refine⟨.inl ⟨_,.inl (.inl hl)⟩,bc (v:=.str (S x.1)) hT rfl (bc (v:=wV x.2.1) hT rfl ⟨by decide,λp hp=>?_⟩)⟩;have hpD:p≠D:=λz=>by rw[z,hl] at hp;cases hp
     have Wj:upd H' p (.tup [.int (lo+(i:Int)),.str (S x.1),wV x.2.1]) D=some (.lst (ts.map V.ref)):=(aj (ω hpD)).trans hl;refine(ύ _ Wj (Ϡ (show(ts.map V.ref).length<=100000 by rw[Ζ];omega) (by decide)) ?_);have c1:ϳ [D] H' (upd H' p (.tup [.int (lo+(i:Int)),.str (S x.1),wV x.2.1])):=ϳ.new hp;have c2:ϳ [D] (upd H' p (.tup [.int (lo+(i:Int)),.str (S x.1),wV x.2.1])) (upd (upd H' p (.tup [.int (lo+(i:Int)),.str (S x.1),wV x.2.1])) D (.lst (ts.map V.ref++[V.ref p]))):=ϳ.upd (by simp) (uA Wj);refine⟨λb o hb=>(c1.trans c2).keep _ _ (hs b o hb) ?_,by omega,(Κ (ts++[p]) ?_ ?_)⟩
     ·simp only[Θ,Ρ,ϛ]
      exact aD hb hD
     ·rw[ae,ϖ];rfl
     ·rw[gJ,hM,δ (show(some x).isSome=true from rfl),ϩ (by rw[Ω];simp;omega),ϖ]
      refine(ht.Ji (c1.trans c2)).snoc ?_;rw[c2.tup _ _ ae];simp only[Iz.Vf,hM]
  ·rintro σ H' ⟨hs,hin,hl,v1,v2,rfl⟩
   walk_at "a";exact q D H' hD hs hl
def kC (T:Txt w K mg a):Ϥ P w K mg base IL 1 a.Kc a.LN ["self"] (Bq a.bn):=by
 refine T.fG.F.ok kz (λvs H Q E h=>?_) (λϹ A outer s H vs Q E hr h=>?_)
 ·(revert h;refine sK λx dx Τ _=>?_;subst Τ)
  rfl
 ·(revert h;refine IY λx dx Τ hx q=>?_;subst Τ)
  refine(Κ _ (ag (bw (pv 0) d6 rfl)
   (ag (bw (pv 0) d6 rfl)
   (ah (bw (pv 0) d6 rfl)))) ?_)
  walk_at "a";refine λl hl=>?_;have nl:l≠x:=λz=>by rw[z,hx] at hl;cases hl
  refine(IN _ dx ([]) ((aj (ω nl)).trans hx) T.aE T.bR (by decide) (λt ht=>?_));have nt:t≠x:=λz=>by rw[z,ae] at ht;cases ht
  refine(IN _ dx _ ((aj (ω nt)).trans ae) T.aE T.bp (show 1 < 1000 by decide) (λp hp=>?_));have np:p≠x:=λz=>by rw[z,ae] at hp;cases hp
  refine(IN _ dx _ ((aj (ω np)).trans ae) T.aE T.bS (show 2 < 1000 by decide) ?_);have ntl:t≠l:=λz=>by rw[aj nt,z,ae] at ht;cases ht
  have npt:p≠t:=λz=>by rw[aj np,z,ae] at hp;cases hp
  have npl:p≠l:=λz=>by rw[aj np,aj npt,z,aj nl,ae] at hp;cases hp
  have ht0:H t=none:=by rw[aj nt,aj ntl] at ht;exact ht
  have Pd:H p=none:=by rw[aj np,aj npt,aj np,aj npl] at hp;exact hp
  have m:x∈[x]:=by simp
  refine q l t p _ hl ht0 Pd ?_ ⟨⟨dx,ae⟩,(ύ ([]) ?_ (Ϛ _) (λz=>rfl)),(ύ ([]) ?_ (Ϛ _) (λz=>rfl)),(ύ ([]) ?_ (Ϛ _) (λz h=>(by cases h))),λz=>Ϛ _,ω nl,ω nt,ω np,ω ntl,ω npl,ω npt⟩
  ·exact(ϳ.new hl).trans ((ϳ.upd m (bZ ((aj (ω nl)).trans hx))).trans ((ϳ.new ht).trans ((ϳ.upd m (bZ ((aj (ω nt)).trans ae))).trans ((ϳ.new hp).trans (ϳ.upd m (bZ ((aj (ω np)).trans ae)))))))
  ·exact(aj nl).trans ((aj (ω npl)).trans ((aj nl).trans ((aj (ω ntl)).trans ((aj nl).trans ae))))
  ·exact(aj nt).trans ((aj (ω npt)).trans ((aj nt).trans ae))
  ·exact(aj np).trans ae
def fQ (T:Txt w K mg a):Ϥ P w K mg base IL 1 a.Mn a.Mx ["self","name"] (Bs a.bn):=by
 refine T.bK.F.ok lj (λvs H Q E h=>?_) (λϹ A outer s H vs Q E hr h=>?_)
 ·(revert h;refine JY λr l t p Z M=>Ϟ λn Τ _=>?_;subst Τ)
  rfl
 ·(revert h;refine JY λr l t p Z M=>G' λn Τ R q=>?_;subst Τ)
  refine(Κ _ (ah (ar (qb (wv hr) (av (K:=K) (pv 0) rfl) (pv 1) ai ⟨rfl,rfl,rfl,rfl⟩))) ?_);obtain⟨dx,hr⟩:=R.obj;(refine ϭ R.Kk λϔ hl hk hv=>?_);walk_at "a";refine(lc _ dx _ hr T.aE T.bR (Κ _ (mv l t p) (ύ l rfl (.inl ⟨ϔ,.inl hl⟩) (Κ _ (Jc.k (k:=.inr n) hl) ?_))));rw[hv n];cases e:M.L n with
  | none=>rw[e] at q;exact q
  | some z=>rw[e] at q;exact q
def lH (T:Txt w K mg a):Ϥ P w K mg base IL 1 a.Mo a.My ["self","name"] (Bt a.bn):=by
 refine T.dz.F.ok ll (λvs H Q E h=>?_) (λϹ A outer s H vs Q E hr h=>?_)
 ·(revert h;refine JY λr l t p Z M=>Ϟ λn Τ _=>?_;subst Τ)
  rfl
 ·(revert h;refine JY λr l t p Z M=>G' λn Τ R q=>?_;subst Τ)
  refine(Κ _ (ah (ar (qb (wv hr) (av (K:=K) (pv 0) rfl) (pv 1) ai ⟨rfl,rfl,rfl,rfl⟩))) ?_);obtain⟨dx,hr⟩:=R.obj;(refine ϭ R.YE λϔ ht hk hv=>?_);walk_at "a";refine(lc _ dx _ hr T.aE T.bp (Κ _ (hJ l t p) (ύ t rfl (.inl ⟨ϔ,.inl ht⟩) (Κ _ (Jc.k (k:=.inr n) ht) ?_))));rw[hv n];cases e:M.L n with
  | none=>rw[e] at q;exact q
  | some z=>rw[e] at q;exact q
def cQ (T:Txt w K mg a):Ϥ P w K mg base (Oy P w) 3 a.N6 a.Oe ["self","name"] (Bu a.bn):=by
 refine T.bg.F.Rw pk (λvs H Q E h=>?_) (λϹ A outer s H vs Q E hr h=>?_)
 ·(revert h;refine JY λr l t p Z M=>Ϟ λn Τ _=>?_;subst Τ)
  rfl
 ·(revert h;refine JY λr l t p Z M=>G' λn Τ R q=>?_;subst Τ)
  refine(Κ _ (ah (aL (PT.Kf (aF (AM (K:=K) (wv hr)) (pv 1) (av (K:=K) (pv 0) rfl) (by rfl))) aZ aw)) ?_);obtain⟨dx,hr⟩:=R.obj;(refine ϭ R.Kk λϔ hl hk hv=>?_);walk_at "a";refine(lc _ dx _ hr T.aE T.bR (Κ _ (mv l t p) (GA (Jc.k (k:=.inr n) hl) (Κ _ rfl ?_))));rw[hv n];obtain⟨v,e⟩:=dL.mp q.1;rw[e];exact q.2
def oo (T:Txt w K mg a):Ϥ P w K mg base (Oy P w) 4 a.Nu a.Nx ["self","name","life"] (yr a.bn):=by
 refine T.eE.F.Rw nX (λvs H Q E h=>?_) (λϹ A outer s H vs Q E hr h=>?_)
 ·(revert h;refine JY λr l t p Z M=>sK λn k Τ _=>?_;subst Τ)
  rfl
 ·(revert h;refine JY λr l t p Z M=>IY λn k Τ R q=>?_;subst Τ)
  refine(Κ _ (ag (aN (aR (pv 0) T.aE T.bg.m (cQ T) (hr.mono (by decide)) T.bg.b .nil Jm (aa (pv 1) af)))
   (ah (aL (PT.Kf (aF (di (K:=K) (hU hr)) (pv 2) (au (ak (K:=K) (wv hr)) (av (K:=K) (pv 0) rfl) (pv 1) (λ_ _=>rfl)) (ϸ _))) aZ aw))) ?_)
  obtain⟨dx,hr⟩:=R.obj;(refine ϭ R.Kk λk1 hl hk1 v1=>?_);walk_at "a";obtain⟨e,q⟩:=q;have g1:Jc H l (.str n) (some (.int k)):=by have:=Jc.k (k:=.inr n) hl;rw[v1 n,e] at this;exact this
  refine(ϒ dx _ hr rfl (LD l t p (ϒ Z M R (by rw[e];rfl) (lc _ dx _ hr T.aE T.bR (Κ _ (mv l t p) (aP g1 ?_))))));rw[zI];refine(Κ _ rfl ?_);rw[Υ (by simp)];exact q
def lI (T:Txt w K mg a):Ϥ P w K mg base (Oy P w) 4 a.Mm a.Mw ["self","name","number"] (Bv a.bn):=by
 refine T.dy.F.Rw b9 (λvs H Q E h=>?_) (λϹ A outer s H vs Q E hr h=>?_)
 ·(revert h;refine JY λr l t p Z M=>sK λn k Τ _=>?_;subst Τ)
  rfl
 ·(revert h;refine JY λr l t p Z M=>IY λn k Τ R q=>?_;subst Τ)
  refine(Κ _ (ag (aN (aR (pv 0) T.aE T.bg.m (cQ T) (hr.mono (by decide)) T.bg.b .nil Jm (aa (pv 1) af)))
   (ag (PS.Kf (ax (i:=3) b9.nd rfl (ς rfl) (aC (aB (K:=K)) (au (ak (K:=K) (wv hr)) (av (K:=K) (pv 0) rfl) (pv 1) (λ_ _=>rfl)) ai)))
   (ag (aL (PT.Kf (aF uu (pv 2) (pv 3) (ϸ _))) aZ aw)
   (ag (PS.Kf (aL (aF (cC (K:=K) (hU hr)) (pv 2) (pv 3) (ϸ _)) (ah (ar xJ)) aw))
   (ag (PS.Kf (ax (i:=4) b9.nd rfl (ς rfl) (au (ak (K:=K) (wv hr)) (av (K:=K) (pv 0) rfl) (pv 1) (λ_ _=>rfl))))
   (ag (PS.Kf (ax (i:=5) b9.nd rfl (ς rfl) (aC xO (pv 3) (az (aO (K:=K)) (by rfl) T.cq u8 (aa (pv 4) af)))))
   (ag (aL (PT.Kf (aF kZ (pv 2) (pv 5) (ϸ _))) aZ aw)
   (ah (PS.Kf (ar (au (ak (K:=K) (wv hr)) (pv 4) (aC xO (pv 2) (pv 5)) (λ_ _=>rfl)))))))))))) ?_)
  obtain⟨dx,hr⟩:=R.obj;(refine ϭ R.YE λk2 ht hk2 v2=>?_);(refine ϭ R.Zh λk3 hp hk3 v3=>?_);walk_at "a";obtain⟨e,q⟩:=q
  ·obtain⟨v,ev⟩:=dL.mp e
   (refine ϭ (v3 n e) λqa hq1 Τ _=>?_;obtain ⟨ts,Va,htt⟩:=Τ);have YM:ts.length=(M.P n).length:=by have:=htt.length;rw[Ζ] at this;exact this
   have g1:Jc H t (.str n) (some (.int (M.T n))):=by have:=Jc.k (k:=.inr n) ht;rw[v2 n,ev] at this;exact this
   have g2:Jc H p (.str n) (some (.ref qa)):=by have:=Jc.k (k:=.inr n) hp;rw[hq1] at this;exact this
   refine(ϒ dx _ hr rfl (LD l t p (ϒ Z M R e (lc _ dx _ hr T.aE T.bp (Κ _ (hJ l t p) (aP g1 ?_))))));rw[gY];refine(Κ _ rfl ?_);rcases q with⟨c,q⟩ | ⟨i,x,c,hx,q⟩
   ·rw[Υ (by omega),zH]
    refine(Κ _ rfl ?_);rw[δ (j' c)];exact q
   ·have hi:=(Ο.mp hx).1
    rw[Υ (by omega),zH];refine(Κ _ rfl ?_);rw[Υ (by rw[Ϧ (by omega)];simp)];refine(lc _ dx _ hr T.aE T.bS (Κ _ (mw l t p) (aP g2 (bY (.inl (.inl Va)) (Κ _ rfl (Κ _ rfl ?_))))));rw[Ζ,YM,Υ (by omega)];obtain⟨u,hu⟩:∃u,ts[i]?=some u:=⟨ts[i]'(by omega),ξ (by omega)⟩
    (refine ρ (htt.get hu) λz z1 z2=>?_);rw[μ,hx] at z1;cases z1;refine aJ (.inl (.inl Va)) (aW (by omega) ?_) (q u z2);rw[show(k - (M.T n+1 - ((M.P n).length:Int))).toNat=i by omega,μ,hu];rfl
def pD (T:Txt w K mg a):Ϥ P w K mg base (Oy P w) 4 a.N7 a.Of ["self","name","number","row","place"] (Bw a.bn):=by
 refine T.fI.F.Rw jb (λvs H Q E h=>?_) (λϹ A outer s H vs Q E hr h=>?_)
 ·(revert h;refine JY λr l t p Z M=>Kg λn k x y Τ _=>?_;subst Τ)
  rfl
 ·(revert h;refine JY λr l t p Z M=>O2 λn k x y Τ R e c=>JT λhz hZ q=>?_;subst Τ)
  refine(Κ _ (ag (aN (aR (pv 0) T.aE T.bg.m (cQ T) (hr.mono (by decide)) T.bg.b .nil Jm (aa (pv 1) af)))
   (ag (PS.Kf (ax (i:=5) jb.nd rfl (ς rfl) (aC (aB (K:=K)) (au (ak (K:=K) (wv hr)) (av (K:=K) (pv 0) rfl) (pv 1) (λ_ _=>rfl)) ai)))
   (ag (aL (PT.Kf (aF uu (pv 2) (pv 5) (ϸ _))) aZ aw)
   (ag (aL (PT.Kf (aF kZ (pv 2) (pv 5) (ϸ _))) aZ aw)
   (ag (PS.Kf (iz (pv 2) (iy (av (K:=K) (pv 0) rfl) (pv 1) (eK (wv hr)))))
   (ah (PS.Kf (iz (df (eN (K:=K)) (aC (aB (K:=K)) (au (ak (K:=K) (wv hr)) (av (K:=K) (pv 0) rfl) (pv 1) (λ_ _=>rfl)) (aG (aa (bW (aa (pv 3) (aa (pv 4) af))) af))) (dW (zw ud (bx T.vf))) fR) (iy (av (K:=K) (pv 0) rfl) (pv 1) (eK (wv hr))))))))))) ?_)
  obtain⟨dx,hr⟩:=R.obj;(refine ϭ R.Kk λk1 hl hk1 v1=>?_);(refine ϭ R.YE λk2 ht hk2 v2=>?_);(refine ϭ R.Zh λk3 hp hk3 v3=>?_);walk_at "a2";refine(ϒ dx _ hr rfl (LD l t p (gl Z M R ?_)));obtain⟨v,ev⟩:=dL.mp e;(refine ϭ (v3 n e) λqa hq1 Τ hqz=>?_;obtain ⟨ts,Va,htt⟩:=Τ);have YM:ts.length=(M.P n).length:=by have:=htt.length;rw[Ζ] at this;exact this
  have g1:Jc H t (.str n) (some (.int (M.T n))):=by have:=Jc.k (k:=.inr n) ht;rw[v2 n,ev] at this;exact this
  have g2:Jc H p (.str n) (some (.ref qa)):=by have:=Jc.k (k:=.inr n) hp;rw[hq1] at this;exact this
  refine⟨e,(lc _ dx _ hr T.aE T.bp (Κ _ (hJ l t p) (aP g1 ?_)))⟩;rw[gY];walk_at "a4";rw[Υ (by omega),Υ (by omega)];walk_at "a3";refine(lc _ dx _ hr T.aE T.bp (Κ _ (hJ l t p) (eM (Pm.k (k:=.inr n) ht (Ϡ hk2 (Ϡ hz (by decide)))) ?_)));have c1:ϳ [t] H (upd H t (.dK (putK k2 (.inr n) (.int k)))):=ϳ.upd (by simp) (iF ht);have a1:upd H t (.dK (putK k2 (.inr n) (.int k))) t=some (.dK (putK k2 (.inr n) (.int k))):=ae;generalize upd H t (.dK (putK k2 (.inr n) (.int k)))=H1 at c1 a1 ⊢;walk_at "a0";have UF:=c1.keep _ _ hp (n1 (ω R.tp));have MR:=c1.keep _ _ hr (n1 R.rt);have VZ:=c1.keep _ _ hl (n1 R.lt);have ajd:=c1.keep _ _ Va (n1 (jj Va ht (by intro z;cases z)));have g3:Jc H1 p (.str n) (some (.ref qa)):=by have:=Jc.k (k:=.inr n) UF;rw[hq1] at this;exact this
  refine(lc _ dx _ MR T.aE T.bS (Κ _ (mw l t p) (aP g3 ⟨by decide,λu hu=>⟨by decide,λb hb=>?_⟩⟩)));have nub:u≠b:=λz=>by rw[<-z,ae] at hb;cases hb
  have s2:Χ H1 (upd (upd H1 u (.tup [V.int x,V.int y])) b (.lst [V.ref u])):=(Χ.upd hu).trans (Χ.upd hb);have hb2:upd (upd H1 u (.tup [V.int x,V.int y])) b (.lst [V.ref u]) b=some (.lst [V.ref u]):=ae;have hu2:upd (upd H1 u (.tup [V.int x,V.int y])) b (.lst [V.ref u]) u=some (.tup (QD (x,y))):=(aj nub).trans ae;generalize upd (upd H1 u (.tup [V.int x,V.int y])) b (.lst [V.ref u])=H2 at s2 hb2 hu2 ⊢;have h8:=R.len n;refine lV (.inl (.inl (s2 _ _ ajd))) (.inl (.inl hb2)) (by rw[Ζ,YM];exact ζ (show(M.P n).length+1<=9 by omega) (by decide)) λe1 he1=>?_;have s3:Χ H2 (upd H2 e1 (.lst (ts.map V.ref++[V.ref u]))):=Χ.upd he1;have a3:upd H2 e1 (.lst (ts.map V.ref++[V.ref u])) e1=some (.lst (ts.map V.ref++[V.ref u])):=ae;generalize upd H2 e1 (.lst (ts.map V.ref++[V.ref u]))=H3 at s3 a3 ⊢;refine uy (.inl (.inl a3)) λe2 he2=>?_;have en:Rc (ts.map V.ref++[V.ref u]) (some (-8)) none=((ts++[u]).drop ((M.P n++[(x,y)]).length - 8)).map V.ref:=by
   rw[Bx,Ul,ϖ];congr 1;rw[Ω,Ω,Ζ,YM];rfl
  rw[en];have s4:Χ H3 (upd H3 e2 (.lst (((ts++[u]).drop ((M.P n++[(x,y)]).length - 8)).map V.ref))):=Χ.upd he2;have a4:upd H3 e2 (.lst (((ts++[u]).drop ((M.P n++[(x,y)]).length - 8)).map V.ref)) e2=some (.lst (((ts++[u]).drop ((M.P n++[(x,y)]).length - 8)).map V.ref)):=ae;generalize upd H3 e2 (.lst (((ts++[u]).drop ((M.P n++[(x,y)]).length - 8)).map V.ref))=H4 at s4 a4 ⊢;have UG:=(s2.trans s3).trans s4;have he0:H e2=none:=by
   have h1:H1 e2=none:=aV (s2.trans s3) he2;cases z:H e2 with
   | none=>rfl
   | some o=>
    by_cases et:e2=t
    ·rw[et,a1] at h1;cases h1
    ·rw[c1.keep _ _ z (n1 et)] at h1;cases h1
  refine(lc _ dx _ (UG _ _ MR) T.aE T.bS (Κ _ (mw l t p) (eM (Pm.k (k:=.inr n) (UG _ _ UF) (Ϡ hk3 (Ϡ hz (by decide)))) ?_)));have c5:ϳ [p] H4 (upd H4 p (.dK (putK k3 (.inr n) (.ref e2)))):=ϳ.upd (by simp) (iF (UG _ _ UF));have cA:ϳ [t,p] H (upd H4 p (.dK (putK k3 (.inr n) (.ref e2)))):=(c1.mono (by simp)).trans ((ϳ.of_same UG).trans (c5.mono (by simp)));refine q _ cA ⟨⟨dx,c5.keep _ _ (UG _ _ MR) (n1 R.rp)⟩,(ύ k1 (c5.keep _ _ (UG _ _ VZ) (n1 R.lp)) (XZ hk1) v1),(ύ _ (c5.keep _ _ (UG _ _ a1) (n1 R.tp)) ?_ (λz=>?_)),(ύ _ ae ?_ (λz hzz=>?_)),λz=>?_,R.rl,R.rt,R.rp,R.lt,R.lp,R.tp⟩
  ·have:=bJ k2 (.inr n:Key) (.int k)
   show(putK k2 (.inr n:Key) (.int k)).length<=M.sz+1;omega
  ·rw[fb]
   show _=(M.L z).map λ_=>V.int (if z=n then k else M.T z)
   by_cases ez:z=n
   ·subst ez
    rw[δ rfl,δ rfl,ev];rfl
   ·rw[Υ (λh=>ez (Jj h)),Υ ez]
    exact v2 z
  ·have:=bJ k3 (.inr n:Key) (.ref e2)
   show(putK k3 (.inr n:Key) (.ref e2)).length<=M.sz+1;omega
  ·show ∃q,_/\Jd _ q ((if z=n then(M.P n++[(x,y)]).drop ((M.P n++[(x,y)]).length - 8) else M.P z).map QD)/\q∉Z
   rw[fb]
   by_cases ez:z=n
   ·subst ez
    rw[δ rfl,δ rfl];refine(ύ e2 rfl (Κ _ (c5.keep _ _ a4 (by simp;exact λw=>by rw[w,hp] at he0;cases he0)) ?_) (λm=>?_))
    ·have h2:Ip H4 (ts++[u]) ((M.P z++[(x,y)]).map QD):=by
      rw[ϖ];exact((htt.Ji c1).Ji (ϳ.of_same (A:=[]) UG)).snoc (s4 _ _ (s3 _ _ hu2))
     rw[Ul];exact(h2.drop _).Ji c5
    ·obtain⟨o,ho⟩:=hZ e2 m
     rw[he0] at ho;cases ho
   ·rw[Υ (λh=>ez (Jj h)),Υ ez]
    (refine ϭ (v3 z hzz) λqz z1 z2 z3=>?_);refine(ύ qz z1 (z2.Ji cA ?_) z3);(revert z2;refine Ϟ λtz w1 _=>?_);simp;exact⟨jj w1 ht (by intro z;cases z),jj w1 hp (by intro z;cases z)⟩
  ·show(if z=n then(M.P n++[(x,y)]).drop ((M.P n++[(x,y)]).length - 8) else M.P z).length<=8
   split
   ·rw[sw];omega
   ·exact R.len z
def pE (T:Txt w K mg a):Ϥ P w K mg base IL 2 a.N5 a.Od ["self","name"] (Br a.bn):=by
 refine T.fH.F.ok i9 (λvs H Q E h=>?_) (λϹ A outer s H vs Q E hr h=>?_)
 ·(revert h;refine JY λr l t p Z M=>Ϟ λn Τ _=>?_;subst Τ)
  rfl
 ·(revert h;refine JY λr l t p Z M=>G' λn Τ R=>Um λhz ev hZ q=>?_;subst Τ)
  refine(Κ _ (ag (ax (i:=2) i9.nd rfl (ς rfl) (aC (aB (K:=K)) (aR (pv 0) T.aE T.bK.m (fQ T) (hr.mono (by decide)) T.bK.b .nil ό (aa (pv 1) af)) ai))
   (ag (iz (pv 2) (iy (av (K:=K) (pv 0) rfl) (pv 1) (eK (wv hr))))
   (ag (aL (aF (cC (K:=K) (hU hr)) (pv 2) ai (ϸ _)) (ag (iz ai (iy (av (K:=K) (pv 0) rfl) (pv 1) (eK (wv hr))))
   (ah (iz (aG af) (iy (av (K:=K) (pv 0) rfl) (pv 1) (eK (wv hr)))))) aw)
   (ah (ar (bW (aa (pv 2) (aa (au (ak (K:=K) (wv hr)) (av (K:=K) (pv 0) rfl) (pv 1) (λ_ _=>rfl)) af)))))))) ?_)
  obtain⟨dx,hr⟩:=R.obj;(refine ϭ R.Kk λk1 hl hk1 v1=>?_);(refine ϭ R.YE λk2 ht hk2 v2=>?_);(refine ϭ R.Zh λk3 hp hk3 v3=>?_);walk_at "a2";refine(ϒ dx _ hr rfl (LD l t p (gl Z M R (lc _ dx _ hr T.aE T.bR (Κ _ (mv l t p) (eM (Pm.k (k:=.inr n) hl (Ϡ hk1 (Ϡ hz (by decide)))) ?_))))));have c1:ϳ [l] H (upd H l (.dK (putK k1 (.inr n) (.int ((M.L n).getD 0+1))))):=ϳ.upd (by simp) (iF hl);have a1:upd H l (.dK (putK k1 (.inr n) (.int ((M.L n).getD 0+1)))) l=some (.dK (putK k1 (.inr n) (.int ((M.L n).getD 0+1)))):=ae;have z1:(putK k1 (.inr n:Key) (.int ((M.L n).getD 0+1))).length<=M.sz+1:=by have:=bJ k1 (.inr n:Key) (.int ((M.L n).getD 0+1));omega
  have w1:∀z,Io (putK k1 (.inr n) (.int ((M.L n).getD 0+1))) (.inr z)=((M.Le n).L z).map V.int:=λz=>by
   rw[fb];show _=(if z=n then some ((M.L n).getD 0+1) else M.L z).map V.int
   by_cases ez:z=n
   ·subst ez;rw[δ rfl,δ rfl];rfl
   ·rw[Υ (λh=>ez (Jj h)),Υ ez];exact v1 z
  generalize putK k1 (.inr n:Key) (.int ((M.L n).getD 0+1))=kk1 at c1 a1 z1 w1 ⊢;generalize upd H l (.dK kk1)=H1 at c1 a1 ⊢;walk_at "a3";have MR:=c1.keep _ _ hr (by simp;exact R.rl);have ht1:=c1.keep _ _ ht (by simp;exact ω R.lt);have UF:=c1.keep _ _ hp (by simp;exact ω R.lp);have new:∀b,H1 b=none->H b=none:=λb hb=>by
   cases z:H b with
   | none=>rfl
   | some o=>
    by_cases et:b=l
    ·rw[et,a1] at hb;cases hb
    ·rw[c1.keep _ _ z (by simp;exact et)] at hb;cases hb
  have isl:∀z,z≠n->((M.Le n).L z).isSome=true->(M.L z).isSome=true:=λz ez h=>by
   have h':(if z=n then some ((M.L n).getD 0+1) else M.L z).isSome=true:=h;rw[Υ ez] at h';exact h'
  rw[ev] at q ⊢;have e0':(M.L n).getD 0=0:=by rw[ev];rfl
  rw[δ (show(none:Option Int).getD 0+1=1 from rfl)];refine(lc _ dx _ MR T.aE T.bp (Κ _ (hJ l t p) (eM (Pm.k (k:=.inr n) ht1 (Ϡ hk2 (Ϡ hz (by decide)))) ⟨Ϛ _,?_⟩)));have c2:ϳ [t] H1 (upd H1 t (.dK (putK k2 (.inr n) (.int 0)))):=ϳ.upd (by simp) (iF ht1);have a2:upd H1 t (.dK (putK k2 (.inr n) (.int 0))) t=some (.dK (putK k2 (.inr n) (.int 0))):=ae;generalize upd H1 t (.dK (putK k2 (.inr n) (.int 0)))=H2 at c2 a2 ⊢;have hr2:=c2.keep _ _ MR (by simp;exact R.rt);have Qa:=c2.keep _ _ a1 (by simp;exact R.lt);have US:=c2.keep _ _ UF (by simp;exact ω R.tp)
  have afm:∀b,H2 b=none->H b=none:=λb hb=>new b (by
   cases z:H1 b with
   | none=>rfl
   | some o=>
    by_cases et:b=t
    ·rw[et,a2] at hb;cases hb
    ·rw[c2.keep _ _ z (by simp;exact et)] at hb;cases hb)
  refine λb hb=>?_;have s3:Χ H2 (upd H2 b (.lst [])):=Χ.upd hb;have a3:upd H2 b (.lst []) b=some (.lst []):=ae;generalize upd H2 b (.lst [])=H3 at s3 a3 ⊢;have hb0:=afm b hb;refine(lc _ dx _ (s3 _ _ hr2) T.aE T.bS (Κ _ (mw l t p) (eM (Pm.k (k:=.inr n) (s3 _ _ US) (Ϡ hk3 (Ϡ hz (by decide)))) ?_)));have c4:ϳ [p] H3 (upd H3 p (.dK (putK k3 (.inr n) (.ref b)))):=ϳ.upd (by simp) (iF (s3 _ _ US));have a4:upd H3 p (.dK (putK k3 (.inr n) (.ref b))) p=some (.dK (putK k3 (.inr n) (.ref b))):=ae;generalize upd H3 p (.dK (putK k3 (.inr n) (.ref b)))=H4 at c4 a4 ⊢;walk_at "a0";have hr4:=c4.keep _ _ (s3 _ _ hr2) (by simp;exact R.rp);have ht4:=c4.keep _ _ (s3 _ _ a2) (by simp;exact R.tp);have hl4:=c4.keep _ _ (s3 _ _ Qa) (by simp;exact R.lp);have hb4:=c4.keep _ _ a3 (by simp;exact λw=>by rw[w,hp] at hb0;cases hb0)
  have ajh:∀c,H4 c=none->H c=none:=λc hc=>afm c (aV s3 (by
   cases z:H3 c with
   | none=>rfl
   | some o=>
    by_cases et:c=p
    ·rw[et,a4] at hc;cases hc
    ·rw[c4.keep _ _ z (by simp;exact et)] at hc;cases hc))
  have g1:Jc H4 t (.str n) (some (.int 0)):=by have:=Jc.k (k:=.inr n) ht4;rw[fb,δ rfl] at this;exact this
  refine(lc _ dx _ hr4 T.aE T.bp (Κ _ (hJ l t p) (aP g1 ⟨by decide,λu hu=>?_⟩)));have s5:Χ H4 (upd H4 u (.tup [V.int ((none:Option Int).getD 0+1),V.int 0])):=Χ.upd hu;have cA:ϳ [l,t,p] H (upd H4 u (.tup [V.int ((none:Option Int).getD 0+1),V.int 0])):=(((c1.mono (by simp)).trans (c2.mono (by simp))).trans (ϳ.of_same s3)).trans ((c4.mono (by simp)).trans (ϳ.of_same s5));refine q u _ cA ⟨⟨dx,s5 _ _ hr4⟩,(ύ _ (s5 _ _ hl4) z1 w1),(ύ _ (s5 _ _ ht4) ?_ (λz=>?_)),(ύ _ (s5 _ _ a4) ?_ (λz hzz=>?_)),λz=>?_,R.rl,R.rt,R.rp,R.lt,R.lp,R.tp⟩ (ajh u hu) ?_
  ·have:=bJ k2 (.inr n:Key) (.int 0)
   show(putK k2 (.inr n:Key) (.int 0)).length<=M.sz+1;omega
  ·rw[fb]
   show _=(if z=n then some ((M.L n).getD 0+1) else M.L z).map λ_=>V.int (if z=n then(if (M.L n).getD 0=0 then 0 else M.T n) else M.T z)
   by_cases ez:z=n
   ·subst ez;rw[δ rfl,δ rfl,δ rfl,δ e0'];rfl
   ·rw[Υ (λh=>ez (Jj h)),Υ ez,Υ ez];exact v2 z
  ·have:=bJ k3 (.inr n:Key) (.ref b)
   show(putK k3 (.inr n:Key) (.ref b)).length<=M.sz+1;omega
  ·show ∃q,_/\Jd _ q ((if z=n then(if (M.L n).getD 0=0 then[] else M.P n) else M.P z).map QD)/\q∉Z
   rw[fb]
   by_cases ez:z=n
   ·subst ez
    rw[δ rfl,δ rfl,δ e0'];refine(ύ b rfl (Κ ([]) (s5 _ _ hb4) (.nil)) (λm=>?_));obtain⟨o,ho⟩:=hZ b m;rw[hb0] at ho;cases ho
   ·rw[Υ (λh=>ez (Jj h)),Υ ez]
    (refine ϭ (v3 z (isl z ez hzz)) λqz y1 y2 y3=>?_);refine(ύ qz y1 (y2.Ji cA ?_) y3);(revert y2;refine Ϟ λtz x1 _=>?_);simp;exact⟨jj x1 hl (by intro z;cases z),jj x1 ht (by intro z;cases z),jj x1 hp (by intro z;cases z)⟩
  ·show(if z=n then(if (M.L n).getD 0=0 then[] else M.P n) else M.P z).length<=8
   by_cases ez:z=n
   ·rw[δ ez,δ e0'];exact Ϛ _
   ·rw[Υ ez];exact R.len z
  ·show _=some (HO.tup [V.int ((none:Option Int).getD 0+1),V.int (if n=n then(if (M.L n).getD 0=0 then 0 else M.T n) else M.T n)])
   rw[δ rfl,δ e0'];exact ae
def ze (T:Txt w K mg a):Ϥ P w K mg base IL 1 a.TQ a.T' ["thing"] we:=by
 refine T.kh.F.ok yW (λvs H Q E h=>?_) (λϹ A outer s H vs Q E hr h=>?_)
 ·(revert h;refine Ϟ λv Τ _=>?_;subst Τ)
  rfl
 ·(revert h;refine G' λv Τ hv q=>?_;subst Τ)
  refine(Κ _ (ah (ar (eY (az (bo (K:=K)) (by rfl) T.cg JQ (aa (pv 0) (aa (iq (v:=.ty "str") rfl T.cY Iv rfl) af))) (iw (iB (uz (K:=K) (wv hr)) (pv 0) (sY (K:=K) T.Fm) (by rfl)))))) ?_);cases hv with
  | cr=>walk_at "b";exact q
  | bl b=>walk_at "b";exact q
  | int i=>walk_at "b";exact q
  | lst h=>
   walk_at "b";rw[oA h];walk_at "b";exact q
  | str z=>
   walk_at "b";refine λp hp=>Dg (.inr (hp H)) rfl rfl ?_;have e:inV (.str z) [V.str (Α "table"),V.str (Α "stream")]=RU (.str z):=by
    unfold inV RU;simp only[J',List.any_nil,Uj];show(Α "table" == z || Α "stream" == z)=_;have b1:(Α "table" == z)=decide (z=ab7):=by
     by_cases y:z=ab7
     ·rw[y,j' rfl];exact beq_self_eq_true _
     ·rw[Ϧ y];exact Iw.mpr λw=>y w.symm
    have b2:(Α "stream" == z)=decide (z=ab8):=by
     by_cases y:z=ab8
     ·rw[y,j' rfl];exact beq_self_eq_true _
     ·rw[Ϧ y];exact Iw.mpr λw=>y w.symm
    rw[b1,b2]
   rw[e];exact q
def xy (T:Txt w K mg a):Ϥ P w K mg base IL 3 a.Sf a.Sv ["thing"] mh:=by
 refine T.iV.F.ok xi (λvs H Q E h=>?_) (λϹ A outer s H vs Q E hr h=>?_)
 ·(revert h;refine sK λv b Τ _=>?_;subst Τ)
  rfl
 ·(revert h;refine IY λv b Τ hv q=>?_;subst Τ)
  refine(Κ _ (ag (aL (PW.pt (vw (bH (aM (K:=K) (az (bo (K:=K)) (by rfl) T.cg JQ (aa (pv 0) (aa (iq (v:=.ty "tuple") rfl T.Fl boot_tuple rfl) af))) (by intro _;rfl))) (pU (aF (di (K:=K) (hU hr)) (az (aO (K:=K)) (by rfl) T.cq u8 (aa (pv 0) af)) ai (ϸ _))))) (ah (ar eX)) aw)
   (ah (ar (eY (aq (rP T) (hr.mono (by decide)) rfl T.dR.m T.dR.F.kp T.dR.b .nil ό (aa (au (ak (K:=K) (wv hr)) (pv 0) ai (λ_ _=>rfl)) af)) (eY (aq (oV T) (hr.mono (by decide)) rfl T.cT.m T.cT.F.kp T.cT.b .nil ό (aa (au (ak (K:=K) (wv hr)) (pv 0) ai (λ_ _=>rfl)) (aa ai (aa (bx T.xv) af)))) (iw (aq (ze T) (hr.mono (by decide)) rfl T.kh.m T.kh.F.kp T.kh.b .nil ό (aa (au (ak (K:=K) (wv hr)) (pv 0) ai (λ_ _=>rfl)) af)))))))) ?_)
  have tri:∀(p:Ε) (x y z:V) (Q':VK),H p=some (.tup [x,y,z])->Tv H x->Tv H y->RV H z->(∀H',Χ H H'->Q (.bl (Jl x 1 12 Vg && (NZ y 1 9 && RU z))) H')->Q'=Q->
    Qb K (V.ref p) (V.int 0) H λx H1=>Tv H1 x/\∀H',Χ H1 H'->if Jl x 1 12 Vg=true then Qb K (V.ref p) (V.int 1) H' λx H1=>Tv H1 x/\if NZ x 1 9=true then Qb K (V.ref p) (V.int 2) H1 λx H1=>RV H1 x/\Q' (V.bl (RU x)) H1 else Q' (V.bl false) H1 else Q' (V.bl false) H':=λp x y z Q' hp hx hy hz hq e=>by
   subst e;refine bc (v:=x) (JZ.of hp) rfl ⟨hx,λH' s=>?_⟩;have Ur:=hq H' s
   by_cases h1:Jl x 1 12 Vg=true
   ·rw[δ h1]
    rw[h1,JB] at Ur;refine bc (v:=y) (JZ.of (s _ _ hp)) rfl ⟨hy.same s,?_⟩
    by_cases h2:NZ y 1 9=true
    ·rw[δ h2]
     rw[h2,JB] at Ur;exact bc (v:=z) (JZ.of (s _ _ hp)) rfl ⟨hz.same s,Ur⟩
    ·rw[Υ h2]
     rw[X0] at h2;rw[h2,wP] at Ur;exact Ur
   ·rw[Υ h1]
    rw[X0] at h1;rw[h1,wP] at Ur;exact Ur
  cases hv with
  | good h ok=>
   rename_i t x
   (revert ok;refine JT λΤ IK hk=>?_;obtain ⟨n1,n2,n3⟩:=Τ;obtain ⟨r1,r2⟩:=IK);walk_at "b";rw[sf h];walk_at "b";refine Gz (JZ.of h) ?_;have e3:((x.v.length:Nat):Int)=3:=rfl;rw[e3];walk_at "b";refine tri t (.str (S x.name)) (.int x.rows) (.str x.kind) Q h (.str _ (by omega)) (.int _) (.str _) (λH' s=>?_) rfl;have ef:Jl (.str (S x.name)) 1 12 Vg=true:=by
    simp only[Jl,cm,Ϣ,wn];exact⟨by omega,by omega,n3⟩
   have ew:NZ (.int (x.rows:Int)) 1 9=true:=by
    simp only[NZ,Ϣ,wn];omega
   have ek:RU (.str x.kind)=true:=by
    unfold RU;rcases hk with e | e<;>simp[e]
   rw[ef,ew,ek];exact q H' s
def rR (T:Txt w K mg a):Ϥ P w K mg base IL 4 a.OM a.OU ["thing"] oY:=by
 refine T.d4.F.ok rj (λvs H Q E h=>?_) (λϹ A outer s H vs Q E hr h=>?_)
 ·(revert h;refine sK λv b Τ _=>?_;subst Τ)
  rfl
 ·(revert h;refine IY λv b Τ hv q=>?_;subst Τ)
  refine(Κ _ (ag (aL (PW.pt (vw (bH (aM (K:=K) (az (bo (K:=K)) (by rfl) T.cg JQ (aa (pv 0) (aa (iq (v:=.ty "list") rfl T.om P2 rfl) af))) (by intro _;rfl))) (pU (bH (pX fe fe ai (az (aO (K:=K)) (by rfl) T.cq u8 (aa (pv 0) af)) (bx T.rO)))))) (ah (ar eX)) aw)
   (ag (aL (bH (aM (K:=K) (az (dE (K:=K)) (by rfl) T.rL PY (aa (bu ["thing"] ["thing"] (Λ dY) (by exact⟨rfl,s!"d",s!"d",s!"d",s!"d",s!"d",s!"d",s!"d",s!"d"⟩) (aU (K:=K) (pv 0)) (λC₁ s₁ H₁ f₁=>(aq (xy T) (hr.mono (by decide)) rfl T.iV.m T.iV.F.kp T.iV.b .nil ό (aa (pv 0) af)))) af)) (by intro _;rfl))) (ah (ar eX)) aw)
   (ah (ar (iB (cC (K:=K) (hU hr)) (A4 (K:=K) rfl rfl T.cq rfl T.HV (bu ["thing"] ["thing"] (Λ dY) (by exact⟨rfl,s!"d",s!"d",s!"d",s!"d",s!"d",s!"d",s!"d",s!"d"⟩) (aU (K:=K) (pv 0)) (λC₁ s₁ H₁ f₁=>(au (ak (K:=K) (wv hr)) (pv 0) ai (λ_ _=>rfl))))) (az (aO (K:=K)) (by rfl) T.cq u8 (aa (pv 0) af)) (ϸ _)))))) ?_)
  have both:∀(p:Ε) (xs:List Jn) (Q':VK),Jd H p (xs.map Jn.v)->1<=xs.length->xs.length<=6->(∀x∈xs,WM x)->(∀H',Χ H H'->Q' (.bl (decide ((JW (xs.map λx=>S x.name)).length=xs.length))) H')->Q'=Q->
    O5 (abo (tOr (ZB (abQ K (tCB (JU K) (Qx (O4 0) (Qx (tC (V.ty "list")) Uq))))) (ZB (Ye (Wa rLe rLe (tC (V.int 1)) (tCB (Wi K) (Qx (O4 0) Uq)) (tC (V.int 6)))))) (X9 (tC (V.bl false))) X8)
     (O5 (abo (ZB (abQ K (tCB (ZQ K) (Qx (RM (Yq K (O4 0)) ND (Yh mh [] E0 (Qx (O4 0) Uq))) Uq)))) (X9 (tC (V.bl false))) X8)
      (X9 (tOp (Xa K) (WK K (RM (Yq K (O4 0)) ND (tOp (Qb K) (O4 0) (tC (V.int 0))))) (tCB (Wi K) (Qx (O4 0) Uq)))))
     { nx:=λx H'=>Q' V.cr H',rt:=Q' } (L2.start [Α "thing"] [V.ref p]) H:=λp xs Q' hl o1 o2 each hq e0=>by
   clear e0;(refine ρ (id hl) λts e hT=>?_);have hlen:ts.length=xs.length:=by rw[hT.length,Ζ]
   walk_at "b";rw[uw e];walk_at "b";refine bY (.inl (.inl e)) ?_;rw[Ζ,hlen];walk_at "b";rw[δ (show(1:Int)<=(xs.length:Int) by omega),Υ (show ¬¬((xs.length:Int)<=6) by omega)];have hsl:(xs.map Jn.v).length<=sizeLine:=by rw[Ζ];exact ζ o2 (by decide)
   refine bL (.inl (.inl e)) (k6 hl hsl (λ_=>.bl true) ?_ ?_)
   ·intro t ys H' hy s ht Qe qe
    (refine ρ (τ.mp hy) λx hx Τ=>?_;subst Τ);walk_at "b";exact(Κ true (.good ht (each x hx)) (λKj s'=>qe Kj s'))
   ·intro D H1 hD s1 h1
    refine k4 (bs:=(xs.map Jn.v).map λ_=>true) (.inl (.inl (by rw[h1];simp))) ?_;have ea:(((xs.map Jn.v).map λ_=>true).all id)=true:=by simp
    rw[ea];walk_at "b";have VZ:=hl.same s1;refine bL (.inl (.inl (s1 _ _ e))) (k6 VZ hsl (it 0) ?_ ?_)
    ·intro t ys H' hy s ht Qe qe
     (refine ρ (τ.mp hy) λx hx Τ=>?_;subst Τ);walk_at "b";exact bc (v:=it 0 x.v) (.inl (.inl ht)) rfl (qe H' (Χ.refl _))
    ·intro D2 H2 Rh s2 h2
     refine(Κ D2 rfl (ύ (xs.map λx=>S x.name) (.inl (.inl (by rw[h2,χ,χ];rfl))) (by rw[Ζ];omega) (bY (.inl (.inl (s2 _ _ (s1 _ _ e)))) ?_)));rw[Ζ,hlen];walk_at "b";have:=hq H2 (s1.trans s2);rw[show decide ((((JW (xs.map λx=>S x.name)).length:Nat):Int)=((xs.length:Nat):Int))=decide ((JW (xs.map λx=>S x.name)).length=xs.length) by simp only[Int.natCast_inj]];exact this
  cases hv with
  | good hl ok=>
   rename_i p xs
   refine both p xs Q hl ok.lo ok.hi ok.each (λH' s=>?_) rfl
   have en:(JW (xs.map λx=>S x.name)).length=xs.length:=vV _ _ (by simp) (by
    have:=ok.nd;rw[show(λx:Jn=>S x.name)=S∘Jn.name from rfl,<-χ]
    exact List.pairwise_map.mpr (acV (λh z=>h (C8 z)) this))
   rw[j' en];exact q H' s
def kD (T:Txt w K mg a):Ϥ P w K mg base (Oy P w) 5 a.Kb a.LL ["self","shelves"] (wg a.ww a.Qj):=by
 refine T.fE.F.Rw kq (λvs H Q E h=>?_) (λϹ A outer s H vs Q E hr h=>?_)
 ·(revert h;refine Ka λx dx v Τ _=>?_;subst Τ)
  rfl
 ·(revert h;refine Kx λx dx v Τ hx h=>?_;subst Τ)
  refine(Κ _ (ag (aL (PT.Kf (bH (aM (K:=K) (aq (rR T) (hr.mono (by decide)) rfl T.d4.m T.d4.F.kp T.d4.b .nil ό (aa (pv 1) af)) (by intro _;rfl)))) aZ aw)
   (ah (PS.Kf (bw (pv 0) (aQ (iD (K:=K)) rfl T.om P2 (aa (pv 1) af)) rfl)))) ?_)
  walk_at "b";rcases h with⟨p,xs,rfl,hl,ok,q⟩ | ⟨hb,q⟩
  ·refine(Κ true (.good hl ok) (λH1 s1=>?_))
   rw[Υ (by decide)];(refine ρ (hl.same s1) λts e hT=>?_);refine nH (.inl (.inl (.inl e))) λl Wj=>?_;have hlx:x≠l:=λz=>by rw[<-z,s1 _ _ hx] at Wj;cases Wj
   refine(IN _ dx ([]) ((aj hlx).trans (s1 _ _ hx)) T.bE T.bF (by decide) (q l _ (s1.free Wj) ?_ ⟨⟨dx,ae⟩,(Κ ts ((aj (ω hlx)).trans ae) ?_)⟩))
   ·exact(ϳ.of_same s1).trans ((ϳ.new Wj).trans (ϳ.upd (by simp) (bZ ((aj hlx).trans (s1 _ _ hx)))))
   ·exact hT.Ji (A:=[x]) ((ϳ.new Wj).trans (ϳ.upd (by simp) (bZ ((aj hlx).trans (s1 _ _ hx)))))
  ·cases hb
def pF (T:Txt w K mg a):Ϥ P w K mg base IL 1 a.N4 a.Oc ["self"] (yn a.ww):=by
 refine T.fF.F.ok pj (λvs H Q E h=>?_) (λϹ A outer s H vs Q E hr h=>?_)
 ·(revert h;refine Ka λs l xs Τ _=>?_;subst Τ)
  rfl
 ·(revert h;refine Kx λs l xs Τ R q=>?_;subst Τ)
  refine(Κ _ (ah (ar (aQ (iD (K:=K)) rfl T.om P2 (aa (av (K:=K) (pv 0) rfl) af)))) ?_);walk_at "b";obtain⟨dx,hs⟩:=R.obj;(refine ρ R.lst λts e hT=>?_);refine(lc _ dx _ hs T.bE T.bF (Κ _ rfl (nH (.inl (.inl (.inl e))) λD hD=>q D _ hD (Χ.upd hD) (Κ ts ae (hT.Ji (A:=[]) (ϳ.of_same (Χ.upd hD)))))))
def jS (T:Txt w K mg a):Ϥ P w K mg base IL 1 a.Ll a.Lm ["self"] (yd a.ww):=by
 refine T.cM.F.ok jG (λvs H Q E h=>?_) (λϹ A outer s H vs Q E hr h=>?_)
 ·(revert h;refine Ka λs l xs Τ _=>?_;subst Τ)
  rfl
 ·(revert h;refine Q8 λs l xs Τ R hn q=>?_;subst Τ)
  refine(Κ _ (ah (ar (az (AQ (K:=K)) (by rfl) T.HW boot_sum (aa (bu ["self"] ["self"] (Λ cL) (by exact⟨rfl,s!"d",s!"d",s!"d",s!"d",s!"d",s!"d",s!"d",s!"d"⟩) (aU (K:=K) (av (K:=K) (pv 0) rfl)) (λC₁ s₁ H₁ f₁=>(au (ak (K:=K) (wv hr)) (pv 0) ai (λ_ _=>rfl)))) af)))) ?_);walk_at "b";obtain⟨dx,hs⟩:=R.obj;(refine ρ R.lst λts e hT=>?_);refine(lc _ dx _ hs T.bE T.bF (Κ _ rfl (bL (.inl (.inl e)) (k6 R.lst (by rw[Ζ];exact ζ hn (by decide)) (it 1) ?_ ?_))))
  ·intro t ys H' hy s ht Qe qe
   (refine ρ (τ.mp hy) λx hx Τ=>?_;subst Τ);walk_at "b";exact bc (v:=it 1 x.v) (.inl (.inl ht)) rfl (qe H' (Χ.refl _))
  ·intro D H1 hD s1 h1
   refine(ϒ D (xs.map λx=>(x.rows:Int)) rfl (.inl (.inl (by rw[h1,χ,χ];rfl))) ?_);have es:(xs.map λx=>(x.rows:Int)).sum=((Ϝ xs xs.length:Nat):Int):=by
    unfold Ϝ;rw[sB];generalize xs=ys
    induction ys with
    | nil=>rfl
    | cons y ys ih=>rw[ο,ο,am,am,ih];push_cast;rfl
   rw[es];exact q H1 s1
def lJ (T:Txt w K mg a):Ϥ P w K mg base (Oy P w) 3 a.Mj a.Mu ["self","name"] (qr a.ww):=by
 refine T.dv.F.Rw b6 (λvs H Q E h=>?_) (λϹ A outer s H vs Q E hr h=>?_)
 ·(revert h;refine Kg λs l xs nm Τ _=>?_;subst Τ)
  rfl
 ·(revert h;refine Kg λs l xs nm Τ=>JT λR ok q=>?_;subst Τ)
  refine(Κ _ (ag (PS.Kf (ax (i:=2) b6.nd rfl (ς rfl) ai))
   (ag (PS.Kf (cE Ϫ rfl (aU (K:=K) (av (K:=K) (pv 0) rfl)) (aT (i:=3) b6.nd rfl (ς rfl)) (ag (aL (aF (cC (K:=K) (hU hr)) (au (ak (K:=K) (wv hr)) (pv 3) ai (λ_ _=>rfl)) (pv 1) (ϸ _)) (ah (ar (si rfl rfl T.om rfl T.i5 (aa (pv 2) (aa (aC (aB (K:=K)) (pv 2) (au (ak (K:=K) (wv hr)) (pv 3) ai (λ_ _=>rfl))) af))))) aw)
   (ah (Cy (i:=2) b6.nd rfl (ς rfl) (au (ak (K:=K) (wv hr)) (pv 3) ai (λ_ _=>rfl)) vM)))))
   aZ)) ?_)
  walk_at "b";obtain⟨dx,hs⟩:=R.obj;(refine ρ R.lst λts e hT=>?_);have hlen:ts.length=xs.length:=by rw[hT.length,Ζ]
  have h9:∀y∈xs,y.rows<=9:=λy hy=>(ok.each y hy).2.1.2;have o2:=ok.hi;refine(lc _ dx _ hs T.bE T.bF (Κ _ rfl (bL (.inl (.inl e)) (cv (xs:=ts.map V.ref) (λi σ H'=>H'=H/\(∀j y,j < i->xs[j]?=some y->y.name≠nm)/\∃v,σ=[some (V.ref s),some (V.str (S nm)),some (V.int (Ϝ xs i)),v]) ⟨rfl,λj y hj=>absurd hj (Nat.not_lt_zero _),(MF none rfl)⟩ (λi σ H' _ h=>by rw[h.1];exact .inl (.inl e)) ?_ ?_))))
  ·rintro i y σ H' hy ⟨rfl,hik,v,rfl⟩
   rw[μ] at hy;cases Z7:ts[i]? with
   | none=>rw[Z7] at hy;cases hy
   | some t=>
    rw[Z7] at hy;cases (ϗ hy);(refine ρ (hT.get Z7) λys h1 h2=>?_);rw[μ] at h1;cases Rl:xs[i]? with
    | none=>rw[Rl] at h1;cases h1
    | some y=>
     rw[Rl] at h1;cases (ϗ h1);have Z8:JZ K H' t y.v:=.inl (.inl h2);have hb:=k7 h9 i;have hy9:=h9 y (Ν Rl);have awg:=(Ο.mp Rl).1;walk_at "b";refine bc (v:=.str (S y.name)) Z8 rfl ?_;walk_at "b";refine Ox (λhn=>?_) (λhn=>?_)
     ·have hnn:y.name=nm:=hn
      (revert q;refine IY λk x hk Zn q=>?_);have hki:i=k:=by
       refine asn λhne=>?_;have hkl:=(Ο.mp hk).1;have Pa:=(Ο.mp Rl).1;rcases PX hne with h | h
       ·have:=J1.mp ok.nd i k (by rw[Ζ];omega) (by rw[Ζ];omega) h
        apply this;rw[KZ,KZ,(Ο.mp Rl).2,(Ο.mp hk).2,hnn,Zn]
       ·have:=J1.mp ok.nd k i (by rw[Ζ];omega) (by rw[Ζ];omega) h
        apply this;rw[KZ,KZ,(Ο.mp Rl).2,(Ο.mp hk).2,hnn,Zn]
      subst hki;rw[Rl] at hk;cases (ϗ hk);refine bc (v:=.int y.rows) Z8 rfl ?_;walk_at "b";refine⟨by omega,by omega,by omega,by omega,?_,λl hl=>?_⟩
      ·have:(9:Int)<=sizeLine:=by decide
       omega
      ·refine q l _ hl (Χ.upd hl) ?_
       rw[ae,show((Ϝ xs i:Nat):Int)+(y.rows:Int) - ((Ϝ xs i:Nat):Int)=(y.rows:Int) by omega,ϵ]
     ·refine bc (v:=.int y.rows) Z8 rfl ?_
      walk_at "b";refine⟨λj y' hj ZO=>?_,?_⟩
      ·rcases Nat.lt_or_ge j i with h | h
       ·exact hik j y' h ZO
       ·have:j=i:=by omega
        subst this;rw[Rl] at ZO;cases (ϗ ZO);exact hn
      ·rw[b0 Rl]
       push_cast
       rfl
  ·rintro σ H' ⟨rfl,hik,v,rfl⟩
   rw[Ζ,hlen] at hik;walk_at "b";(revert q;refine IY λk x hk Zn _=>?_);exact absurd Zn (hik k x (Ο.mp hk).1 hk)
def jh (T:Txt w K mg a):Ϥ P w K mg base (Oy P w) 3 a.K7 a.K9 ["self","row"] (yo a.ww a.AC):=by
 refine T.cI.F.Rw bG (λvs H Q E h=>?_) (λϹ A outer s H vs Q E hr h=>?_)
 ·(revert h;refine Kg λs l xs r Τ _=>?_;subst Τ)
  rfl
 ·(revert h;refine Kg λs l xs r Τ=>JT λR ok q=>?_;subst Τ)
  refine(Κ _ (ag (PS.Kf (ax (i:=2) bG.nd rfl (ς rfl) ai))
   (ag (PS.Kf (cE Ϫ rfl (aU (K:=K) (av (K:=K) (pv 0) rfl)) (aT (i:=3) bG.nd rfl (ς rfl)) (ag (Cy (i:=2) bG.nd rfl (ς rfl) (au (ak (K:=K) (wv hr)) (pv 3) ai (λ_ _=>rfl)) vM)
   (ah (aL (pX fe kZ ai (pv 1) (pv 2)) (ah (ar (pv 3))) aw)))))
   (ah (v9 T.m7 T.t7 T.t8 (fP T) (hr.mono (by decide)) rfl T.og T.dn.b (by decide) Yy (aa (pv 1) af))))) ?_)
  walk_at "b";obtain⟨dx,hs⟩:=R.obj;(refine ρ R.lst λts e hT=>?_);have hlen:ts.length=xs.length:=by rw[hT.length,Ζ]
  refine(lc _ dx _ hs T.bE T.bF (Κ _ rfl (bL (.inl (.inl e)) (cv (xs:=ts.map V.ref) (λi σ H'=>H'=H/\(r < 0\/(Ϝ xs i:Int)<=r)/\∃v,σ=[some (V.ref s),some (V.int r),some (V.int (Ϝ xs i)),v]) ⟨rfl,?_,(MF none rfl)⟩ (λi σ H' _ h=>by rw[h.1];exact .inl (.inl e)) ?_ ?_))))
  ·rcases Int.lt_or_le r 0 with h | h
   ·exact .inl h
   ·exact .inr (by unfold Ϝ;simpa using h)
  ·rintro i y σ H' hy ⟨rfl,hik,v,rfl⟩
   rw[μ] at hy;(refine ρ (Ϙ.mp hy) λt Z7 Τ=>?_;subst Τ);(refine ρ (hT.get Z7) λys h1 h2=>?_);rw[μ] at h1;(refine ρ (Ϙ.mp h1) λy Rl Τ=>?_;subst Τ);have Z8:JZ K H' t y.v:=.inl (.inl h2);walk_at "b";refine bc (v:=.int y.rows) Z8 rfl ?_;walk_at "b";have es:=b0 Rl;have Pa:=(Ο.mp Rl).1;have nxt:¬(0<=r/\r < (Ϝ xs i:Int)+y.rows)->(r < 0\/(Ϝ xs (i+1):Int)<=r)/\(Ϝ xs i:Int)+y.rows=(Ϝ xs (i+1):Int):=λz=>by
    rw[es];constructor
    ·push_cast
     omega
    ·push_cast;rfl
   refine Ox (λh0=>Ox (λh1=>?_) (λh1=>nxt (λz=>h1 z.2))) (λh0=>nxt (λz=>h0 z.1));have hi0:(Ϝ xs i:Int)<=r:=by omega
   rcases q with⟨k,x,hk,a1,a2,q⟩ | ⟨hb,_⟩
   ·have ek:=b0 hk
    rw[ek] at a2
    push_cast at a2
    have hki:k=i:=by
     rcases Nat.lt_trichotomy k i with h | h | h
     ·have:=iH hk h;omega
     ·exact h
     ·have:=iH Rl h;omega
    subst hki;rw[Rl] at hk;cases (ϗ hk);exact q t h2
   ·have:=iH Rl Pa
    omega
  ·rintro σ H' ⟨rfl,hik,v,rfl⟩
   rw[Ζ,hlen] at hik;walk_at "b";rcases q with⟨k,x,hk,a1,a2,_⟩ | ⟨_,q⟩
   ·have hkl:=(Ο.mp hk).1
    have:=iH hk hkl;rw[b0 hk] at a2
    push_cast at a2
    omega
   ·exact q.bears
def kE (T:Txt w K mg a):Ϥ P w K mg base (Oy P w) 4 a.LJ a.LM ["self","row"] (DB 0 a.ww a.AC):=by
 refine T.cU.F.Rw ku (λvs H Q E h=>?_) (λϹ A outer s H vs Q E hr h=>?_)
 ·(revert h;refine Kg λs l xs r Τ _=>?_;subst Τ)
  rfl
 ·(revert h;refine Kg λs l xs r Τ=>JT λR ok q=>?_;subst Τ)
  refine(Κ _ (ah (ar (au (ak (K:=K) (wv hr)) (aR (pv 0) T.bE T.cI.m (jh T) (hr.mono (by decide)) T.cI.b .nil Jm (aa (pv 1) af)) ai (λ_ _=>rfl)))) ?_);walk_at "b";obtain⟨dx,hs⟩:=R.obj;refine(ϒ dx _ hs rfl (ϒ l xs R ok ?_));rcases q with⟨k,x,hk,a1,a2,q⟩ | ⟨hb,q⟩
  ·exact .inl (Ky k x hk a1 a2 (λt ht=>bc (v:=it 0 x.v) (JZ.of ht) rfl q))
  ·exact .inr ⟨hb,q⟩
def lK (T:Txt w K mg a):Ϥ P w K mg base (Oy P w) 4 a.Ml a.Mv ["self","name","key"] (qu a.ww):=by
 refine T.dw.F.Rw fw (λvs H Q E h=>?_) (λϹ A outer s H vs Q E hr h=>?_)
 ·(revert h;refine Ld λs l xs nm key Τ _=>?_;subst Τ)
  rfl
 ·(revert h;refine Ld λs l xs nm key Τ=>JT λR ok q=>?_;subst Τ)
  refine(Κ _ (ag (ax (i:=3) fw.nd rfl (ς rfl) (aR (pv 0) T.bE T.dv.m (lJ T) (hr.mono (by decide)) T.dv.b .nil Jm (aa (pv 1) af)))
   (ah (PS.Kf (ar (au (ak (K:=K) (wv hr)) (pv 3) (aq (Cn T) (hr.mono (by decide)) rfl T.mZ.m T.mZ.F.kp T.mZ.b .nil ό (aa (pv 2) (aa (az (aO (K:=K)) (by rfl) T.cq u8 (aa (pv 3) af)) af))) (λ_ _=>rfl)))))) ?_)
  walk_at "b";obtain⟨dx,hs⟩:=R.obj;(revert q;refine IY λk x hk Zn q=>?_)
  ·have hx:=(ok.each x (Ν hk)).2.1
   refine(ϒ dx _ hs rfl (ϒ l xs R ok (ϒ k x hk Zn (λD H1 hD s1 h1=>bY (.inl (.inl h1)) ?_))));have el:(Qf (Ϝ xs k) x.rows).length=x.rows:=by simp[Qf]
   rw[el];have h0:0<=Uw key % (x.rows:Int):=NT _ (by omega);have h2:Uw key % (x.rows:Int) < x.rows:=Mf _ (by omega);refine(ύ _ rfl (by omega) (aJ (v:=.int (Mh xs k x key)) (.inl (.inl h1)) (aW h0 ?_) (q H1 s1)));unfold Qf Mh;rw[μ,List.getElem?_range (by omega)];simp only[J7]
   push_cast
   rfl
def oW (T:Txt w K mg a):Zg P w K mg base 1 a.Qk a.Qm ["text"] qy:=by
 refine T.j8.F.ok1 yO (s!"d") (λvs H Q E h=>?_) (λϹ A m outer s H vs Q E hr h=>?_)
 ·(revert h;refine Ϟ λa Τ _=>?_;subst Τ)
  rfl
 ·(revert h;refine G' λa Τ hl q=>?_;subst Τ)
  refine(Κ _ (DE (wm (K:=K) (c:=59) (z:=[126,115]) (s!"d") (s!"d") (s!"d") (wm (K:=K) (c:=126) (z:=[126,119]) (s!"d") (s!"d") (s!"d") (PE.one (pv 0))))) ?_);have e1:(db [126,119] (ϡ 126 a)).length<=2 * a.length:=by
   have:db [126,119] (ϡ 126 a)=a.flatMap λx=>if x=126 then[126,119] else[x]:=cW _ _ _;rw[this];clear this hl q
   induction a with
   | nil=>exact Φ _
   | cons x a ih=>
    rw[Do,Ω,Ψ]
    by_cases h:x=126
    ·rw[δ h];simp only[Ψ,ϕ];omega
    ·rw[Υ h];simp only[Ψ,ϕ];omega
  refine(ύ a rfl ?_ (ύ _ rfl ?_ ?_))
  ·simp only[Ψ,ϕ];omega
  ·simp only[Ψ,ϕ];omega
  ·rw[HI];exact q
def rS (T:Txt w K mg a):Zg P w K mg base 2 a.R9 a.Sn ["fields"] (tw K):=by
 refine T.bD.F.okV B1 (λvs H Q E h=>?_) (λϹ A m outer s H vs Q E hr hq h=>?_)
 ·(revert h;refine sK λp l Τ _=>?_;subst Τ)
  rfl
 ·(revert h;refine NB λp l Τ hp hl q=>?_;subst Τ)
  refine(Κ _ (ah (ar (bf (K:=K) PySem.F.plainAttrs_str PySem.F.slot_str_join PySem.F.type_str_join (gZ (K:=K)) ao (aa (DD (K:=K) ["fields"] ["fields"] (Λ qP) (by exact⟨rfl,s!"d",s!"d",s!"d",s!"d",s!"d",s!"d",s!"d",s!"d"⟩) hq (pv 0) (λC₁ s₁ H₁ f₁ q₁=>(wj (oW T) (hr.mono (by decide)) q₁ rfl T.j8.m T.j8.F.kp T.j8.b .nil (aa (pv 0) af)))) af)))) ?_);walk_at "b";have Z:4000000<=sizeLine:=by decide
  have e1:l.length<=1000000:=by omega
  have e2:∀x∈l,x.length<=1000000:=λx hx=>ζ (qw (τ.mpr ⟨x,hx,rfl⟩)) (show(l.map Ϻ).sum<=1000000 by omega);refine⟨⟨_,hp⟩,cR hp (by unfold tx;rw[Ζ];omega) (λv=>match v with | .str (⟨z⟩)=>.str (S (gd z.toList)) | x=>x) (λx H' hx s Qe qe=>?_) λD H' hD s1 hd=>?_⟩
  ·unfold tx at hx
   (refine ρ (τ.mp hx) λc hc Τ=>?_;subst Τ);walk_at "b";exact⟨e2 c hc,qe H' (Χ.refl _)⟩
  ·refine(Κ ([59]) (s!"d") (Κ D rfl (ύ (l.map gd) (.inl (.inl ?_)) ?_ ?_)))
   ·rw[hd];unfold tx;rw[χ,χ];rfl
   ·have:∀l:List (List Nat),((l.map gd).map Ϻ).sum<=2 * (l.map Ϻ).sum:=by
     intro l
     induction l with
     | nil=>exact Φ _
     | cons x l ih=>have:=nM x;simp only[ο,am];omega
    have:=this l;simp only[Ζ,Ψ,ϕ];omega
   ·exact q _ s1
def oq (T:Txt w K mg a):Ϥ P w K mg base IL 2 a.R9 a.Sn ["fields"] (tw K):=(rS T).ok
def Cp (T:Txt w K mg a):Ϥ P w K mg base IL 1 a.Vn a.Vx ["text"] GP:=by
 refine T.mV.F.ok j5 (λvs H Q E h=>?_) (λϹ A outer s H vs Q E hr h=>?_)
 ·(revert h;refine Ϟ λl Τ _=>?_;subst Τ)
  rfl
 ·(revert h;refine G' λl Τ hl q=>?_;subst Τ)
  refine(Κ _ (ag (ax (i:=1) j5.nd rfl (ς rfl) ai)
   (ag (cE Ϫ rfl (aU (K:=K) (pv 0)) (aT (i:=2) j5.nd rfl (ς rfl)) (ah (ax (i:=1) j5.nd rfl (ς rfl) (aC xP (aC Hk (aC CH (aC FW (pv 1) ai) ai) (aC CG (pv 1) ai)) (az jZ (by rfl) T.Ak Za (aa (pv 2) af))))))
   (ah (ar (pv 1))))) ?_)
  walk_at "b";refine qh (λi σ H'=>H'=H/\∃v,σ=[some (.str (S l)),some (.int (sumF 0 (l.take i):Nat)),v]) ⟨rfl,(MF none rfl)⟩ ?_ ?_
  ·rintro i c σ H' hc ⟨rfl,v,rfl⟩
   have SS:l[i]?=some c:=by simpa using hc
   have hb:sumF 0 (l.take i) < 65536:=zP (λx hx=>NL (hl x (Ou hx)) (by decide)) (by decide);have hs:=DA (c:=c) hb;walk_at "b";rw[Bj SS,<-hs];refine⟨by omega,?_⟩;simp
  ·rintro σ H' ⟨rfl,v,rfl⟩
   walk_at "b";have e:l.take (S l).cps.size=l:=by simp
   rw[e];exact q
def zg (T:Txt w K mg a):Ϥ P w K mg base IL 2 a.TC a.TZ ["number","body"] Bp:=by
 refine T.j9.F.ok qR (λvs H Q E h=>?_) (λϹ A outer s H vs Q E hr h=>?_)
 ·(revert h;refine sK λn b Τ _=>?_;subst Τ)
  rfl
 ·(revert h;refine IY λn b Τ g q=>?_;subst Τ)
  refine(Κ _ (ag (ax (i:=2) qR.nd rfl (ς rfl) (aG (aa (bf (K:=K) PySem.F.plainAttrs_str PySem.F.slot_str_zfill PySem.F.type_str_zfill qA (aQ (a8 (K:=K)) rfl T.cY Iv (aa (pv 0) af)) (aa ai af)) (aa (bf (K:=K) PySem.F.plainAttrs_str PySem.F.slot_str_zfill PySem.F.type_str_zfill qA (aQ (a8 (K:=K)) rfl T.cY Iv (aa (aq (Cp T) (hr.mono (by decide)) rfl T.mV.m T.mV.F.kp T.mV.b .nil ό (aa (pv 1) af)) af)) (aa ai af)) (aa (bf (K:=K) PySem.F.plainAttrs_str PySem.F.slot_str_zfill PySem.F.type_str_zfill qA (aQ (a8 (K:=K)) rfl T.cY Iv (aa (az (aO (K:=K)) (by rfl) T.cq u8 (aa (pv 1) af)) af)) (aa ai af)) af)))))
   (ah (ar (aC (aB (K:=K)) (aC (aB (K:=K)) (bf (K:=K) PySem.F.plainAttrs_str PySem.F.slot_str_join PySem.F.type_str_join (gZ (K:=K)) ao (aa (pv 2) af)) ao) (pv 1))))) ?_)
  walk_at "b";have hs:=g.sum;have hl:=g.l;have hn:=g.n;have Z:40000<=sizeLine:=by decide
  have z6:=nO (w:=6) (by decide) g.n;have z5:=nO (w:=5) (by decide) (NL g.sum (show 65536 < 10 ^ 5 by decide));have z4:=nO (w:=4) (by decide) g.l;refine⟨a9 (by omega) (by omega),(Κ n rfl (RI 6 rfl (by decide) g.c (a9 (by omega) (by omega)) (Κ (sumF 0 b) rfl (RI 5 rfl (by decide) (by omega) (a9 (by omega) (by omega)) (Κ b.length rfl (Jw 4 rfl (by decide) (by omega) (λp hp=>(Κ ([32]) (s!"d") (ύ ([zf 6 n,zf 5 (sumF 0 b),zf 4 b.length]) (.inl (.inl ae)) ?_ (Κ ([32]) (s!"d") ?_))))))))))⟩
  ·simp only[ο,Ja,am,UZ,Ψ,ϕ];omega
  have ej:db [32] [zf 6 n,zf 5 (sumF 0 b),zf 4 b.length]++[32]=hdL n b:=by
   show zf 6 n++[32]++(zf 5 (sumF 0 b)++[32]++zf 4 b.length)++[32]=_;unfold hdL pfL;simp
  have el:=congrArg Ϻ ej;rw[g.hd,Ω,jp] at el;rw[ej,g.hd];refine⟨?_,by omega,q _ (Χ.upd hp)⟩;simp only[Ψ,ϕ];omega
def ot (T:Txt w K mg a):Ϥ P w K mg base IL 1 a.Lh a.Nv ["self"] (yq a.ML):=by
 refine T.je.F.ok nU (λvs H Q E h=>?_) (λϹ A outer s H vs Q E hr h=>?_)
 ·(revert h;refine sK λx dx Τ _=>?_;subst Τ)
  rfl
 ·(revert h;refine IY λx dx Τ hx q=>?_;subst Τ)
  refine(Κ _ (ah (bw (pv 0) (aG af) rfl)) ?_);walk_at "b";refine⟨by decide,λd hd=>?_⟩;have UT:d≠x:=λz=>by rw[z,hx] at hd;cases hd
  refine(IN _ dx ([]) ((aj (ω UT)).trans hx) T.gG T.cz (by decide) ?_);refine q d _ hd UT ((ϳ.new hd).trans (ϳ.upd (by simp) (bZ ((aj (ω UT)).trans hx)))) ⟨⟨dx,ae⟩,(aj UT).trans ae⟩
def kS (T:Txt w K mg a):Ϥ P w K mg base IL 3 a.Pt a.PD ["self","bodies"] (wu a.ML):=by
 refine T.du.F.ok cO (λvs H Q E h=>?_) (λϹ A outer s H vs Q E hr h=>?_)
 ·(revert h;refine Ld λr p l ls act Τ _=>?_;subst Τ)
  rfl
 ·(revert h;refine Ld λr p l ls act Τ=>P6 λR hp NV hb hn q=>?_;subst Τ)
  refine(Κ _ (ag (ax (i:=2) cO.nd rfl (ς rfl) (aC xO (az (aO (K:=K)) (by rfl) T.cq u8 (aa (pv 1) af)) ai))
   (ag (cE Ϫ rfl (uB rfl T.oU (aa (pv 1) af)) (iE (K:=K) (n:=2) rfl (bt (aT (i:=3) cO.nd rfl (ς rfl)) (bt (aT (i:=4) cO.nd rfl (ς rfl)) ix))) (ag (ax (i:=5) cO.nd rfl (ς rfl) (jk (aF (cC (K:=K) (hU hr)) (pv 3) (pv 2) (ϸ _)) ao ao))
   (ah (aN (bf (K:=K) PySem.F.plainAttrs_list PySem.F.slot_list_append PySem.F.type_list_append cu (av (K:=K) (pv 0) rfl) (aa (aq (zg T) (hr.mono (by decide)) rfl T.j9.m T.j9.F.kp T.j9.b .nil ό (aa (az (aO (K:=K)) (by rfl) T.cq u8 (aa (av (K:=K) (pv 0) rfl) af)) (aa (aC (aB (K:=K)) (pv 5) (pv 4)) af))) af))))))
   (ah (ar (az (aO (K:=K)) (by rfl) T.cq u8 (aa (av (K:=K) (pv 0) rfl) af)))))) ?_)
  have Z:40000<=sizeLine:=by decide
  walk_at "b";refine bY (.inl (.inl hp)) ?_;walk_at "b";have lt:(tx act).length=act.length:=by unfold tx;rw[Ζ]
  rw[lt];refine⟨⟨_,.inl (.inl hp)⟩,?_⟩;refine AV (xs:=tx act) (λi σ H'=>ϳ [l] H H'/\KJ a.ML H' r l (ls++Vi ls.length ((Xc act).take i))/\∃v1 v2 v3,σ=[some (.ref r),some (.ref p),some (.int ((act.length:Int) - 1)),v1,v2,v3]) ⟨ϳ.refl _,by simpa [Vi] using R,(LD none none none rfl)⟩ (λi σ H' _ h=>.inl (.inl (h.1.keep _ _ hp (by simpa using NV)))) ?_ ?_
  ·rintro i x t σ H' hx ht ⟨c,R',v1,v2,v3,rfl⟩
   unfold tx at hx;rw[μ,Ϙ] at hx;(revert hx;refine Ϟ λb hbi Τ=>?_;subst Τ);have hi:i < act.length:=(Ο.mp hbi).1;have okb:=hb b (Ν hbi);have sg:=zU act i b hbi;have c1:ϳ [l] H' (upd H' t (.tup [.int (i:Nat),.str (S b)])):=ϳ.new ht;have R1:=R'.same (Χ.upd (o:=.tup [.int (i:Nat),.str (S b)]) ht);have ht1:upd H' t (.tup [.int (i:Nat),.str (S b)]) t=some (.tup [.int (i:Nat),.str (S b)]):=ae;generalize upd H' t (.tup [.int (i:Nat),.str (S b)])=H1 at c1 R1 ht1 ⊢;obtain⟨dx,MR⟩:=R1.obj;have tl:(ls++Vi ls.length ((Xc act).take i)).length=ls.length+i:=by
    rw[Ω,mq,Ϭ,fV];omega
   refine(Ky t _ rfl (.inl (.inl ht1)) rfl (gl _ _ rfl (ϒ _ _ rfl rfl ?_)));refine YB λRy Zm=>?_;walk_at "b"
   by_cases hk:(i:Int)=(act.length:Int) - 1
   ·rw[δ hk,Zm]
    clear Zm;walk_at "b";rw[Υ (by omega)] at sg;have R2:=R1.lst;refine(lc _ dx _ MR T.gG T.cz (ύ _ rfl (.inl ⟨_,.inl (.inl R2)⟩) (lc _ dx _ MR T.gG T.cz (Κ _ rfl (bY (.inl (.inl R2)) ?_)))));refine(ύ ([46]) (s!"d") (by have:=okb.2;simp only[Ψ,ϕ];omega) (ύ (ls.length+i) ?_ ?_ (λH2 s2=>(Κ l rfl (ύ _ (s2 _ _ R2) ?_ ?_)))))
    ·unfold tx;rw[Ζ,tl]
    ·refine⟨by omega,λx hx=>?_,by have:=okb.2;simp only[Ω,Ψ,ϕ];omega⟩
     rcases ϑ.mp hx with hx | hx
     ·rw[Μ.mp hx];decide
     ·exact okb.1 x hx
    ·unfold tx;rw[Ζ,tl];omega
    ·have Qa:=s2 _ _ R2
     refine⟨c.trans (c1.trans ((ϳ.of_same s2).trans (ϳ.upd (by simp) (uA Qa)))),⟨⟨dx,(aj R1.ne).trans (s2 _ _ MR)⟩,?_⟩⟩
     ·rw[ae,k8 sg,wt,Ϭ,fV,JA (by omega)]
      unfold tx;simp
   ·rw[Υ hk,Zm]
    clear Zm;walk_at "b";rw[δ (by omega)] at sg;have R2:=R1.lst;refine(lc _ dx _ MR T.gG T.cz (ύ _ rfl (.inl ⟨_,.inl (.inl R2)⟩) (lc _ dx _ MR T.gG T.cz (Κ _ rfl (bY (.inl (.inl R2)) ?_)))));refine(ύ ([43]) (s!"d") (by have:=okb.2;simp only[Ψ,ϕ];omega) (ύ (ls.length+i) ?_ ?_ (λH2 s2=>(Κ l rfl (ύ _ (s2 _ _ R2) ?_ ?_)))))
    ·unfold tx;rw[Ζ,tl]
    ·refine⟨by omega,λx hx=>?_,by have:=okb.2;simp only[Ω,Ψ,ϕ];omega⟩
     rcases ϑ.mp hx with hx | hx
     ·rw[Μ.mp hx];decide
     ·exact okb.1 x hx
    ·unfold tx;rw[Ζ,tl];omega
    ·have Qa:=s2 _ _ R2
     refine⟨c.trans (c1.trans ((ϳ.of_same s2).trans (ϳ.upd (by simp) (uA Qa)))),⟨⟨dx,(aj R1.ne).trans (s2 _ _ MR)⟩,?_⟩⟩
     ·rw[ae,k8 sg,wt,Ϭ,fV,JA (by omega)]
      unfold tx;simp
  ·rintro σ H' ⟨c,R',v1,v2,v3,rfl⟩
   walk_at "b";obtain⟨dx,MR⟩:=R'.obj;refine(lc _ dx _ MR T.gG T.cz (Κ _ rfl (bY (.inl (.inl R'.lst)) ?_)));rw[show(Xc act).take (tx act).length=Xc act by rw[lt,<-fV,sB]] at R' ⊢;have e:(tx (ls++Vi ls.length (Xc act))).length=ls.length+act.length:=by unfold tx;rw[Ζ,Ω,mq,fV]
   rw[e];exact q _ c R'
def ng (T:Txt w K mg a):Ϥ P w K mg base IL 1 a.KP a.M0 ["self"] (By a.Kn 0):=by
 refine T.ic.F.ok mL (λvs H Q E h=>?_) (λϹ A0 outer s0 H vs Q E hr h=>?_)
 ·(revert h;refine sK λx dx Τ _=>?_;subst Τ)
  rfl
 ·(revert h;refine IY λx dx Τ hx q=>?_;subst Τ)
  refine(Κ _ (ag (bw (pv 0) (aG af) rfl)
   (ah (bw (pv 0) d6 rfl))) ?_)
  walk_at "b";refine⟨Ϛ _,λdl VX=>?_⟩;have ndl:dl≠x:=λz=>by rw[z,hx] at VX;cases VX
  refine(IN _ dx ([]) ((aj (ω ndl)).trans hx) T.fL T.jQ (by decide) (λbz Zo=>?_));have nbz:bz≠x:=λz=>by rw[z,ae] at Zo;cases Zo
  have nbd:bz≠dl:=λz=>by rw[z,aj ndl,ae] at Zo;cases Zo
  have ajj:H bz=none:=by rw[aj nbz,aj nbd] at Zo;exact Zo
  refine(IN _ dx _ ((aj (ω nbz)).trans ae) T.fL T.kQ (show 1 < 1000 by decide) ?_);have m:x∈[x]:=by simp
  refine q dl bz _ VX ajj ?_ ⟨⟨dx,ae⟩,?_,rfl,λi u y h=>(by simp at h),Zx,(ύ ([]) ?_ (Φ _) (λz=>rfl)),by simp⟩
  ·exact(ϳ.new VX).trans ((ϳ.upd m (bZ ((aj (ω ndl)).trans hx))).trans ((ϳ.new Zo).trans (ϳ.upd m (bZ ((aj (ω nbz)).trans ae)))))
  ·exact(aj ndl).trans ((aj (ω nbd)).trans ((aj ndl).trans ae))
  ·exact(aj nbz).trans ae
def ik (T:Txt w K mg a):Ϥ P w K mg base IL 1 a.Nt a.Nw ["self","sender"] (Bz a.Kn 0):=by
 refine T.cp.F.ok nV (λvs H Q E h=>?_) (λϹ A0 outer s0 H vs Q E hr h=>?_)
 ·(revert h;refine ME λr dl bz us M s Τ _=>?_;subst Τ)
  rfl
 ·(revert h;refine ME λr dl bz us M s Τ=>Jb λD q=>?_;subst Τ)
  refine(Κ _ (ah (ar (qb (wv hr) (av (K:=K) (pv 0) rfl) (pv 1) ai ⟨rfl,rfl,rfl,rfl⟩))) ?_);obtain⟨dx,YN⟩:=D.obj;(refine ϭ D.bsy λϔ hb lb vb=>?_);walk_at "b";have gg:=Jc.k (k:=.inr s) hb;refine(lc _ dx _ YN T.fL T.kQ (Κ _ (E4 dl bz) (ύ bz rfl (.inl ⟨ϔ,.inl hb⟩) (Κ _ gg ?_))));rw[vb s];cases e:M.B s with
  | none=>rw[e] at q;exact q
  | some n=>rw[e] at q;exact q
def sG (T:Txt w K mg a):Ϥ P w K mg base IL 3 a.Pw a.PF ["ends","paper","pairs"] DY:=by
 refine T.eR.F.ok gM (λvs H Q E h=>?_) (λϹ A0 outer s0 H vs Q E hr h=>?_)
 ·(revert h;refine Ka λA B p Τ _=>?_;subst Τ)
  rfl
 ·(revert h;refine Kx λA B p Τ hp q=>?_;subst Τ)
  refine(Κ _ (ah (cE Ϫ rfl (Dx (K:=K) rfl T.oU (pv 2)) (iE (K:=K) (n:=2) rfl (bt (aT (i:=3) gM.nd rfl (ς rfl)) (bt (aT (i:=4) gM.nd rfl (ς rfl)) ix))) aZ)) ?_);walk_at "b";refine⟨⟨[],.inl (.inl hp)⟩,yl (xs:=[]) (λi σ H'=>H'=H) rfl (λi σ H' _ z=>by rw[z];exact .inl (.inl hp)) (λi y U σ H' hy _ _=>nomatch hy) λσ H' z=>?_⟩;subst z;exact q
def zi (T:Txt w K mg a):Ϥ P w K mg base IL 4 a.TN a.T9 ["ends","paper","pairs"] (wX K):=by
 refine T.kg.F.ok iN (λvs H Q E h=>?_) (λϹ A0 outer s0 H vs Q E hr h=>?_)
 ·(revert h;refine Kg λq0 B p e0 Τ _=>?_;subst Τ)
  rfl
 ·(revert h;refine O2 λq0 B p e0 Τ hq hB hp q=>?_;subst Τ)
  refine(Κ _ (ag (ax (i:=3) iN.nd rfl (ς rfl) (aQ (iD (K:=K)) rfl T.om P2 (aa (pv 0) af)))
   (ag (ax (i:=4) iN.nd rfl (ς rfl) (zw ud ai))
   (ag (Cz Ϫ (aF kZ (pv 4) (az (aO (K:=K)) (by rfl) T.cq u8 (aa (pv 1) af)) (ϸ _)) (ag (ax (i:=4) iN.nd rfl (ς rfl) (az (aO (K:=K)) (by rfl) T.cq u8 (aa (pv 1) af)))
   (ah (aN (aq (sG T) (hr.mono (by decide)) rfl T.eR.m T.eR.F.kp T.eR.b .nil ό (aa (pv 3) (aa (pv 1) (aa (pv 2) af))))))))
   (ah (ar (pv 3)))))) ?_)
  walk_at "b";refine nH (.inl hq) λA hA=>?_;have sA:Χ H (upd H A (.lst (e0.map V.int))):=Χ.upd hA;have aA:upd H A (.lst (e0.map V.int)) A=some (.lst (e0.map V.int)):=ae;generalize upd H A (.lst (e0.map V.int))=H1 at sA aA ⊢;refine(Κ (λm σ H'=>∃many:Int,m=(if many < 0 then 1 else 0)/\H'=H1/\σ=[some (V.ref q0),some (V.ref B),some (V.ref p),some (V.ref A),some (V.int many)]) (ϒ _ (-1) rfl rfl rfl) ?_)
  rintro m σ H' ⟨many,rfl,rfl,rfl⟩
  have hB1:GT K H' B []:=.inl (.inl (sA _ _ hB));walk_at "b";refine bY hB1 ?_;rw[Df];refine(Κ _ rfl ?_)
  by_cases KI:many < ((([]:List V).length:Nat):Int)
  ·rw[δ (j' KI)]
   refine(Κ (λσ' H2=>H2=H'/\σ'=[some (V.ref q0),some (V.ref B),some (V.ref p),some (V.ref A),some (V.int 0)]) ?_ (bY hB1 ?_))
   ·rintro σ' H2 ⟨rfl,rfl⟩
    exact(Κ 0 (by rw[δ (show many < 0 from KI)];decide) (ύ 0 rfl rfl rfl))
   ·exact⟨sA _ _ hp,rfl,rfl⟩
  ·rw[Υ (λz=>KI (of_decide_eq_true z))]
   exact q A H' hA sA aA
def Cq (T:Txt w K mg a):Ϥ P w K mg base IL 5 a.Vs a.VC ["ends","pairs"] (yK K):=by
 refine T.m3.F.ok B9 (λvs H Q E h=>?_) (λϹ A0 outer s0 H vs Q E hr h=>?_)
 ·(revert h;refine Ka λq0 p e0 Τ _=>?_;subst Τ)
  rfl
 ·(revert h;refine Q8 λq0 p e0 Τ hq hp q=>?_;subst Τ)
  refine(Κ _ (ah (ar (aq (zi T) (hr.mono (by decide)) rfl T.kg.m T.kg.F.kp T.kg.b .nil ό (aa (pv 0) (aa (aG af) (aa (pv 1) af)))))) ?_);walk_at "b";refine⟨Ϛ _,λB hB=>(Jw e0 ((Χ.upd hB).seq hq) ae ((Χ.upd hB) _ _ hp) (λA H' hA s hA'=>q A H' (aV (Χ.upd hB) hA) ((Χ.upd hB).trans s) hA'))⟩
def kF (T:Txt w K mg a):Ϥ P w K mg base IL 1 a.Kd a.LO ["self"] (BA a.KN):=by
 refine T.fJ.F.ok kA (λvs H Q E h=>?_) (λϹ A outer s H vs Q E hr h=>?_)
 ·(revert h;refine sK λx dx Τ _=>?_;subst Τ)
  rfl
 ·(revert h;refine IY λx dx Τ hx q=>?_;subst Τ)
  refine(Κ _ (ag (bw (pv 0) d6 rfl)
   (ah (bw (pv 0) d6 rfl))) ?_)
  walk_at "b";refine λl hl=>?_;have nl:l≠x:=λz=>by rw[z,hx] at hl;cases hl
  refine(IN _ dx ([]) ((aj (ω nl)).trans hx) T.rK T.pA (by decide) (λt ht=>?_));have nt:t≠x:=λz=>by rw[z,ae] at ht;cases ht
  refine(IN _ dx _ ((aj (ω nt)).trans ae) T.rK T.m6 (show 1 < 1000 by decide) ?_);have ntl:t≠l:=λz=>by rw[aj nt,z,ae] at ht;cases ht
  have ht0:H t=none:=by rw[aj nt,aj ntl] at ht;exact ht
  have m:x∈[x]:=by simp
  refine q l t _ hl ht0 ?_ ⟨⟨dx,ae⟩,(Jw ([]) ?_ (Ϛ _) (λz=>rfl) (λp=>rfl)),(ύ ([]) ?_ (Ϛ _) (λz=>rfl)),ω nl,ω nt,ω ntl⟩
  ·exact(ϳ.new hl).trans ((ϳ.upd m (bZ ((aj (ω nl)).trans hx))).trans ((ϳ.new ht).trans (ϳ.upd m (bZ ((aj (ω nt)).trans ae)))))
  ·exact(aj nl).trans ((aj (ω ntl)).trans ((aj nl).trans ae))
  ·exact(aj nt).trans ae
def sH (T:Txt w K mg a):Ϥ P w K mg base IL 1 a.Ps a.PB ["owner"] wy:=Ϥ.never
def nh (T:Txt w K mg a):Ϥ P w K mg base IL 1 a.QG a.QR ["word"] uL:=by
 refine T.cG.F.ok uV (λvs H Q E h=>?_) (λϹ A outer s H vs Q E hr h=>?_)
 ·(revert h;refine Ϟ λo Τ _=>?_;subst Τ)
  rfl
 ·(revert h;refine G' λo Τ hl q=>?_;subst Τ)
  refine(Κ _ (ah (ar (jk (ny (ub (pv 0))) ao (aC (aB (K:=K)) ao (pv 0))))) ?_);cases o with
  | none=>
   simp only[wV];walk_at "c";rw[show Α "-"=S [45] by decide +kernel];exact q
  | some w0=>
   simp only[wV];walk_at "c";exact(ύ ([61]) (s!"d") (ζ (show[61].length+w0.length<=1001 by have:=hl w0 rfl;simp;omega) (by decide)) q)
def zj (T:Txt w K mg a):Ϥ P w K mg base IL 2 a.TF a.T3 ["part","value"] yw:=by
 refine T.kc.F.ok yQ (λvs H Q E h=>?_) (λϹ A outer s H vs Q E hr h=>?_)
 ·(revert h;refine Ka λp v t Τ _=>?_;subst Τ)
  rfl
 ·(revert h;refine Q8 λp v t Τ hp hl q=>?_;subst Τ)
  refine(Κ _ (ag (aL (aF (uz (K:=K) (wv hr)) (pv 0) (sY (K:=K) T.Fn) (by rfl)) (ah (ar (pv 1))) aw)
   (ag (aL (aF (cC (K:=K) (hU hr)) (pv 0) ao (ϸ _)) (ah (ar (aq (nh T) (hr.mono (by decide)) rfl T.cG.m T.cG.F.kp T.cG.b .nil ό (aa (pv 1) af)))) aw)
   (ag (aL (aF (cC (K:=K) (hU hr)) (pv 0) ao (ϸ _)) (ah (ar (aq (sH T) (hr.mono (by decide)) rfl T.iR.m T.iR.F.kp T.iR.b .nil ό (aa (pv 1) af)))) aw)
   (ah (ar (aQ (a8 (K:=K)) rfl T.cY Iv (aa (pv 1) af))))))) ?_)
  walk_at "c";intro p1 UF;refine Dg (.inr (UF H)) rfl rfl (Κ _ rfl ?_);rw[show inV (V.str p) [V.str (Α "sender"),V.str (Α "key"),V.str (Α "group"),V.str (Α "shelf"),V.str (Α "taker"),V.str (Α "reader")]=decide (p∈Qi) from DH p Qi];rcases hp with⟨h1,rfl⟩ | ⟨rfl,o,rfl,rfl⟩ | ⟨h1,h2,h3,n,rfl,h4,rfl⟩
  ·rw[δ (j' h1)]
   exact q
  ·rw[Υ (s!"d"),δ rfl]
   refine(ύ o rfl (λw0 e=>?_) q);subst e;have:(Jq (some w0)).length=w0.length+1:=rfl;omega
  ·rw[Υ (by simpa using h1),Υ h2,Υ h3]
   exact(ύ _ rfl (a9 (by omega) (by omega)) q)
def jT (T:Txt w K mg a):Ϥ P w K mg base IL 1 a.Sa a.So ["name","values"] (wz a.Jp a.JL):=by
 refine T.bM.F.ok fY (λvs H Q E h=>?_) (λϹ A outer s H vs Q E hr h=>?_)
 ·(revert h;refine Kg λn p pa ps Τ _=>?_;subst Τ)
  rfl
 ·(revert h;refine O2 λn p pa ps Τ hp hn ok q=>?_;subst Τ)
  refine(Κ _ (ag (ax (i:=2) fY.nd rfl (ς rfl) (zG (gS ao (pv 0) zF) rfl rfl (by simp) (by decide)))
   (ag (cE Ϫ rfl (EV (K:=K) rfl T.FH (aa (qC T.Al (pv 0) (λ_ _=>rfl)) (aa (pv 1) af))) (iE (K:=K) (n:=2) rfl (bt (aT (i:=3) fY.nd rfl (ς rfl)) (bt (aT (i:=4) fY.nd rfl (ς rfl)) ix))) (ah (iz (pv 4) (iy (pv 2) (pv 3) (eK (wv hr))))))
   (ah (ar (pv 2))))) ?_)
  walk_at "c";intro D hD;obtain⟨hm,hT⟩:(n,V.ref pa)∈[(Α "hail",V.ref a.Jp),(Α "put",V.ref a.JL)]/\∀H,JZ K H pa ((ps.map (·.1)).map V.str):=by
   generalize hl:ps.map (·.1)=l at hn;cases hn with
   | Le=>exact⟨by simp,T.kR⟩
   | put=>exact⟨by simp,T.m9⟩
  have nDp:D≠p:=λz=>by rw[z,hp] at hD;cases hD
  generalize hH1:upd (upd H D (.dK [])) D (.dK (O9 [] [((.inr (Α "event"):Key),V.str n)]))=H1;have s1:Χ H H1:=by rw[<-hH1];exact(Χ.upd hD).wr hD
  have hD1:H1 D=some (.dK [((.inr (Α "event"):Key),V.str n)]):=by rw[<-hH1];exact ae
  refine⟨ae,(ύ ([((.inr (Α "event"):Key),V.str n)]) rfl (show 1<=15 by decide) (ύ (n,.ref pa) hm rfl (Jw pa rfl ⟨_,hT _⟩ ⟨_,by rw[hH1];exact .inl (.inl (s1 _ _ hp))⟩ ?_)))⟩;rw[hH1];have hlen:=ok.len;refine Bd (xs:=(ps.map (·.1)).map V.str) (ys:=ps.map λx=>x.2.1) (λi σ Hx=>Χ H Hx/\Hx D=some (.dK (Oz n (ps.take i)))/\∃v3 v4,σ=[some (V.str n),some (V.ref p),some (V.ref D),v3,v4]) (by simp) ⟨s1,hD1,(Nd none none rfl)⟩
   (λi σ Hx _ z=>⟨hT _,.inl (.inl (z.1 _ _ hp))⟩) ?_ ?_
  ·rintro i x y U σ Hx hx hy hU ⟨sx,hDx,v3,v4,rfl⟩
   rw[χ,μ] at hx;rw[μ] at hy;cases e:ps[i]? with
   | none=>rw[e] at hx;cases hx
   | some z=>
    rw[e] at hx hy;cases hx;cases hy;refine(Ky U _ rfl (.inl (.inl ae)) rfl ?_);walk_at "c";have nUD:D≠U:=λq=>by rw[<-q,hDx] at hU;cases hU
    have Rh:upd Hx U (.tup [V.str z.1,z.2.1]) D=some (.dK (Oz n (ps.take i))):=(aj nUD).trans hDx;have hz:z∈ps:=Ν e;have hi:=(Ο.mp e).1;have ZY:ps=ps.take i++z::ps.drop (i+1):=by
     rw[<-(Ο.mp e).2,<-List.drop_eq_getElem_cons hi,List.take_append_drop]
    have ajl:(.inr z.1:Key)∉(Oz n (ps.take i)).map (·.1):=by
     have nd:=ok.nd;rw[ZY,ϖ,ο,Ϯ,ϴ] at nd;unfold Oz;simp only[ο,χ,Θ,τ,On,ads];refine⟨λq=>?_,?_⟩
     ·have q2:z.1=Α "event":=Jj q
      exact nd.1 (by rw[<-q2];simp)
     ·rintro⟨x,hx,q⟩
      have q2:x.1=z.1:=Jj q;exact nd.2.2.2 x.1 (τ.mpr (Κ x hx rfl)) z.1 (by simp) q2
    refine eM (Pm.k (k:=.inr z.1) Rh (Ϡ (show(Oz n (ps.take i)).length<=8 by unfold Oz;simp;omega) (by decide))) ⟨(sx.trans (Χ.upd hU)).wr hD,?_⟩;rw[BC ajl];have e2:ps.take (i+1)=ps.take i++[z]:=by rw[Zu,e];rfl
    refine ae.trans ?_;rw[e2];unfold Oz;simp
  ·rintro σ Hx ⟨sx,hDx,v3,v4,rfl⟩
   walk_at "c";rw[Ζ,Ζ,sB] at hDx;exact q D Hx hD sx hDx
def xA (T:Txt w K mg a):Ϥ P w K mg base IL 3 a.Sb a.Sq ["event"] (wA a.Jp a.JL):=by
 refine T.iS.F.ok oH (λvs H Q E h=>?_) (λϹ A outer s H vs Q E hr h=>?_)
 ·(revert h;refine Kg λn D pa ps Τ _=>?_;subst Τ)
  rfl
 ·(revert h;refine O2 λn D pa ps Τ hD hn ok q=>?_;subst Τ)
  refine(Κ _ (ag (ax (i:=1) oH.nd rfl (ς rfl) (au (ak (K:=K) (wv hr)) (pv 0) ao (λ_ _=>rfl)))
   (ah (ar (aq (oq T) (hr.mono (by decide)) rfl T.bD.m T.bD.F.kp T.bD.b .nil ό (aa (aC (aB (K:=K)) (aG (aa (pv 1) af)) (bu ["event","name"] ["event","name"] (Λ lh) (by exact⟨rfl,s!"d",s!"d",s!"d",s!"d",s!"d",s!"d",s!"d",s!"d"⟩) (aU (K:=K) (qC T.Al (pv 1) (λ_ _=>rfl))) (λC₁ s₁ H₁ f₁=>(aq (zj T) (hr.mono (by decide)) rfl T.kc.m T.kc.F.kp T.kc.b .nil ό (aa (pv 0) (aa (au (ak (K:=K) (wv hr)) (pv 1) (pv 0) (λ_ _=>rfl)) af)))))) af))))) ?_)
  obtain⟨hm,hT⟩:(n,V.ref pa)∈[(Α "hail",V.ref a.Jp),(Α "put",V.ref a.JL)]/\∀H,JZ K H pa ((ps.map (·.1)).map V.str):=by
   generalize hl:ps.map (·.1)=l at hn;cases hn with
   | Le=>exact⟨by simp,T.kR⟩
   | put=>exact⟨by simp,T.m9⟩
  walk_at "c";refine aP (Jc.k (k:=.inr (Α "event")) hD) ?_;refine⟨by decide,λp hp=>(ύ (n,.ref pa) hm rfl (Dh (hT _) ?_))⟩;have nDp:D≠p:=λz=>by rw[<-z,hD] at hp;cases hp
  have hlen:=ok.len;have Te:∀x∈ps,Io (Oz n ps) (.inr x.1)=some x.2.1:=by
   intro x hx;have nd:=ok.nd;rw[Ϯ] at nd;unfold Oz;rw[bP (λq=>nd.1 (by rw[Jj q];exact τ.mpr (Κ x hx rfl)))];exact qF nd.2 hx
  generalize Z9:upd H p (.lst [((.inr (Α "event"):Key),V.str n).2])=H0;have s0:Χ H H0:=by rw[<-Z9];exact Χ.upd hp
  have Pd:H0 p=some (.lst [V.str n]):=by rw[<-Z9];exact ae
  refine yx hT (ζ (show((ps.map (·.1)).map V.str).length<=7 by simp;omega) (by decide)) (Tx ps) (λx H' hx s' Qe qe=>?_) λD2 H2 Rh s2 Qa=>?_
  ·rw[χ] at hx
   (refine ρ (τ.mp hx) λz hz Τ=>?_;subst Τ);have qe2:∀Kj,Χ H' Kj->Qe (V.str (S z.2.2)) Kj:=λKj s''=>by
    have e:=qe Kj s'';rw[show Tx ps ((V.str∘λx=>x.fst) z)=V.str (S z.2.2) from qG (Ϯ.mp ok.nd).2 hz] at e;exact e
   show _;simp only[On];walk_at "c";(refine IT (ok.part z hz) λo1 o2 o3=>?_);have g:=Jc.k (k:=.inr z.1) (s' _ _ (s0 _ _ hD));rw[Te z hz] at g;exact aP g (ύ z.2.2 o1 (by omega) (qe2 _ (Χ.refl _)))
  ·rw[BD (Ϯ.mp ok.nd).2] at Qa
   have nn:n.cps.toList.length<=8/\∀c∈n.cps.toList,c < 128:=by
    generalize hl:ps.map (·.1)=l at hn;cases hn with
    | Le=>decide +kernel
    | put=>decide +kernel
   have US:H2 p=some (.lst (tx [n.cps.toList])):=by
    rw[s2 _ _ Pd];show _=some (HO.lst [V.str (S n.cps.toList)]);rw[<-xY n]
   have hb:=ae7 ok nn.1 nn.2;refine lV (.inl (.inl US)) (.inl (.inl Qa)) (ζ (show(tx [n.cps.toList]).length+(tx (ps.map λx=>x.2.2)).length<=8 by unfold tx;simp;omega) (by decide)) λu hu=>?_;refine(Κ u rfl (ύ (n.cps.toList::ps.map λx=>x.2.2) (.inl (.inl ?_)) ?_ (λH' s'=>q _ H' (s0.trans (s2.trans ((Χ.upd hu).trans s'))) hb)))
   ·refine ae.trans ?_
    unfold tx;simp
   ·have h2:((n.cps.toList::ps.map λx=>x.2.2).map Ϻ).sum<=8+7 * 201:=by
     rw[ο,am];have h3:∀l:List Part,(∀x∈l,x.2.2.length<=201)->((l.map λx=>x.2.2).map Ϻ).sum<=l.length * 201:=by
      intro l
      induction l with
      | nil=>intro _;simp
      | cons x r ih=>
       intro h;have a:=h x (by simp);have b:=ih λy hy=>h y (by simp[hy]);simp only[ο,am,Ψ] at b ⊢;omega
     have:=h3 ps λx hx=>(ok.part x hx).2.1;omega
    simp only[Ψ,Ζ];omega
def jU (T:Txt w K mg a):Ϥ P w K mg base (Oy P w) 3 a.OI a.OP ["names"] wB:=by
 refine T.bN.F.Rw qV (λvs H Q E h=>?_) (λϹ A outer s H vs Q E hr h=>?_)
 ·(revert h;refine sK λp ls Τ _=>?_;subst Τ)
  rfl
 ·(revert h;refine O1 λp ls Τ hp hl ho q=>?_;subst Τ)
  refine(Κ _ (ah (aL (PT.Kf (bH (aM (K:=K) (az (dE (K:=K)) (by rfl) T.rL PY (aa (bu ["names"] ["names"] (Λ gK) (by exact⟨rfl,s!"d",s!"d",s!"d",s!"d",s!"d",s!"d",s!"d",s!"d"⟩) (aU (K:=K) (pv 0)) (λC₁ s₁ H₁ f₁=>(aq (rP T) (hr.mono (by decide)) rfl T.dR.m T.dR.F.kp T.dR.b .nil ό (aa (pv 0) af)))) af)) (by intro _;rfl)))) aZ aw)) ?_);walk_at "d";refine bL (.inl (.inl hp)) (cR (xs:=tx ls) (.inl (.inl hp)) (ζ (show(tx ls).length<=9 by unfold tx;simpa using hl) (by decide)) (λx=>.bl (Jl x 1 12 Vg)) (λx H' hx s' Qe qe=>?_) λD H' hD s' Wj=>?_)
  ·(refine ρ (τ.mp hx) λl hm Τ=>?_;subst Τ)
   walk_at "d";exact⟨.str l (ho l hm).2,qe⟩
  ·refine k4 (bs:=ls.map λ_=>true) (.inl (.inl ?_)) (Κ true (show true=_ by rw[P3];simp) ?_)
   ·rw[Wj]
    unfold tx;rw[χ,χ];congr 2;refine im λl hm=>?_;show V.bl (Jl (V.str (S l)) 1 12 Vg)=V.bl true;rw[(ho l hm).1]
   ·rw[Υ (by decide)]
    exact q H' s'
def eI (T:Txt w K mg a):Ϥ P w K mg base (Oy P w) 2 a.N2 a.N' ["bounded"] uM:=by
 refine T.aX.F.Rw o9 (λvs H Q E h=>?_) (λϹ A outer s H vs Q E hr h=>?_)
 ·(revert h;refine sK λp ls Τ _=>?_;subst Τ)
  rfl
 ·(revert h;refine O1 λp xs Τ hp hl ho q=>?_;subst Τ)
  refine(Κ _ (ah (aL (PT.Kf (bH (aM (K:=K) (az (dE (K:=K)) (by rfl) T.rL PY (aa (vX ["bounded"] ["bounded"] (Λ fk) ["thing","low","high"] (by exact⟨rfl,s!"d",s!"d",s!"d",s!"d",s!"d",s!"d"⟩) (aU (K:=K) (pv 0)) (λC₁ s₁ H₁ f₁=>(iE (K:=K) (n:=3) rfl (bt (aT (i:=0) (show LX (α:=Str) ["thing","low","high","bounded"] by decide +kernel) rfl (ς rfl) (OW rfl)) (bt (aT (i:=1) (show LX (α:=Str) ["thing","low","high","bounded"] by decide +kernel) rfl (ς rfl) (OW rfl)) (bt (aT (i:=2) (show LX (α:=Str) ["thing","low","high","bounded"] by decide +kernel) rfl (ς rfl) (OW rfl)) ix))))) (λC₁ s₁ H₁ f₁=>(aq (oV T) (hr.mono (by decide)) rfl T.cT.m T.cT.F.kp T.cT.b .nil ό (aa (pv 0) (aa (pv 1) (aa (pv 2) af)))))) af)) (by intro _;rfl)))) aZ aw)) ?_);walk_at "d";(refine ρ (id hp) λts Va htt=>?_);refine bL (.inl (.inl Va)) (wb hp (by rw[Ζ];omega) (λys hys=>by (refine ρ (τ.mp hys) λs _ Τ=>?_;subst Τ);rfl) (λ_=>true) (λ_=>.bl true) ?_ ?_ ?_ ?_)
  ·rintro t ys H' o R hys s' ht V9 r
   (refine ρ (τ.mp hys) λx hx Τ=>?_;subst Τ);obtain⟨o1,o2,o3,rfl⟩:∃o1 o2 o3,o=[o1,o2,o3]:=by
    match o,V9 with
    | [o1,o2,o3],_=>exact(LD o1 o2 o3 rfl)
   refine(Ky t _ rfl (.inl (.inl ht)) rfl ?_);walk_at "d";exact(gl _ _ rfl (gl _ _ rfl (ϒ _ _ rfl rfl r)))
  ·intro ys H' hys s' Qt qt
   exact qt H' (Χ.refl _)
  ·rintro ys H' hys - s' Qe qe
   (refine ρ (τ.mp hys) λx hx Τ=>?_;subst Τ);simp only[w3V,ο,Ja,ii,IG];walk_at "d";refine⟨.int _,?_⟩;have e:NZ (V.int x.1) x.2.1 x.2.2=true:=by
    show(decide (x.2.1<=x.1) && decide (x.1<=x.2.2))=true;rw[j' (ho x hx).1,j' (ho x hx).2];rfl
   rw[e];exact qe H' (Χ.refl _)
  ·intro D H' hD s' Wj
   rw[cV,χ] at Wj;refine k4 (bs:=xs.map λ_=>true) (.inl (.inl ?_)) (Κ true (show true=_ by rw[P3];simp) ?_)
   ·rw[Wj,χ]
    rfl
   ·rw[Υ (by decide)]
    exact q H' s'
def pG (T:Txt w K mg a):Ϥ P w K mg base (Oy P w) 3 a.N3 a.Oa ["key","word"] uN:=by
 refine T.dq.F.Rw pd (λvs H Q E h=>?_) (λϹ A outer s H vs Q E hr h=>?_)
 ·(revert h;refine sK λk o Τ _=>?_;subst Τ)
  rfl
 ·(revert h;refine O1 λk o Τ hk hkl ho=>Jb λYb q=>?_;subst Τ)
  refine(Κ _ (ah (aL (PT.Kf (PW.pt (vw (bH (aM (K:=K) (aq (Cj T) (hr.mono (by decide)) rfl T.mX.m T.mX.F.kp T.mX.b .nil ό (aa (pv 0) af)) (by intro _;rfl))) (pU (bH (aM (K:=K) (aq (zc T) (hr.mono (by decide)) rfl T.ke.m T.ke.F.kp T.ke.b .nil ό (aa (pv 1) af)) (by intro _;rfl))))))) aZ aw)) ?_);walk_at "d";refine⟨.str k hkl,λH1 s1=>?_⟩;rw[Υ (by rw[hk];decide)];refine⟨?_,λH2 s2=>?_⟩
  ·cases o with
   | none=>exact .cr
   | some w0=>exact .str w0 (Yb w0 rfl)
  ·rw[Υ (by rw[ho];decide)]
   exact q H2 (s1.trans s2)
def rT (T:Txt w K mg a):Ϥ P w K mg base IL 1 a.OJ a.OQ ["thing"] wC:=by
 refine T.dZ.F.ok qW (λvs H Q E h=>?_) (λϹ A outer s H vs Q E hr h=>?_)
 ·(revert h;refine Ϟ λb Τ _=>?_;subst Τ)
  rfl
 ·(revert h;refine Ϟ λb Τ q=>?_;subst Τ)
  refine(Κ _ (ah (aL (PW.pt (kU (aF zN (pv 0) eX (ϸ _)) (iu (aF zN (pv 0) eX (ϸ _))))) (ah d5) aw)) ?_);walk_at "d";cases b with
  | true=>rw[Υ (by decide)];exact q
  | false=>rw[δ (by decide),Υ (by decide)];exact q
abbrev M5 (a:Adr):CK:=⟨a.IZ,a.IS,a.ML,a.ww,a.KG,a.bn,a.Kn,a.KN⟩
def pH (T:Txt w K mg a):Ϥ P w K mg base IL 3 a.Ko a.N9 ["state","event"] (nQ (M5 a)):=by
 refine T.fD.F.ok o7 (λvs H Q E h=>?_) (λϹ A outer s H vs Q E hr h=>?_)
 ·(revert h;refine ME λA Z M D n kk Τ _=>?_;subst Τ)
  rfl
 ·(revert h;refine ME λA0 Z M D n kk Τ=>MD λhS hD hsz hv q=>?_;subst Τ)
  refine(Κ _ (ah (aN (aR (av (K:=K) (pv 0) rfl) T.aE T.fH.m (pE T) (hr.mono (by decide)) T.fH.b .nil ό (aa (au (ak (K:=K) (wv hr)) (pv 1) ao (λ_ _=>rfl)) af)))) ?_);obtain⟨dx,Nk⟩:=hS.Tz;obtain⟨UV,hsn⟩:=hS.snd.obj;walk_at "e";refine(lc _ dx _ Nk T.aS T.ba (Κ _ (cF A0) (Κ _ rfl (ϒ UV _ hsn rfl ?_))));refine aP (dg hD (BF n kk)) (Κ _ rfl (MG _ _ _ _ _ _ rfl hS.snd hsz hv hS.zo (λu H' c s' _ _=>q H' c ?_)));exact hS.sends c s'
def rV (T:Txt w K mg a):Ϥ P w K mg base IL 5 a.KS a.OO ["state","event"] (qH (M5 a)):=by
 refine T.gO.F.ok fj (λvs H Q E h=>?_) (λϹ A outer s H vs Q E hr h=>?_)
 ·(revert h;refine JY λA Z M D n kk=>JY λi pl key wo r d=>Ϟ λm Τ _=>?_;subst Τ)
  rfl
 ·(revert h;refine JY λA0 Z M D n kk=>JY λi pl key wo r d=>G' λm Τ hS=>P6 λhD nDd nDt nDp MR=>P6 λUU hm hml hsz hL=>Jb λhkk q=>?_;subst Τ)
  refine(Κ _ (ag (ax (i:=2) fj.nd rfl (ς rfl) (au (ak (K:=K) (wv hr)) (pv 1) ao (λ_ _=>rfl)))
   (ag (ax (i:=3) fj.nd rfl (ς rfl) (aR (au (ak (K:=K) (wv hr)) (av (K:=K) (pv 0) rfl) (pv 2) (λ_ _=>rfl)) T.cN T.Cf (zd T) (hr.mono (by decide)) T.Ch .nil ό (aa (au (ak (K:=K) (wv hr)) (pv 1) ao (λ_ _=>rfl)) (aa (au (ak (K:=K) (wv hr)) (pv 1) ao (λ_ _=>rfl)) (aa (au (ak (K:=K) (wv hr)) (pv 1) ao (λ_ _=>rfl)) af)))))
   (ag (aN (aR (av (K:=K) (pv 0) rfl) T.aE T.fI.m (pD T) (hr.mono (by decide)) T.fI.b .nil Ux (aa (au (ak (K:=K) (wv hr)) (pv 1) ao (λ_ _=>rfl)) (aa (au (ak (K:=K) (wv hr)) (pv 1) ao (λ_ _=>rfl)) (aa (pv 2) (aa (pv 3) af))))))
   (ah (aL (aF (di (K:=K) (hU hr)) (au (ak (K:=K) (wv hr)) (pv 1) ao (λ_ _=>rfl)) ai (ϸ _)) aZ aw))))) ?_)
  obtain⟨dx,Nk⟩:=hS.Tz;walk_at "e2";have XO:GT K H A0.rl (A0.rs.map V.ref):=.inl (.inl hS.Ri);have R:=hS.row i r d m MR UU hm;obtain⟨YH,YN⟩:=R.obj;refine aP (dg hD (GR n kk 0 i pl key wo)) (lc _ dx _ Nk T.aS T.cP (Κ _ (mx A0) ?_));refine aJ (v:=.ref r) XO (aW (by omega) (by rw[ϵ,μ,MR];rfl)) (Κ r rfl (ϒ YH _ YN (Dm m d) ?_));refine aP (dg hD (GS n kk 0 i pl key wo)) (aP (dg hD (E5 n kk 0 i pl key wo)) (aP (dg hD (zW n kk 0 i pl key wo)) ?_));refine(Κ r rfl (IN d m (key,wo,0) rfl rfl rfl R ⟨by omega,λH1 c1 R1=>?_⟩));walk_at "e3";have S1:=hS.ai0 MR UU c1 R1;obtain⟨Zj,acB⟩:=S1.Tz;obtain⟨UV,hsn⟩:=S1.snd.obj;have mr:=Ν MR;have md:=Ν UU;have nD:D≠r/\D≠d:=⟨(λz=>by rw[z,YN] at hD;cases hD),nDd⟩
  have hD1:H1 D=some (.dK (Oz "put" (OA n kk 0 i pl key wo))):=c1.keep _ _ hD (n2 nD);refine(lc _ Zj _ acB T.aS T.ba (Κ _ (cF A0) (Κ _ rfl (ϒ UV _ hsn rfl ?_))));refine aP (dg hD1 (BG n kk 0 i pl key wo)) (aP (dg hD1 (BH n kk 0 i pl key wo)) ?_);refine(Κ _ rfl (Nf _ _ _ _ _ _ ⟨rfl,(P7 _ rfl S1.snd hL hkk hsz ⟨S1.zo,λH2 c2 s2=>?_⟩)⟩));walk_at "e0"
  have Rh:H2 D=some (.dK (Oz "put" (OA n kk 0 i pl key wo))):=c2.keep _ _ hD1 (by
   (refine ϭ S1.snd.YE λk2 e2 _ v2=>?_);(refine ρ S1.snd.Zh λk3 e3 _=>?_);simp only[Θ,Ρ,ϛ,ads]
   exact⟨nDt,nDp⟩)
  refine aP (dg Rh (zW n kk 0 i pl key wo)) ?_;walk_at "e";refine q H2 ((c1.mono (by simp)).trans (c2.mono (by simp))) ?_;exact S1.sends (c2.mono (by simp)) s2
def Cr (T:Txt w K mg a):Ϥ P w K mg base IL 6 a.Vo a.Vy ["state","event"] (BE (M5 a)):=by
 refine T.mW.F.ok tQ (λvs H Q E h=>?_) (λϹ A outer s H vs Q E hr h=>?_)
 ·(revert h;refine sK λst D Τ _=>?_;subst Τ)
  rfl
 ·(revert h;refine sK λst D Τ h=>?_;subst Τ)
  refine(Κ _ (ag (ax (i:=2) tQ.nd rfl (ς rfl) (qC T.vc (au (ak (K:=K) (wv hr)) (pv 1) ao (λ_ _=>rfl)) (λ_ _=>rfl)))
   (ah (aN (wx (.cons (pH T) (hr.mono (by decide)) T.fD.F.kp T.fD.b ό (.cons (rV T) (hr.mono (by decide)) T.gO.F.kp T.gO.b ό .nil)) (pv 2) (aa (pv 0) (aa (pv 1) af)))))) ?_)
  walk_at "e";rcases h with⟨h,ps,hD⟩ | ⟨h,ps,hD⟩
  ·exact aP (dg hD (show Io (Oz "hail" ps) (.inr (Α "event"))=some (.str (Α "hail")) from rfl)) (ύ (Α "hail",V.ref a.Ko) (by simp) rfl (Κ _ rfl (Κ (nQ (M5 a)) (by simp) h)))
  ·exact aP (dg hD (show Io (Oz "put" ps) (.inr (Α "event"))=some (.str (Α "put")) from rfl)) (ύ (Α "put",V.ref a.KS) (by simp) rfl (Κ _ rfl (Κ (qH (M5 a)) (by simp) h)))
def xB (T:Txt w K mg a):Ϥ P w K mg base IL 4 a.Sd a.Ss ["state","sender"] (wD (M5 a)):=by
 refine T.iU.F.ok fZ (λvs H Q E h=>?_) (λϹ A outer s H vs Q E hr h=>?_)
 ·(revert h;refine Ld λA Z M n kk Τ _=>?_;subst Τ)
  rfl
 ·(revert h;refine Ld λA0 Z M n kk Τ=>MD λhS hn hkk hk9 q=>?_;subst Τ)
  refine(Κ _ (ag (aN (aq (jU T) (hr.mono (by decide)) rfl T.bN.m T.bN.F.kp T.bN.b .nil Ux (aa (aG (aa (pv 1) af)) af)))
   (ag (ax (i:=2) fZ.nd rfl (ς rfl) (aG af))
   (ag (ax (i:=3) fZ.nd rfl (ς rfl) (aR (av (K:=K) (pv 0) rfl) T.fL T.cp.m (ik T) (hr.mono (by decide)) T.cp.b .nil ό (aa (pv 1) af)))
   (ag (aL (aF (di (K:=K) (hU hr)) (pv 3) ai (ϸ _)) (ah (aN (bf (K:=K) PySem.F.plainAttrs_list PySem.F.slot_list_append PySem.F.type_list_append cu (pv 2) (aa (aq (jT T) (hr.mono (by decide)) rfl T.bM.m T.bM.F.kp T.bM.b .nil ό (aa ao (aa (aG (aa (pv 3) af)) af))) af)))) aw)
   (ag (ax (i:=4) fZ.nd rfl (ς rfl) (aC (aB (K:=K)) (aR (av (K:=K) (pv 0) rfl) T.aE T.bK.m (fQ T) (hr.mono (by decide)) T.bK.b .nil ό (aa (pv 1) af)) ai))
   (ag (aN (bf (K:=K) PySem.F.plainAttrs_list PySem.F.slot_list_append PySem.F.type_list_append cu (pv 2) (aa (aq (jT T) (hr.mono (by decide)) rfl T.bM.m T.bM.F.kp T.bM.b .nil ό (aa ao (aa (aG (aa (pv 1) (aa (pv 4) af))) af))) af)))
   (ah (ar (bW (aa (pv 2) (aa (bW (aa (pv 4) (aa (aR (av (K:=K) (pv 0) rfl) T.aE T.dz.m (lH T) (hr.mono (by decide)) T.dz.b .nil ό (aa (pv 1) af)) af))) af))))))))))) ?_)
  refine YB λRz hRz=>?_;walk_at "f";refine⟨by decide,λp0 Pd=>(Jw ([n]) ae (show 1<=9 by decide) (λl hl=>by rw[Μ.mp hl];exact⟨hn,by have:=hn.len;omega⟩) (λH1 s1=>?_))⟩;walk_at "f3";refine⟨Ϛ _,λev Te=>?_⟩;have YO:Χ H H1:=(Χ.upd Pd).trans s1;generalize hH2:upd H1 ev (.lst [])=H2;have Zp:Χ H H2:=by rw[<-hH2];exact YO.trans (Χ.upd Te)
  have Tf:H2 ev=some (.lst []):=by rw[<-hH2];exact ae
  have afp:H ev=none:=aV YO Te;have S2:=hS.same Zp;obtain⟨dx,Nk⟩:=S2.Tz;obtain⟨dxd,hde⟩:=S2.Wr.obj;obtain⟨UV,hsn⟩:=S2.snd.obj;walk_at "f3";refine(lc _ dx _ Nk T.aS T.fK (Κ _ (tE A0) (Κ _ rfl (ϒ dxd _ hde rfl (Κ _ rfl (LD _ _ _ (Κ _ S2.Wr ?_)))))));walk_at "f3";rw[Υ (by show ¬¬(0:Int)=0;simp)];walk_at "f3";refine(lc _ dx _ Nk T.aS T.ba (Κ _ (cF A0) (Κ _ rfl (ϒ UV _ hsn rfl (Κ _ rfl (LD _ _ _ (gl _ _ S2.snd ?_)))))));rw[<-hkk];walk_at "f3";refine⟨.inl ⟨_,.inl (.inl Tf)⟩,by decide,λp hp=>(Ky _ (Pp n kk) ae ZZ.Le (tF hn hk9) (λD H3 hD s3 eD=>?_))⟩;have nep:ev≠p:=λz=>by rw[z,hp] at Tf;cases Tf
  have s23:Χ H2 H3:=(Χ.upd hp).trans s3;have ajm:H3 ev=some (.lst []):=s23 _ _ Tf;have Rh:H2 D=none:=aV (Χ.upd hp) hD;have nD:D≠ev:=λz=>by rw[z,Tf] at Rh;cases Rh
  refine(ύ _ ajm (by show 0 < _;decide) ?_);rw[IG];generalize hH4:upd H3 ev (.lst [.ref D])=H4;have Xm:Χ H H4:=by rw[<-hH4];exact Χ.wr (Zp.trans s23) afp
  have ajn:H4 ev=some (.lst [.ref D]):=by rw[<-hH4];exact ae
  have hD4:H4 D=some (.dK (Oz "hail" (Pp n kk))):=by rw[<-hH4,aj nD];exact eD
  have S4:=hS.same Xm;obtain⟨dx4,YQ⟩:=S4.Tz;obtain⟨aaa,aab⟩:=S4.snd.obj;walk_at "f0";refine(lc _ dx4 _ YQ T.aS T.ba (Κ _ (cF A0) (Κ _ rfl (ϒ aaa _ aab rfl (Κ _ rfl (LD _ _ _ (ϒ _ _ S4.snd (by decide) (λu hu=>⟨by decide,λt ht=>?_⟩))))))));have s5:=Χ.upd (o:=.tup [.int (kk:Int),.int (if (M.S.L (S n)).isSome=true then M.S.T (S n) else 0)]) hu;refine q t ev u D _ (Xm.trans (s5.trans (Χ.upd ht))) afp (aV Zp Rh) ae ?_ ?_ ?_
  ·exact Χ.upd ht _ _ (s5 _ _ ajn)
  ·exact Χ.upd ht _ _ (s5 _ _ hD4)
  ·exact Χ.upd ht _ _ ae
def zk (T:Txt w K mg a):Ϥ P w K mg base (Oy P w) 5 a.TM a.T8 ["state","sender","life","number","shelf","letter","deed"] (yy (M5 a)):=by
 refine T.kf.F.Rw iM (λvs H Q E h=>?_) (λϹ A outer s H vs Q E hr h=>?_)
 ·(revert h;refine JY λA Z M n LS key=>JY λwo life num dd j x=>Ϟ λlt Τ _=>?_;subst Τ)
  rfl
 ·(revert h;refine JY λA0 Z M n LS key=>JY λwo life num dd j x=>G' λlt Τ KI=>Um λhP hL IK hq=>?_;subst Τ;subst IK)
  refine(Κ _ (ag (aN (aq (jU T) (hr.mono (by decide)) rfl T.bN.m T.bN.F.kp T.bN.b .nil Jm (aa (aG (aa (pv 1) (aa (pv 4) af))) af)))
   (ag (aN (aq (eI T) (hr.mono (by decide)) rfl T.aX.m T.aX.F.kp T.aX.b .nil Jm (aa (aG (aa (bW (aa (pv 2) (aa ai (aa (bx T.fO) af)))) (aa (bW (aa (pv 3) (aa ai (aa (bx T.fO) af)))) (aa (bW (aa (pv 6) (aa ai (aa (bx T.fO) af)))) af)))) af)))
   (ag (aN (aq (pG T) (hr.mono (by decide)) rfl T.dq.m T.dq.F.kp T.dq.b .nil Jm (aa (au (ak (K:=K) (wv hr)) (pv 5) ai (λ_ _=>rfl)) (aa (au (ak (K:=K) (wv hr)) (pv 5) ai (λ_ _=>rfl)) af))))
   (ag (aN (aR (av (K:=K) (pv 0) rfl) T.aE T.bg.m (cQ T) (hr.mono (by decide)) T.bg.b .nil Jm (aa (pv 1) af)))
   (ag (ax (i:=7) iM.nd rfl (ς rfl) (aR (av (K:=K) (pv 0) rfl) T.bE T.dw.m (lK T) (hr.mono (by decide)) T.dw.b .nil Jm (aa (pv 4) (aa (au (ak (K:=K) (wv hr)) (pv 5) ai (λ_ _=>rfl)) af))))
   (ag (aN (aR (av (K:=K) (pv 0) rfl) T.aE T.eE.m (oo T) (hr.mono (by decide)) T.eE.b .nil Jm (aa (pv 1) (aa (pv 2) af))))
   (ag (ax (i:=8) iM.nd rfl (ς rfl) (aR (av (K:=K) (pv 0) rfl) T.aE T.dy.m (lI T) (hr.mono (by decide)) T.dy.b .nil Jm (aa (pv 1) (aa (pv 3) af))))
   (ag (PS.Kf (aL (ny (zt (pv 8))) (ah (ar (bW (aa (aG af) (aa (pv 8) af))))) aw))
   (ag (aL (PT.Kf (PW.pt (kU (aF (di (K:=K) (hU hr)) (pv 6) ai (ϸ _)) (iu (aF (di (K:=K) (hU hr)) (pv 6) (aR (av (K:=K) (pv 0) rfl) T.fL T.cp.m (ik T) (hr.mono (by decide)) T.cp.b .nil ό (aa (pv 1) af)) (ϸ _)))))) aZ aw)
   (ag (PS.Kf (ax (i:=9) iM.nd rfl (ς rfl) (av (K:=K) (au (ak (K:=K) (wv hr)) (av (K:=K) (pv 0) rfl) (pv 7) (λ_ _=>rfl)) rfl)))
   (ah (PS.Kf (ar (bW (aa (aG (aa (aq (jT T) (hr.mono (by decide)) rfl T.bM.m T.bM.F.kp T.bM.b .nil ό (aa ao (aa (aG (aa (pv 1) (aa (pv 3) (aa (pv 6) (aa (pv 7) (aa (pv 9) (aa (au (ak (K:=K) (wv hr)) (pv 5) ai (λ_ _=>rfl)) (aa (au (ak (K:=K) (wv hr)) (pv 5) ai (λ_ _=>rfl)) af)))))))) af))) af)) (aa (bW (aa (pv 7) (aa (pv 9) af))) af)))))))))))))))) ?_)
  walk_at "f1";obtain⟨hS,hnm,hsh,hky,hwd,WF,hlf,hnu,hdd,Xb,Zn⟩:=hP;refine⟨by decide,λp0 Pd=>(Jw ([n,LS]) ae (show 2<=9 by decide) (λl hl=>?_) (λH1 s1=>?_))⟩
  ·simp only[Θ,Ρ,ϛ] at hl
   rcases hl with rfl | rfl
   ·exact⟨hnm,by have:=hnm.len;omega⟩
   ·exact⟨hsh,by have:=hsh.len;omega⟩
  have YO:Χ H H1:=(Χ.upd Pd).trans s1;walk_at "f3";refine⟨by decide,λp1 UF=>⟨by decide,λp2 US=>⟨by decide,λp3 hp3=>⟨by decide,λp4 hp4=>?_⟩⟩⟩⟩;have t1:=Χ.upd (o:=.tup [.int (life:Int),.int 1,.int 1000000000]) UF;have t2:=Χ.upd (o:=.tup [.int (num:Int),.int 1,.int 1000000000]) US;have t3:=Χ.upd (o:=.tup [.int ((0:Nat):Int),.int 0,.int 1000000000]) hp3;have t4:=Χ.upd (o:=.lst [.ref p1,.ref p2,.ref p3]) hp4;refine(Jw ([((life:Int),1,1000000000),((num:Int),1,1000000000),(((0:Nat):Int),0,1000000000)]) (Κ ([p1,p2,p3]) ae ?_) (show 3<=9 by decide) (λy hy=>?_) (λH2 s2=>?_))
  ·exact .cons (t4 _ _ (t3 _ _ (t2 _ _ ae))) (.cons (t4 _ _ (t3 _ _ ae)) (.cons (t4 _ _ ae) .nil))
  ·simp only[Θ,Ρ,ϛ] at hy
   rcases hy with rfl | rfl | rfl
   ·exact⟨by show(1:Int)<=life;omega,by show(life:Int)<=1000000000;omega⟩
   ·exact⟨by show(1:Int)<=num;omega,by show(num:Int)<=1000000000;omega⟩
   ·exact⟨by show(0:Int)<=((0:Nat):Int);omega,by show((0:Nat):Int)<=1000000000;omega⟩
  have Zp:Χ H H2:=YO.trans (t1.trans (t2.trans (t3.trans (t4.trans s2))));walk_at "f3";have l2:JZ K H2 lt [.str (S key),wV wo]:=.inl (.inl (Zp _ _ KI));refine bc l2 rfl (bc l2 rfl (Κ _ rfl (P7 wo rfl hky (by have:=hky.len;omega) hwd (λw hw=>by have:=WF w hw;omega) (λH3 s3=>?_))));have Rm:=Zp.trans s3;have S3:=hS.same Rm;obtain⟨dx3,aft⟩:=S3.Tz;obtain⟨ajo,ajp⟩:=S3.snd.obj;obtain⟨ajq,ajr⟩:=S3.Xg.obj;have l3:JZ K H3 lt [.str (S key),wV wo]:=.inl (.inl (Rm _ _ KI));walk_at "f3";refine(lc _ dx3 _ aft T.aS T.ba (Κ _ (cF A0) (Κ _ rfl (ϒ ajo _ ajp rfl (Κ _ rfl (LD _ _ _ (gl _ _ S3.snd ?_)))))));refine⟨by rw[hL];rfl,?_⟩;walk_at "f3";refine(lc _ dx3 _ aft T.aS T.bT (Κ _ (jx A0) (Κ _ rfl (ϒ ajq _ ajr rfl ?_))));refine bc l3 rfl (Κ _ rfl (lc _ _ _ rfl S3.Xg S3.Xh (ϒ j x Xb Zn (λH4 s4=>?_))));have Xm:=Rm.trans s4;have S4:=hS.same Xm;obtain⟨dx4,YQ⟩:=S4.Tz;obtain⟨aaa,aab⟩:=S4.snd.obj;walk_at "f3";refine(lc _ dx4 _ YQ T.aS T.ba (Κ _ (cF A0) (Κ _ rfl (ϒ aaa _ aab rfl ?_))));refine(Κ _ rfl (LD _ _ _ (ϒ _ _ S4.snd hL ?_)));walk_at "f3";refine(lc _ dx4 _ YQ T.aS T.ba (Κ _ (cF A0) (Κ _ rfl (ϒ aaa _ aab rfl (Κ _ rfl (LD _ _ _ (ϒ _ _ S4.snd (by rw[hL];rfl) ?_)))))));rcases hq with⟨i,y,h1,h2,hQ⟩ | ⟨h1,i,pl,m,hi,hm,NV,awo,hQ⟩
  ·refine .inr (Κ i h1 (Κ y h2 (λu hu=>?_)))
   walk_at "f3";clear hRz;refine⟨by decide,λev Te=>⟨by decide,λt ht=>?_⟩⟩;have s5:=Χ.upd (o:=.lst []) Te;exact hQ t ev u _ (Xm.trans (s5.trans (Χ.upd ht))) ae (Χ.upd ht _ _ ae) (Χ.upd ht _ _ (s5 _ _ hu))
  ·refine .inl ⟨h1,?_⟩
   walk_at "f3";walk_at "f3";rw[Υ (by simp)];walk_at "f3";have hi':Mh M.xs j x key=i:=by omega
   rw[hi'];have Pa:i < A0.rs.length:=by rw[<-hS.OB];exact(Ο.mp hm).1
   have MR:A0.rs[i]?=some A0.rs[i]:=by simp
   have UU:A0.ds[i]?=some (A0.ds[i]'(by rw[hS.lend];exact Pa)):=by simp
   generalize A0.rs[i]=r at MR;generalize A0.ds[i]'(by rw[hS.lend];exact Pa)=d at UU;have R:=S4.row i r d m MR UU hm;obtain⟨YH,YN⟩:=R.obj;have XO:GT K H4 A0.rl (A0.rs.map V.ref):=.inl (.inl S4.Ri);have l4:JZ K H4 lt [.str (S key),wV wo]:=.inl (.inl (Xm _ _ KI));refine(lc _ dx4 _ YQ T.aS T.cP (Κ _ (mx A0) ?_));refine aJ (v:=.ref r) XO (aW (by omega) (by rw[ϵ,μ,MR];rfl)) (Κ r rfl (lc _ YH _ YN T.cN T.dS ?_));refine(Κ _ rfl ?_);walk_at "f0";refine bc l4 rfl (bc l4 rfl ?_);rw[NV];refine⟨by decide,λp hp=>(Ky _ (OA n num 0 i pl key wo) ae ZZ.put (wF hnm (by omega) (by decide) (by have:=hS.Xh.hi;have:=pQ hS;omega) (by omega) hky hwd WF) (λD H5 hD s5 eD=>⟨by decide,λev Te=>⟨by decide,λu hu=>⟨by decide,λt ht=>?_⟩⟩⟩))⟩;have s45:Χ H4 H5:=(Χ.upd hp).trans s5;have s05:=Xm.trans s45;have s6:=Χ.upd (o:=.lst [.ref D]) Te;have s7:=Χ.upd (o:=.tup [.int (i:Int),.int (pl:Int)]) hu;have s8:=Χ.upd (o:=.tup [.ref ev,.ref u]) ht;exact hQ t ev u D _ (s05.trans (s6.trans (s7.trans s8))) (aV s05 Te) (aV Xm (aV (Χ.upd hp) hD)) ae (s8 _ _ (s7 _ _ ae)) (s8 _ _ (s7 _ _ (s6 _ _ eD))) (s8 _ _ ae)
def rW (T:Txt w K mg a):Ϥ P w K mg base (Oy P w) 5 a.OK a.OR ["state","row"] (DK (M5 a) a.AC):=by
 refine T.d3.F.Rw qX (λvs H Q E h=>?_) (λϹ A outer s H vs Q E hr h=>?_)
 ·(revert h;refine Kg λA Z M r Τ _=>?_;subst Τ)
  rfl
 ·(revert h;refine Kg λA0 Z M r Τ=>Jb λhS hq=>?_;subst Τ)
  refine(Κ _ (ah (aN (aR (av (K:=K) (pv 0) rfl) T.bE T.cU.m (kE T) (hr.mono (by decide)) T.cU.b .nil Jm (aa (pv 1) af)))) ?_);walk_at "g";obtain⟨dx,Nk⟩:=hS.Tz;obtain⟨dxh,hsh⟩:=hS.Xg.obj;refine(lc _ dx _ Nk T.aS T.bT (Κ _ (jx A0) (Κ _ rfl (ϒ dxh _ hsh rfl (Κ _ rfl (ϒ _ _ hS.Xg hS.Xh ?_))))));rw[hS.len] at hq;rcases hq with⟨MR,q⟩ | ⟨MR,hB⟩
  ·(refine KA (qK _ (Φ _) MR) λkx x hx h1 h2=>?_)
   exact .inl (Jw kx ⟨x,hx⟩ (by omega) (by omega) q)
  ·exact .inr ⟨.inr (by omega),hB⟩
def ni (T:Txt w K mg a):Ϥ P w K mg base (Oy P w) 6 a.QH a.QS ["state","row"] (BM (M5 a) a.AC):=by
 refine T.cH.F.Rw uW (λvs H Q E h=>?_) (λϹ A outer s H vs Q E hr h=>?_)
 ·(revert h;refine Kg λA Z M r Τ _=>?_;subst Τ)
  rfl
 ·(revert h;refine Kg λA0 Z M r Τ=>Jb λhS hq=>?_;subst Τ)
  refine(Κ _ (ag (aN (aq (eI T) (hr.mono (by decide)) rfl T.aX.m T.aX.F.kp T.aX.b .nil Jm (aa (aG (aa (bW (aa (pv 1) (aa ai (aa (bx T.fO) af)))) af)) af)))
   (ah (aN (aq (rW T) (hr.mono (by decide)) rfl T.d3.m T.d3.F.kp T.d3.b .nil Jm (aa (pv 0) (aa (pv 1) af)))))) ?_)
  walk_at "g";have l1:=pQ hS;have l2:=hS.Xh.hi;refine⟨by decide,λp1 UF=>⟨by decide,λp2 US=>(Jw ([((r:Int),0,1000000000)]) (Κ ([p1]) ae (.cons (Χ.upd US _ _ ae) .nil)) (show 1<=9 by decide) (λy hy=>?_) (λH1 s1=>?_))⟩⟩
  ·rw[Μ.mp hy]
   exact⟨by show(0:Int)<=r;omega,by show(r:Int)<=1000000000;rcases hq with h | h<;>omega⟩
  ·have YO:Χ H H1:=(Χ.upd UF).trans ((Χ.upd US).trans s1)
   refine(Κ A0 rfl (NC Z M r rfl (hS.same YO) ?_));rcases hq with⟨h1,q⟩ | ⟨h1,_,hB⟩
   ·exact .inl ⟨h1,q _ YO⟩
   ·exact .inr ⟨h1,hB.back YO⟩
def rX (T:Txt w K mg a):Ϥ P w K mg base IL 1 a.OL a.OS ["self"] (wG a.Kn):=by
 refine T.gP.F.ok qZ (λvs H Q E h=>?_) (λϹ A outer s H vs Q E hr h=>?_)
 ·(revert h;refine Ka λr dl bz Τ _=>?_;subst Τ)
  rfl
 ·(revert h;refine Kx λr dl bz Τ D q=>?_;subst Τ)
  refine(Κ _ (ah (ar (bu ["self"] ["self"] (Λ gL) (by exact⟨rfl,s!"d",s!"d",s!"d",s!"d",s!"d",s!"d",s!"d",s!"d"⟩) (aU (K:=K) (av (K:=K) (pv 0) rfl)) (λC₁ s₁ H₁ f₁=>(bW (aa (av (K:=K) (pv 0) rfl) (aa (aQ (iD (K:=K)) rfl T.om P2 (aa (av (K:=K) (pv 0) rfl) af)) af))))))) ?_);walk_at "g";obtain⟨dx,hde⟩:=D.obj;refine(lc _ dx _ hde T.fL T.jQ (Κ _ rfl (bL (xs:=[]) (.inl (.inl D.lst)) ?_)));exact cR (xs:=[]) (.inl (.inl D.lst)) (Ϛ _) (λv=>v) (λx H' hx=>nomatch hx) (λp H' hp s e=>q p H' hp s e)
def gH (T:Txt w K mg a):Ϥ P w K mg base IL 6 a.MZ a.M4 ["self","row"] (wH (M5 a)):=by
 refine T.bQ.F.ok mP (λvs H Q E h=>?_) (λϹ A outer s H vs Q E hr h=>?_)
 ·(revert h;refine Ld λA Z M r m Τ _=>?_;subst Τ)
  rfl
 ·(revert h;refine Ld λA0 Z M r m Τ=>JT λhS hm q=>?_;subst Τ)
  refine(Κ _ (ah (ar (au (ak (K:=K) (wv hr)) (aq (Cq T) (hr.mono (by decide)) rfl T.m3.m T.m3.F.kp T.m3.b .nil ό (aa (bu ["self","row"] ["self","row"] (Λ dP) (by exact⟨rfl,s!"d",s!"d",s!"d",s!"d",s!"d",s!"d",s!"d",s!"d"⟩) (aU (K:=K) (av (K:=K) (pv 0) rfl)) (λC₁ s₁ H₁ f₁=>(av (K:=K) (pv 0) rfl))) (aa (pZ (av (K:=K) (pv 0) rfl) T.fL T.gP.m (rX T) (hr.mono (by decide)) T.gP.b .nil ό) af))) (pv 1) (λ_ _=>rfl)))) ?_);walk_at "g";obtain⟨dx,Nk⟩:=hS.Tz;obtain⟨dxd,hde⟩:=hS.Wr.obj;have XO:GT K H A0.rl (A0.rs.map V.ref):=.inl (.inl hS.Ri);have l1:=pQ hS;have l2:=hS.Xh.hi;refine(lc _ dx _ Nk T.aS T.cP (Κ _ (mx A0) (bL XO ?_)));refine oB (xs:=A0.rs.map V.ref) (by rw[Ζ];unfold sizeLine;omega) (λD i ys H'=>H D=none/\Χ H H'/\H' D=some (.lst ys)/\ys=(M.Ms.take i).map λm=>V.int m.last) (λD hD=>⟨hD,Χ.upd hD,ae,rfl⟩) (λD i ys H' hi ⟨_,s,e,hy⟩=>⟨e,by rw[hy,Ζ,Ϭ];omega,s.seq XO⟩) (λD i ys H' v hD hv ⟨_,s,e,hy⟩ Qe qe=>?_) (λD ys H' hD ⟨_,s,e,hy⟩=>?_)
  ·rw[μ] at hv
   (refine ρ (Ϙ.mp hv) λr1 MR Τ=>?_;subst Τ);have Pa:i < A0.rs.length:=(Ο.mp MR).1;have hm1:M.Ms[i]?=some (M.Ms[i]'(by rw[hS.OB];exact Pa)):=by simp
   have UU:A0.ds[i]?=some (A0.ds[i]'(by rw[hS.lend];exact Pa)):=by simp
   obtain⟨YH,YN⟩:=(hS.row i r1 _ _ MR UU hm1).obj;walk_at "g";refine(lc _ YH _ (s _ _ YN) T.cN T.dS (Κ _ rfl ?_));refine qe _ _ e ⟨hD,Χ.wr s hD,ae,?_⟩;rw[hy,bi,hm1,ϖ];rfl
  ·rw[Ζ,<-hS.OB,sB] at hy
   have S1:=hS.same s;obtain⟨Zj,acB⟩:=S1.Tz;obtain⟨ajt,aju⟩:=S1.Wr.obj;refine(lc _ Zj _ acB T.aS T.fK (Κ _ (tE A0) (Κ _ rfl (ϒ ajt _ aju rfl (ύ _ rfl (Nd _ _ S1.Wr) (λp H2 hp s2 e2=>(Κ D rfl (ύ (M.Ms.map (·.last)) (.inl (.inl (by rw[s2 _ _ e,hy,χ];rfl))) e2 (λB H3 hB s3 hB3=>?_)))))))));refine aJ (v:=.int m.last) (.inl (.inl hB3)) (aW (by omega) (by rw[ϵ,χ,μ,hm];rfl)) ?_;exact q _ (s.trans (s2.trans s3))
def vi (T:Txt w K mg a):Ϥ P w K mg base (Oy P w) 7 a.QI a.QT ["state","row","start","most","whole"] (DL (M5 a)):=by
 refine T.gy.F.Rw mJ (λvs H Q E h=>?_) (λϹ A outer s H vs Q E hr h=>?_)
 ·(revert h;refine ME λA Z M r start most Τ _=>?_;subst Τ)
  rfl
 ·(revert h;refine ME λA0 Z M r start most Τ=>MD λhS hs9 hm1 hm2 hq=>?_;subst Τ)
  refine(Κ _ (ag (aN (aq (eI T) (hr.mono (by decide)) rfl T.aX.m T.aX.F.kp T.aX.b .nil Jm (aa (aG (aa (bW (aa (pv 2) (aa ai (aa (bx T.fO) af)))) (aa (bW (aa (pv 3) (aa ai (aa (bx T.rN) af)))) af))) af)))
   (ag (PS.Kf (aN (aq (rT T) (hr.mono (by decide)) rfl T.dZ.m T.dZ.F.kp T.dZ.b .nil ό (aa (pv 4) af))))
   (ag (aN (aq (ni T) (hr.mono (by decide)) rfl T.cH.m T.cH.F.kp T.cH.b .nil Jm (aa (pv 0) (aa (pv 1) af))))
   (ag (PS.Kf (ax (i:=5) mJ.nd rfl (ς rfl) (au (ak (K:=K) (wv hr)) (av (K:=K) (pv 0) rfl) (pv 1) (λ_ _=>rfl))))
   (ag (aL (PT.Kf (aF kZ (pv 2) (av (K:=K) (pv 5) rfl) (ϸ _))) aZ aw)
   (ah (PS.Kf (ar (aR (pv 5) T.cN T.lC.m (xx T) (hr.mono (by decide)) T.lC.b .nil ό (aa (pv 2) (aa (jk (aM (K:=K) (pv 4) (by intro _;rfl)) (aR (pv 0) T.aS T.bQ.m (gH T) (hr.mono (by decide)) T.bQ.b .nil ό (aa (pv 1) af)) (av (K:=K) (pv 5) rfl)) (aa (pv 3) af)))))))))))) ?_)
  walk_at "g2";refine⟨by decide,λp1 UF=>⟨by decide,λp2 US=>⟨by decide,λp3 hp3=>(Jw ([((start:Int),0,1000000000),((most:Int),1,1000)]) (Κ ([p1,p2]) ae ?_) (show 2<=9 by decide) (λy hy=>?_) (λH1 s1=>?_))⟩⟩⟩
  ·exact .cons (Χ.upd hp3 _ _ (Χ.upd US _ _ ae)) (.cons (Χ.upd hp3 _ _ ae) .nil)
  ·simp only[Θ,Ρ,ϛ] at hy
   rcases hy with rfl | rfl
   ·exact⟨by show(0:Int)<=start;omega,by show(start:Int)<=1000000000;omega⟩
   ·exact⟨by show(1:Int)<=most;omega,by show(most:Int)<=1000;omega⟩
  have YO:Χ H H1:=(Χ.upd UF).trans ((Χ.upd US).trans ((Χ.upd hp3).trans s1));walk_at "g3";refine(Κ A0 rfl (NC Z M r rfl (hS.same YO) ?_));(revert hq;refine G' λm hm hl=>Jb λhf q=>?_)
  ·have Pa:r < A0.rs.length:=by rw[<-hS.OB];exact(Ο.mp hm).1
   refine .inl ⟨Pa,λH2 s2=>?_⟩;walk_at "g3";have Zp:=YO.trans s2;have S2:=hS.same Zp;obtain⟨dx,Nk⟩:=S2.Tz;have MR:A0.rs[r]?=some A0.rs[r]:=by simp
   have UU:A0.ds[r]?=some (A0.ds[r]'(by rw[hS.lend];exact Pa)):=by simp
   generalize A0.rs[r]=rr at MR;generalize A0.ds[r]'(by rw[hS.lend];exact Pa)=d at UU;have R:=S2.row r rr d m MR UU hm;obtain⟨YH,YN⟩:=R.obj;have XO:GT K H2 A0.rl (A0.rs.map V.ref):=.inl (.inl S2.Ri);refine(lc _ dx _ Nk T.aS T.cP (Κ _ (mx A0) ?_));refine aJ (v:=.ref rr) XO (aW (by omega) (by rw[ϵ,μ,MR];rfl)) ?_;walk_at "g0";refine(lc _ YH _ YN T.cN T.i4 (Κ _ rfl ?_));walk_at "g";rw[Υ (by omega)];refine(ϒ YH _ YN rfl (ϒ dx _ Nk rfl (Κ A0 rfl (NC Z M r rfl S2 (Κ m hm (λH3 s3=>(Kz d m (R.same s3) hl (by omega) (by omega) ⟨by have:=R.f0;have:=R.fl;omega,by omega,λD H4 hD s4 hL=>?_⟩)))))));exact q D H4 (aV (Zp.trans s3) hD) (Zp.trans (s3.trans s4)) hL
def kG (T:Txt w K mg a):Ϥ P w K mg base IL 3 a.LH a.LK ["shelves"] yz:=by
 refine T.cf.F.ok bA (λvs H Q E h=>?_) (λϹ A outer s H vs Q E hr h=>?_)
 ·(revert h;refine sK λp xs Τ _=>?_;subst Τ)
  rfl
 ·(revert h;refine O1 λp xs Τ hL ok h3 q=>?_;subst Τ)
  refine(Κ _ (ag (ax (i:=1) bA.nd rfl (ς rfl) (aG (aa ao af)))
   (ag (cE Ϫ rfl (aU (K:=K) (pv 0)) (iE (K:=K) (n:=3) rfl (bt (aT (i:=2) bA.nd rfl (ς rfl)) (bt (aT (i:=3) bA.nd rfl (ς rfl)) (bt (aT (i:=4) bA.nd rfl (ς rfl)) ix)))) (ah (aN (bf (K:=K) PySem.F.plainAttrs_list PySem.F.slot_list_extend PySem.F.type_list_extend sU (pv 1) (aa (aG (aa (pv 2) (aa (aQ (a8 (K:=K)) rfl T.cY Iv (aa (pv 3) af)) (aa (pv 4) af)))) af)))))
   (ah (ar (aq (oq T) (hr.mono (by decide)) rfl T.bD.m T.bD.F.kp T.bD.b .nil ό (aa (pv 1) af)))))) ?_)
  walk_at "h";(revert hL;refine Ϟ λts e hT=>?_);have hlen:ts.length=xs.length:=by rw[hT.length,Ζ]
  refine⟨by decide,λu hu=>?_⟩;have s1:=Χ.upd (o:=.lst [.str (Α "shelves")]) hu;refine bL (xs:=ts.map V.ref) (.inl (.inl (s1 _ _ e))) (cv (xs:=ts.map V.ref) (λi σ H'=>Χ H H'/\H' u=some (.lst (tx (RY xs i)))/\∃v2 v3 v4,σ=[some (V.ref p),some (V.ref u),v2,v3,v4]) ⟨s1,ae.trans (by rfl),(LD _ _ _ rfl)⟩ (λi σ H' _ h=>.inl (.inl (h.1 _ _ e))) ?_ ?_)
  ·rintro i y σ H' hy ⟨s',eu,v2,v3,v4,rfl⟩
   rw[μ] at hy;(refine ρ (Ϙ.mp hy) λt Z7 Τ=>?_;subst Τ);(refine ρ (hT.get Z7) λys h1 h2=>?_);rw[μ] at h1;(refine ρ (Ϙ.mp h1) λy Rl Τ=>?_;subst Τ);have Z8:JZ K H' t y.v:=.inl (.inl (s' _ _ h2));have h9:=(ok.each y (Ν Rl)).2.1;have hl3:=qL (xs:=xs) i;walk_at "h";refine(ύ _ Z8 rfl (gl _ _ rfl (gl _ _ rfl (Ky _ _ rfl rfl (.inl ⟨_,.inl (.inl eu)⟩) (Jw _ rfl (a9 (by omega) (by omega)) (by decide) (λw hw=>?_))))));have s2:=Χ.upd (o:=.lst [.str (S y.name),.str (S (ϝ (y.rows:Int))),.str y.kind]) hw;have hu0:H u=none:=hu;refine(O3 u w _ _ rfl rfl (s2 _ _ eu) ae ⟨ζ (show(tx (RY xs i)).length+3<=20 by unfold tx;rw[Ζ];omega) (by decide),⟨Χ.wr (s'.trans s2) hu0,?_⟩⟩);rw[BI Rl];exact ae
  ·rintro σ H' ⟨s',eu,v2,v3,v4,rfl⟩
   rw[Ζ,hlen] at eu;have hl3:=qL (xs:=xs) xs.length;have hl4:=wI (λa ha=>(uP ok xs.length a ha).1);walk_at "h";exact(ύ _ (.inl (.inl eu)) (by omega) (λH2 s2=>q _ _ (s'.trans s2) (acg ok h3 _)))
def nj (T:Txt w K mg a):Ϥ P w K mg base IL 7 a.KQ a.M3 ["self","shelves"] (yA (M5 a)):=by
 refine T.ie.F.ok mO (λvs H Q E h=>?_) (λϹ A outer s H vs Q E hr h=>?_)
 ·(revert h;refine Kg λx dx p xs Τ _=>?_;subst Τ)
  rfl
 ·(revert h;refine O2 λx dx p xs Τ hx hL ok q=>?_;subst Τ)
  refine(Κ _ (ag (bw (pv 0) (ug T.Ce (kD T) (hr.mono (by decide)) rfl T.y6 T.fE.b .nil Ux (aa (pv 1) af)) rfl)
   (ag (bw (pv 0) (bu ["self","shelves"] ["self","shelves"] (Λ dO) (by exact⟨rfl,s!"d",s!"d",s!"d",s!"d",s!"d",s!"d",s!"d",s!"d"⟩) (jW rfl T.i5 (aa (pZ (av (K:=K) (pv 0) rfl) T.bE T.cM.m (jS T) (hr.mono (by decide)) T.cM.b .nil ό) af)) (λC₁ s₁ H₁ f₁=>(eZ T.HR (pC T) (hr.mono (by decide)) rfl T.G9 T.jN.b .nil ό))) rfl)
   (ag (bw (pv 0) (eZ T.Cc (kC T) (hr.mono (by decide)) rfl T.yZ T.fG.b .nil ό) rfl)
   (ag (bw (pv 0) (eZ T.Fj (ng T) (hr.mono (by decide)) rfl T.D4 T.ic.b .nil ό) rfl)
   (ag (bw (pv 0) d6 rfl)
   (ag (bw (pv 0) (eZ T.Cd (kF T) (hr.mono (by decide)) rfl T.y4 T.fJ.b .nil ό) rfl)
   (ah (bw (pv 0) ai rfl)))))))) ?_)
  walk_at "h1";refine λsh dxh YR afw ndx=>⟨⟨dxh,ae⟩,.inl (ύ xs (hL.same ((Χ.upd afw).trans (Χ.upd (by rw[aj (ω ndx)];exact YR)))) ok (λshl H1 ajv c1 R1=>?_))⟩
  have s1:Χ H H1:=cw YR afw c1;(refine IT (bB ajv) λYS ajw _=>?_);obtain⟨awt,eo1⟩:=R1.obj;(refine ρ R1.lst λ_ el1 _=>?_)
  have f1:Fr H H1 [sh,shl]:=(Fr.nil (H:=H)).adds [sh,shl] (M9.refl _) (by simp;exact λz=>ajw z.symm) (λb hb=>by
   simp only[Θ,Ρ,ϛ] at hb;rcases hb with rfl | rfl
   ·exact YR
   ·exact YS) s1.Kk (λb hb=>by
   simp only[Θ,Ρ,ϛ] at hb;rcases hb with rfl | rfl
   ·exact⟨_,eo1⟩
   ·exact⟨_,el1⟩)
  have nx:∀{b:Ε},H b=none->b∉[x]:=λhb z=>by rw[Μ.mp z,hx] at hb;cases hb
  have ZW:=s1 _ _ hx;refine(IN _ dx _ ZW T.aS T.bT (by decide) ?_);generalize hH2:upd H1 x _=H2;walk_at "h3";have c2:ϳ [x] H1 H2:=by rw[<-hH2];exact ϳ.upd (by simp) (λxs z=>by rw[ZW] at z;cases z)
  have hx2:H2 x=some (.ins a.IS dx [("shelves",.ref sh)]):=by rw[<-hH2];exact ae
  have l2:M9 H1 H2:=by rw[<-hH2];exact M9.wr
  have f2:=f1.Kk l2;have L2:=s1.Kk.trans l2;have R2:=R1.Ji c2 (nx YR) (nx YS);obtain⟨ajx,eo2⟩:=R2.obj;refine(lc _ dx _ hx2 T.aS T.bT (Κ _ rfl (Κ _ rfl (ϒ ajx _ eo2 rfl (Κ _ rfl (ϒ _ _ R2 (by have:=ok.hi;omega) (λH3 s3=>?_)))))));have h9:=k7 (λy hy=>(ok.each y hy).2.1.2) xs.length;have h6:=ok.hi;refine⟨by omega,by omega,?_⟩;rw[ϵ];refine l8 (ζ (show Ϝ xs xs.length<=54 by omega) (by decide)) (λD i ys H'=>∃rs ds,LG a.KG H3 H' D ys i rs ds) (λD hD=>(Nd ([]) ([]) (LG.zero hD))) (λD i ys H' _ zz=>V7 zz λrs ds h=>⟨h.lst,by rw[h.eq,Ζ,h.lr];exact Φ _⟩) (λD i ys H' hD hi ⟨rs,ds,h⟩ Qe qe=>?_) (λD ys H4 hD zz=>V7 zz λrs ds h=>?_)
  ·walk_at "h"
   refine λr YH Tg hdr ndr=>⟨⟨YH,ae⟩,λd H5 hd nd c5 R5=>?_⟩
   (refine IT (bB hd) λhd0 _ _=>?_);obtain⟨e5,h5⟩:=h.succ (cw Tg hdr c5) Tg hd0 nd R5;exact qe _ _ e5 (Nd _ _ h5)
  have s4:=s3.trans h.same;have hx4:=s4 _ _ hx2;have L4:=L2.trans s4.Kk;have f4:=(f2.Kk s3.Kk).adds (D::(rs++ds)) (L2.trans s3.Kk) h.fr.nd h.fr.no h.same.Kk h.fr.yes;have d0:∀b∈D::(rs++ds),H b=none:=λb hb=>f4.no b (ώ _ hb);refine(IN _ dx _ hx4 T.aS T.cP (show 1 < 1000 by decide) ?_);generalize hH5:upd H4 x _=H5;walk_at "h3";(refine IT (Vk hx4 hH5) λc5 hx5 l5=>?_);have L5:=L4.trans l5;have f5:=f4.Kk l5;refine λsn UV hsn aac awz=>⟨⟨UV,ae⟩,λl t p' H6 hl ht hp6 c6 R6=>?_⟩
  have s6:Χ H5 H6:=cw hsn aac c6;have f6:=f5.four L5 s6.Kk (by simp;exact⟨⟨R6.rl,R6.rt,R6.rp⟩,⟨R6.lt,R6.lp⟩,R6.tp⟩) hsn (bB hl).1 (bB ht).1 (bB hp6).1 (R6.obj.elim λ_ e=>⟨_,e⟩) (R6.Kk.elim λ_ e=>⟨_,e.1⟩) (R6.YE.elim λ_ e=>⟨_,e.1⟩) (R6.Zh.elim λ_ e=>⟨_,e.1⟩);have L6:=L5.trans s6.Kk;have hx6:=s6 _ _ hx5;refine(IN _ dx _ hx6 T.aS T.ba (show 2 < 1000 by decide) ?_);generalize hH7:upd H6 x _=H7;walk_at "h3";(refine IT (Vk hx6 hH7) λc7 hx7 l7=>?_);have L7:=L6.trans l7;have f7:=f6.Kk l7;refine λde dxd hde ajz awC=>⟨⟨dxd,ae⟩,λdl bz H8 VX Zo c8 R8=>?_⟩
  have s8:Χ H7 H8:=cw hde ajz c8
  have f8:=f7.three L7 s8.Kk (ω (bB VX).2.1) (ω (bB Zo).2.1) (λz=>by
   (refine ρ R8.bsy λ_ e _=>?_)
   rw[<-z,R8.lst] at e;cases e) hde (bB VX).1 (bB Zo).1 (R8.obj.elim λ_ e=>⟨_,e⟩) ⟨_,R8.lst⟩ (R8.bsy.elim λ_ e=>⟨_,e.1⟩)
  have L8:=L7.trans s8.Kk;have hx8:=s8 _ _ hx7;refine(IN _ dx _ hx8 T.aS T.fK (show 3 < 1000 by decide) ?_);generalize hH9:upd H8 x _=H9;walk_at "h3";(refine IT (Vk hx8 hH9) λc9 hx9 l9=>?_);have L9:=L8.trans l9;have f9:=f8.Kk l9;refine λgr hgr=>?_;have s10:Χ H9 (upd H9 gr (.dK [])):=Χ.upd hgr;have f10:=f9.add L9 hgr s10.Kk ⟨_,ae⟩;have e10:upd H9 gr (.dK []) gr=some (.dK []):=ae;generalize upd H9 gr (.dK [])=Yn at s10 f10 e10 ⊢;have L10:=L9.trans s10.Kk;have afx:=s10 _ _ hx9;refine(IN _ dx _ afx T.aS T.pB (show 4 < 1000 by decide) ?_);generalize ajA:upd Yn x _=H11;walk_at "h3";(refine IT (Vk afx ajA) λc11 ajB l11=>?_);have L11:=L10.trans l11;have f11:=f10.Kk l11;refine λrd dxe hrd ajC awI=>⟨⟨dxe,ae⟩,λra rb H12 hra hrb c12 R12=>?_⟩
  have s12:Χ H11 H12:=cw hrd ajC c12;have f12:=f11.three L11 s12.Kk R12.ra R12.rb R12.ab hrd (bB hra).1 (bB hrb).1 (R12.obj.elim λ_ e=>⟨_,e⟩) (R12.row.elim λ_ e=>⟨_,e.1⟩) (R12.pla.elim λ_ e=>⟨_,e.1⟩);have L12:=L11.trans s12.Kk;have afy:=s12 _ _ ajB;refine(IN _ dx _ afy T.aS T.oi (show 5 < 1000 by decide) ?_);generalize ajD:upd H12 x _=H13;walk_at "h0";(refine IT (Vk afy ajD) λc13 afz l13=>?_);have L13:=L12.trans l13;have f13:=f12.Kk l13;refine(IN _ dx _ afz T.aS T.sF (show 6 < 1000 by decide) ?_);generalize ajE:upd H13 x _=YT;(refine IT (Vk afz ajE) λc14 ajF l14=>?_);have L14:=L13.trans l14;have f14:=f13.Kk l14;have g12:ϳ [x] H12 YT:=c13.trans c14;have g8:ϳ [x] H8 YT:=c9.trans ((ϳ.of_same s10).trans (c11.trans ((ϳ.of_same s12).trans g12)));have g6:ϳ [x] H6 YT:=c7.trans ((ϳ.of_same s8).trans g8);have g4:ϳ [x] H4 YT:=c5.trans ((ϳ.of_same s6).trans g6);have g2:ϳ [x] H2 YT:=(ϳ.of_same s4).trans g4;have no:∀b∈[rd,ra,rb]++(gr::([de,dl,bz]++([sn,l,t,p']++((D::(rs++ds))++[sh,shl])))),b∉[x]:=λb hb=>nx (f14.no b hb);refine q { c:=0,st:=x,bk:=0,bl:=0,sh:=sh,shl:=shl,rl:=D,sn:=sn,l:=l,t:=t,p:=p',de:=de,dl:=dl,bz:=bz,gr:=gr,rd:=rd,ra:=ra,rb:=rb,rs:=rs,ds:=ds } YT rfl ((ϳ.of_same s1).trans (c2.trans g2)) (f14.perm (DJ ({ c:=0,st:=x,bk:=0,bl:=0,sh:=sh,shl:=shl,rl:=D,sn:=sn,l:=l,t:=t,p:=p',de:=de,dl:=dl,bz:=bz,gr:=gr,rd:=rd,ra:=ra,rb:=rb,rs:=rs,ds:=ds }:CA))) ?_;refine⟨⟨dx,ajF⟩,R2.Ji g2 (nx YR) (nx YS),ok,?_,λi r d h1 h2=>?_,h.lr,h.ld.trans h.lr.symm,?_,?_,?_,?_⟩
  ·exact g4.keep _ _ (by rw[h.lst,h.eq]) (no _ (mi 11 rfl))
  ·have m1:=Ν h1
   have m2:=Ν h2;exact(h.row i r d h1 h2).Ji g4 (nx (d0 _ (ε _ (ώ _ m1)))) (nx (d0 _ (ε _ (ι _ m2))))
  ·exact R6.Ji g6 (no _ (mi 7 rfl)) (no _ (mi 8 rfl)) (no _ (mi 9 rfl)) (no _ (mi 10 rfl)) (λb hb=>.inr λxs z=>by rw[Μ.mp hb,hx6] at z;cases z)
  ·exact R8.Ji g8 (no _ (mi 4 rfl)) (no _ (mi 5 rfl)) (no _ (mi 6 rfl)) (λ_ hu=>nomatch hu)
  ·exact R12.Ji g12 (no _ (mi 0 rfl)) (no _ (mi 1 rfl)) (no _ (mi 2 rfl))
  ·exact(c11.trans ((ϳ.of_same s12).trans g12)).keep _ _ e10 (no _ (mi 3 rfl))
def lL (T:Txt w K mg a):Ϥ P w K mg base IL 9 a.Kp a.Mz ["self","shelves"] (yC (M5 a)):=by
 refine T.gz.F.ok lq (λvs H Q E h=>?_) (λϹ A outer s H vs Q E hr h=>?_)
 ·(revert h;refine Kg λx dx p xs Τ _=>?_;subst Τ)
  rfl
 ·(revert h;refine O2 λx dx p xs Τ hx hL ok=>Jb λh3 q=>?_;subst Τ)
  refine(Κ _ (ag (bw (pv 0) (ug T.Fi (nj T) (hr.mono (by decide)) rfl T.D3 T.ie.b .nil ό (aa (pv 1) af)) rfl)
   (ag (bw (pv 0) (eZ T.Ha (ot T) (hr.mono (by decide)) rfl T.Fh T.je.b .nil ό) rfl)
   (ah (aN (aR (av (K:=K) (pv 0) rfl) T.gG T.du.m (kS T) (hr.mono (by decide)) T.du.b .nil ό (aa (aG (aa (aq (kG T) (hr.mono (by decide)) rfl T.cf.m T.cf.F.kp T.cf.b .nil ό (aa (pZ (av (K:=K) (av (K:=K) (pv 0) rfl) rfl) T.bE T.fF.m (pF T) (hr.mono (by decide)) T.fF.b .nil ό) af)) af)) af)))))) ?_)
  walk_at "i";refine λst UV Nk aac nds=>⟨⟨UV,ae⟩,(ύ xs (hL.same ((Χ.upd aac).trans (Χ.upd (by rw[aj (ω nds)];exact Nk)))) ok (λA1 H1 hA c1 f1 S1=>?_))⟩
  have s1:Χ H H1:=cw Nk aac c1;have lU:M9 H (upd (upd H UV (.own st)) st (.ins a.IS UV [])):=M9.wr.trans M9.wr;have eU:upd (upd H UV (.own st)) st (.ins a.IS UV []) st=some (.ins a.IS UV []):=ae;generalize upd (upd H UV (.own st)) st (.ins a.IS UV [])=U at c1 f1 lU eU;obtain⟨Zj,hs1⟩:=S1.Tz;rw[hA] at hs1;have F1:L2.Fr H H1 (A1.new++[st]):=((Fr.nil (H:=H)).add (M9.refl _) Nk lU ⟨_,eU⟩).adds A1.new lU f1.nd f1.no (c1.ai2 hs1) f1.yes;have nx:∀{b:Ε},H b=none->b∉[x]:=λhb z=>by rw[Μ.mp z,hx] at hb;cases hb
  have ZW:=s1 _ _ hx;refine(IN _ dx _ ZW T.bb T.bh (by decide) ?_);generalize hH2:upd H1 x _=H2;(refine IT (Vk ZW hH2) λc2 hx2 l2=>?_);have L2:=s1.Kk.trans l2;have F2:=F1.Kk l2;refine λbk dxb hbk ajJ ndb=>⟨⟨dxb,ae⟩,λbl H3 hbl nbl c3 B3=>?_⟩
  have s3:Χ H2 H3:=cw hbk ajJ c3;have F3:=F2.two L2 s3.Kk (ω nbl) hbk (bB hbl).1 (B3.obj.elim λ_ e=>⟨_,e⟩) ⟨_,B3.lst⟩;have L3:=L2.trans s3.Kk;have hx3:=s3 _ _ hx2;refine(IN _ dx _ hx3 T.bb T.fM (show 1 < 1000 by decide) ?_);generalize hH4:upd H3 x _=H4;(refine IT (Vk hx3 hH4) λc4 hx4 l4=>?_);have L4:=L3.trans l4;have F4:=F3.Kk l4;have no:∀b∈[bk,bl]++(A1.new++[st]),b∉[x]:=λb hb=>nx (F4.no b hb);have B4:KJ a.ML H4 bk bl []:=by
   obtain⟨dx3,e⟩:=B3.obj;exact⟨⟨dx3,c4.keep _ _ e (no _ (by simp))⟩,c4.keep _ _ B3.lst (no _ (by simp))⟩
  have g1:ϳ [x] H1 H4:=c2.trans ((ϳ.of_same s3).trans c4);have mn:∀b∈A1.new,b∉[x]:=λb hb=>no b (by simp[hb]);have WX:∀{b:Ε},b∈[A1.sh,A1.shl,A1.rl,A1.sn,A1.l,A1.t,A1.p,A1.de,A1.dl,A1.bz,A1.gr,A1.rd,A1.ra,A1.rb]->b∉[x]:=λhb=>mn _ (ώ _ hb);have ss:H4 st=some (.ins a.IS Zj (stF A1)):=g1.keep _ _ hs1 (no _ (by simp));have sh4:=S1.Xg.Ji g1 (WX (by simp)) (WX (by simp))
  let A2:CA:={ A1 with c:=x,bk:=bk,bl:=bl }
  have C4:Gc (M5 a) H4 A2 [bl,A1.rl,A1.shl,A1.dl] ⟨xs,ϥ (Ϝ xs xs.length) NE,OG,[]⟩:=by
   refine⟨⟨dx,?_⟩,B4,⟨Zj,?_⟩,sh4,ok,?_,?_,S1.len,S1.lend,?_,?_,?_,?_,?_,?_,?_,?_⟩
   ·rw[hx4]
    show some (HO.ins a.IZ dx [("state",.ref st),("book",.ref bk)])=some (HO.ins a.IZ dx [("state",.ref A1.st),("book",.ref bk)]);rw[hA]
   ·show H4 A1.st=_
    rw[hA];exact ss
   ·exact g1.keep _ _ S1.Ri (WX (b:=A1.rl) (by simp))
   ·intro i r d m h1 h2 h3
    have:=Ν h3;rw[Je this];exact(S1.row i r d h1 h2).Ji g1 (mn _ (ι _ (ώ _ (Ν h1)))) (mn _ (ι _ (ι _ (Ν h2))))
   ·show(ϥ (Ϝ xs xs.length) NE).length=A1.rs.length
    rw[FB,S1.len]
   ·have z:=S1.snd.Ji g1 (WX (by simp)) (WX (by simp)) (WX (by simp)) (WX (by simp)) (λb hb=>.inr λxs z=>by rw[Μ.mp hb,ZW] at z;cases z)
    exact⟨z.obj,z.Kk,z.YE,by
     (refine ϭ z.Zh λkv e1 e2 _=>?_)
     exact(ύ kv e1 e2 (λz hz=>by cases hz)),z.len,z.rl,z.rt,z.rp,z.lt,z.lp,z.tp⟩
   ·exact S1.Wr.Ji g1 (WX (by simp)) (WX (by simp)) (WX (by simp)) (λ_ hu=>nomatch hu)
   ·exact S1.Zi.Ji g1 (WX (by simp)) (WX (by simp)) (WX (by simp))
   ·exact g1.keep _ _ S1.grp (WX (b:=A1.gr) (by simp))
   ·exact⟨by simp[A2],by simp[A2],by simp[A2],by simp[A2]⟩
   ·intro b hb
    refine F4.yes b ?_;simp only[Θ,Ρ,ϛ] at hb;unfold CA.new;rcases hb with rfl | rfl | rfl | rfl<;>simp
   ·have p1:(x::([bk,bl]++(A1.new++[st]))).Perm A2.fix:=by
     rw[<-hA];exact wJ A1 x bk bl
    refine p1.nodup_iff.mp (Ϯ.mpr ⟨λz=>no x z (by simp),F4.nd⟩)
  obtain⟨ajM,hb4⟩:=B4.obj;obtain⟨ajN,hh4⟩:=sh4.obj;refine(lc _ dx _ hx4 T.bb T.fM (Κ _ rfl (Κ bk rfl (ϒ ajM _ hb4 rfl (lc _ dx _ hx4 T.bb T.bh (Κ _ rfl (Κ st rfl (lc _ Zj _ ss T.aS T.bT (Κ _ (jx A1) (Κ _ rfl (ϒ ajN _ hh4 rfl (Κ _ rfl (gl _ _ sh4 (λD H5 hD s5 hL5=>(Jw xs hL5 ok h3 (λb H6 s6 ob=>⟨by decide,λp6 hp6=>?_⟩))))))))))))))));have s46:Χ H4 (upd H6 p6 (.lst [.str (S b)])):=s5.trans (s6.trans (Χ.upd hp6));have C6:=C4.same s46;have np:p6≠bl:=λz=>by
   have:=(s5.trans s6) _ _ B4.lst;rw[<-z,hp6] at this;cases this
  refine(Κ bk rfl (gl bl ([]) C6.book (RI ([b]) ae np (λc hc=>by rw[Μ.mp hc];exact ob) (by show 0+1<=5000;decide) (λH7 c7 B7=>?_))));have C7:=C6.wrote c7 B7;have NP:∀b∈A2.fix,b=x\/H b=none:=λb hb=>by
   have p1:(x::([bk,bl]++(A1.new++[st]))).Perm A2.fix:=by
    rw[<-hA];exact wJ A1 x bk bl
   rcases Θ.mp (p1.mem_iff.mpr hb) with h | h
   ·exact .inl h
   ·exact .inr (F4.no b h)
  refine q A2 _ H7 _ rfl NP ?_ C7 (by rw[IG,mq,fV];rfl);exact((ϳ.of_same s1).trans (g1.trans (ϳ.of_same s46))).past c7 (F4.no bl (by simp))
def kT (T:Txt w K mg a):Ϥ P w K mg base IL 7 a.Px a.PJ ["self","asked"] (BJ (M5 a)):=by
 refine T.dA.F.ok gN (λvs H Q E h=>?_) (λϹ A outer s H vs Q E hr h=>?_)
 ·(revert h;refine ME λA Z M t ev u Τ _=>?_;subst Τ)
  rfl
 ·(revert h;refine ME λA0 Z M t ev u Τ=>JT λhC ht h=>?_;subst Τ)
  refine(Κ _ (ag (ax (i:=2) gN.nd rfl (ς rfl) (au (ak (K:=K) (wv hr)) (pv 1) ai (λ_ _=>rfl)))
   (ag (aL (aM (K:=K) (pv 2) (by intro _;rfl)) (ah (aN (aR (av (K:=K) (pv 0) rfl) T.gG T.du.m (kS T) (hr.mono (by decide)) T.du.b .nil ό (aa (bu ["self","asked","events","event"] ["self","asked","events",""] (Λ iO) (by exact⟨rfl,s!"d",s!"d",s!"d",s!"d",s!"d",s!"d",s!"d",s!"d"⟩) (aU (K:=K) (pv 2)) (λC₁ s₁ H₁ f₁=>(aq (xA T) (hr.mono (by decide)) rfl T.iS.m T.iS.F.kp T.iS.b .nil ό (aa (pv 0) af)))) af)))) aw)
   (ag (cE Ϫ rfl (aU (K:=K) (pv 2)) (aT (i:=3) gN.nd rfl (ς rfl)) (ah (aN (aq (Cr T) (hr.mono (by decide)) rfl T.mW.m T.mW.F.kp T.mW.b .nil ό (aa (av (K:=K) (pv 0) rfl) (aa (pv 3) af))))))
   (ah (ar (au (ak (K:=K) (wv hr)) (pv 1) ai (λ_ _=>rfl))))))) ?_)
  have l1:JZ K H t [.ref ev,.ref u]:=.inl (.inl ht);walk_at "i";refine bc l1 rfl ?_;obtain⟨UH,Rg⟩:=hC.SX;rcases h with⟨Te,q⟩ | ⟨D,Te,R3,nev,nD,hsz,h⟩
  ·refine(Κ false (.inl (Κ ([]) (.inl (.inl Te)) rfl)) ?_)
   rw[Υ (by decide)];refine bL (xs:=[]) (.inl (.inl Te)) (cv (xs:=[]) (λi σ H'=>H'=H/\∃v,σ=[some (V.ref A0.c),some (V.ref t),some (V.ref ev),v]) ⟨rfl,(MF none rfl)⟩ (λi σ H' _ h=>by rw[h.1];exact .inl (.inl Te)) (λi y σ H' hy=>by simp at hy) ?_)
   rintro σ H' ⟨rfl,v,rfl⟩
   walk_at "i";exact bc l1 rfl q
  ·refine(Κ true (.inl (Κ ([.ref D]) (.inl (.inl Te)) rfl)) ?_)
   rw[δ rfl];obtain⟨dxb,hbk⟩:=hC.book.obj;refine(lc _ UH _ Rg T.bb T.fM (Κ _ (DI A0) (Κ _ rfl (ϒ dxb _ hbk rfl ?_))));have Z9:GT K H ev [.ref D]:=.inl (.inl Te);refine bL Z9 ?_;obtain⟨en,ps,pa,hD,hEN,hEO⟩:∃en ps pa,H D=some (.dK (Oz en ps))/\ZZ a.Jp a.JL en (ps.map (·.1)) pa/\Vj en ps:=by
    rcases h with⟨n,kk,h1,h2,_⟩ | ⟨n,kk,i,pl,key,wo,m,h1,h2,_⟩
    ·exact(NC _ _ _ h1 ZZ.Le h2)
    ·exact(NC _ _ _ h1 ZZ.put h2)
   refine oB (xs:=[.ref D]) (show 1<=sizeLine by decide) (λL i ys H'=>H L=none/\Χ H H'/\H' L=some (.lst ys)/\ys.length=i/\∃bs:List (List Nat),ys=tx bs/\∀b∈bs,okB b) (λL hL=>⟨hL,Χ.upd hL,ae,rfl,(Κ ([]) rfl (λ_ z=>nomatch z))⟩) (λL i ys H' _ h=>⟨h.2.2.1,Qp h.2.2.2.1,h.2.1.seq Z9⟩) ?_ ?_
   ·rintro L i ys H' v hL hv ⟨_,s',e',hy,bs,hbs,hob⟩ Qe qe
    have hv2:v=.ref D:=by
     match i,hv with
     | 0,hv=>exact(ϗ hv).symm
    subst hv2;walk_at "i";refine(O3 en D pa ps rfl (s' _ _ hD) hEN hEO (λb H2 s2 ob=>qe _ _ (s2 _ _ e') ⟨hL,Χ.wr (s'.trans s2) hL,ae,by simp[hy],(Κ (bs++[b]) (by rw[hbs];unfold tx;simp) (λc hc=>?_))⟩));rcases ϑ.mp hc with h1 | h1
    ·exact hob c h1
    ·rw[Μ.mp h1];exact ob
   rintro L ys H1 hL ⟨_,s1,e1,hy,bs,rfl,hob⟩
   have C1:=hC.same s1;have hbl:L≠A0.bl:=λz=>by
    have:=hC.book.lst;rw[<-z,hL] at this;cases this
   have hbn:bs.length=1:=by unfold tx at hy;simpa using hy
   refine(Κ _ rfl (Κ L rfl (gl _ _ C1.book (RI bs e1 hbl hob (by omega) (λH2 c2 B2=>?_)))));have C2:Gc (M5 a) H2 A0 Z (M.wr _):=C1.wrote c2 B2;have inB:A0.bl∈A0.fix:=ώ _ (by simp);have c02:ϳ A0.fix H H2:=(ϳ.of_same s1).trans (c2.mono λb hb=>by rw[Μ.mp hb];exact inB);have Tf:=c02.keep _ _ Te nev;have Rh:=c02.keep _ _ hD nD;have ht2:=c02.tup _ _ ht;have hll:(M.ls++Vi M.ls.length (Xc bs)).length=M.ls.length+1:=by
    rw[Ω,mq,fV,hbn]
   generalize M.ls++Vi M.ls.length (Xc bs)=ls2 at B2 C2 hll;obtain⟨ajQ,ajR⟩:=C2.SX;refine bL (xs:=[.ref D]) (.inl (.inl Tf)) (cv (xs:=[.ref D]) (λi σ H'=>H' ev=some (.lst [.ref D])/\((i=0/\H'=H2)\/(i=1/\H' t=some (.tup [.ref ev,.ref u])/\Q (.ref u) H'))/\∃v,σ=[some (V.ref A0.c),some (V.ref t),some (V.ref ev),v]) ⟨Tf,.inl ⟨rfl,rfl⟩,(MF none rfl)⟩ (λi σ H' _ h=>.inl (.inl h.1)) ?_ ?_)
   ·rintro i y σ H' hy ⟨_,hi,v,rfl⟩
    obtain⟨rfl,rfl⟩:i=0/\y=.ref D:=by
     match i,hy with
     | 0,hy=>exact⟨rfl,(ϗ hy).symm⟩
    obtain rfl:H'=H2:=by
     rcases hi with h | h
     ·exact h.2
     ·exact absurd h.1 (by decide)
    walk_at "i";have i3:∀b∈[A0.l,A0.t,A0.p],b∈A0.fix:=λb hb=>ώ _ (by simp only[Θ,Ρ,ϛ] at hb ⊢;grind);refine(lc _ ajQ _ ajR T.bb T.bh (Κ _ (eV A0) (gl A0.st D rfl ?_)));rcases h with⟨n,kk,h1,h2,h3,q⟩ | ⟨n,kk,i,pl,key,wo,m,h1,h2,hm,hml,hL,hkk,q⟩
    ·have e1:=c02.keep _ _ h1 nD
     refine .inl ⟨(MG A0 Z (M.wr ls2) D n kk rfl C2.st e1 hsz h3 (λH3 c3 S3=>?_)),(MF _ e1)⟩;have c3':=c3.mono i3;exact⟨c3'.keep _ _ Tf nev,c3.tup _ _ ht2,q H3 ls2 (c02.trans c3') (C2.stood c3 (λb hb=>by simp only[Θ,Ρ,ϛ] at hb ⊢;grind) S3 rfl) hll⟩
    ·have e1:=c02.keep _ _ h1 nD
     have Pa:i < A0.rs.length:=by rw[<-hC.st.OB];exact(Ο.mp hm).1
     have MR:A0.rs[i]?=some A0.rs[i]:=by simp
     have UU:A0.ds[i]?=some (A0.ds[i]'(by rw[hC.st.lend];exact Pa)):=by simp
     generalize A0.rs[i]=r at MR;generalize A0.ds[i]'(by rw[hC.st.lend];exact Pa)=d at UU;have mr:=Ν MR;have md:=Ν UU;have ir:r∈A0.fix:=ι _ (ώ _ mr);have id:d∈A0.fix:=ι _ (ι _ md);refine .inr ⟨(Nf A0 Z (M.wr ls2) D n kk (Nf i pl key wo r d (P7 m rfl C2.st e1 (λz=>nD (z▸id)) (λz=>nD (z▸i3 _ (by simp))) ⟨λz=>nD (z▸i3 _ (by simp)),MR,UU,hm,⟨hml,hsz,hL,hkk,λH3 c3 S3=>?_⟩⟩))),(MF _ e1)⟩;have c3':ϳ A0.fix H' H3:=c3.mono λb hb=>by
      simp only[Θ,Ρ,ϛ] at hb;rcases hb with rfl | rfl | rfl | rfl | rfl
      ·exact ir
      ·exact id
      ·exact i3 _ (by simp)
      ·exact i3 _ (by simp)
      ·exact i3 _ (by simp)
     refine⟨c3'.keep _ _ Tf nev,c3.tup _ _ ht2,q H3 ls2 (c02.trans c3') (C2.stood c3 (λb hb=>?_) S3 rfl) hll⟩;simp only[Θ,Ρ,ϛ] at hb;rcases hb with rfl | rfl | rfl | rfl | rfl
     ·simp[mr]
     ·simp[md]
     ·simp
     ·simp
     ·simp
   ·rintro σ H' ⟨_,hi,v,rfl⟩
    obtain⟨ht3,q⟩:H' t=some (.tup [.ref ev,.ref u])/\Q (.ref u) H':=by
     rcases hi with h | h
     ·exact absurd h.1 (show ¬1=0 by decide)
     ·exact h.2
    walk_at "i";exact bc (.inl (.inl ht3)) rfl q
def rY (T:Txt w K mg a):Ϥ P w K mg base IL 8 a.ON a.OV ["self","sender"] (yB (M5 a)):=by
 refine T.gQ.F.ok rm (λvs H Q E h=>?_) (λϹ A outer s H vs Q E hr h=>?_)
 ·(revert h;refine Ld λA Z M n kk Τ _=>?_;subst Τ)
  rfl
 ·(revert h;refine Ld λA0 Z M n kk Τ=>P6 λhC hn hkk hk9 R3=>JT λhsz hv q=>?_;subst Τ)
  refine(Κ _ (ah (ar (aR (pv 0) T.bb T.dA.m (kT T) (hr.mono (by decide)) T.dA.b .nil ό (aa (aq (xB T) (hr.mono (by decide)) rfl T.iU.m T.iU.F.kp T.iU.b .nil ό (aa (av (K:=K) (pv 0) rfl) (aa (pv 1) af))) af)))) ?_);walk_at "i";obtain⟨UH,Rg⟩:=hC.SX;refine(ϒ UH _ Rg rfl (lc _ UH _ Rg T.bb T.bh (Κ _ (eV A0) (Ov A0 Z M n kk rfl hC.st hn hkk hk9 (λt ev u D H1 s1 Te hD et ee eD eu=>?_)))));refine(Nf A0 Z M t ev u ⟨rfl,hC.same s1,et,.inr (P7 D ee R3 (hC.RZ Te) (hC.RZ hD) hsz (.inl (Ky n kk eD (tF hn hk9) hv (λH2 ls c2 C2 hl=>?_))))⟩);exact q u H2 ls ((ϳ.of_same s1).trans c2) C2 hl (c2.tup _ _ eu)
def sI (T:Txt w K mg a):Ϥ P w K mg base (Oy P w) 8 a.Nm a.No ["self","sender","life","number","shelf","key","word","deed"] (BK (M5 a)):=by
 refine T.u7.Rw sr (λvs H Q E h=>?_) (λϹ A outer s H vs Q E hr h=>?_)
 ·(revert h;refine JY λA Z M n LS key=>ME λwo life num dd j x Τ _=>?_;subst Τ)
  rfl
 ·(revert h;refine JY λA0 Z M n LS key=>ME λwo life num dd j x Τ=>Um λhP hL IK hq=>?_;subst Τ;subst IK)
  refine(Κ _ (ah (ar (aR (pv 0) T.bb T.dA.m (kT T) (hr.mono (by decide)) T.dA.b .nil ό (aa (aq (zk T) (hr.mono (by decide)) rfl T.kf.m T.kf.F.kp T.kf.b .nil Jm (aa (av (K:=K) (pv 0) rfl) (aa (pv 1) (aa (pv 2) (aa (pv 3) (aa (pv 4) (aa (bW (aa (pv 5) (aa (pv 6) af))) (aa (pv 7) af)))))))) af)))) ?_);walk_at "i";obtain⟨hC,hnm,hsh,hky,hwd,WF,hlf,hnu,hdd,Xb,Zn⟩:=hP;obtain⟨UH,Rg⟩:=hC.SX;refine(ϒ UH _ Rg rfl (lc _ UH _ Rg T.bb T.bh (ύ _ (eV A0) (by decide) (λp hp=>?_))));have s0:=Χ.upd (o:=.tup [.str (S key),wV wo]) hp;have C0:=hC.same s0;refine(Nf A0 Z M n LS key (Nf wo life num 0 j x (P7 p rfl ae ⟨C0.st,hnm,hsh,hky,hwd,WF,hlf,hnu,hdd,Xb,Zn⟩ hL rfl ?_)));rcases hq with⟨i,y,h2,h3,q⟩ | ⟨h2,i,pl,m,hi,hm,NV,aw3,R3,hsz,q⟩
  ·refine .inl (ϒ i y h2 h3 (λt ev u H1 s1 et ee eu=>?_))
   exact(Nf A0 Z M t ev u ⟨rfl,C0.same s1,et,.inl ⟨ee,q u H1 (s0.trans s1) eu⟩⟩)
  ·refine .inr ⟨h2,(IN i pl m hi hm NV (by omega) (λt ev u D H1 s1 Te hD et ee eD eu=>?_))⟩
   have l1:=pQ hC.st;have l2:=hC.st.Xh.hi;have Pa:i < A0.rs.length:=by rw[<-hC.st.OB];exact(Ο.mp hm).1
   refine(Nf A0 Z M t ev u ⟨rfl,C0.same s1,et,.inr (P7 D ee R3 (C0.RZ Te) (C0.RZ hD) hsz (.inr (Nf n num i pl key wo (P7 m eD (wF hnm (by omega) (by decide) (by omega) (by omega) hky hwd WF) hm (by omega) (by rw[hL];rfl) ⟨h2,λH2 ls c2 C2 hl=>?_⟩))))⟩);exact q u H2 ls ((ϳ.of_same (s0.trans s1)).trans c2) C2 hl (c2.tup _ _ eu)
def rZ (T:Txt w K mg a):Ϥ P w K mg base (Oy P w) 8 a.MM a.MN ["self","row","start","most","whole"] (BN (M5 a)):=by
 refine T.sD.Rw rn (λvs H Q E h=>?_) (λϹ A outer s H vs Q E hr h=>?_)
 ·(revert h;refine ME λA Z M r start most Τ _=>?_;subst Τ)
  rfl
 ·(revert h;refine ME λA0 Z M r start most Τ=>MD λhC hs9 hm1 hm2 hq=>?_;subst Τ)
  refine(Κ _ (ah (ar (aq (vi T) (hr.mono (by decide)) rfl T.gy.m T.gy.F.kp T.gy.b .nil Jm (aa (av (K:=K) (pv 0) rfl) (aa (pv 1) (aa (pv 2) (aa (pv 3) (aa (pv 4) af)))))))) ?_);walk_at "i";obtain⟨UH,Rg⟩:=hC.SX;exact(lc _ UH _ Rg T.bb T.bh (Κ _ (eV A0) (MG A0 Z M r start most rfl hC.st hs9 hm1 hm2 hq)))
def lM (T:Txt w K mg a):Ϥ P w K mg base (Oy P w) 7 a.Mp a.MA ["self","row"] (yD (M5 a) a.AC):=by
 refine T.dB.F.Rw lu (λvs H Q E h=>?_) (λϹ A outer s H vs Q E hr h=>?_)
 ·(revert h;refine Kg λA Z M r Τ _=>?_;subst Τ)
  rfl
 ·(revert h;refine Kg λA0 Z M r Τ=>Jb λhC hq=>?_;subst Τ)
  refine(Κ _ (ag (aN (aq (ni T) (hr.mono (by decide)) rfl T.cH.m T.cH.F.kp T.cH.b .nil Jm (aa (av (K:=K) (pv 0) rfl) (aa (pv 1) af))))
   (ah (PS.Kf (ar (aR (av (K:=K) (pv 0) rfl) T.aS T.bQ.m (gH T) (hr.mono (by decide)) T.bQ.b .nil ό (aa (pv 1) af)))))) ?_)
  walk_at "i";obtain⟨UH,Rg⟩:=hC.SX;refine(lc _ UH _ Rg T.bb T.bh (Κ _ (eV A0) (Κ A0 rfl (NC Z M r rfl hC.st ?_))));rcases hq with⟨m,hm,q⟩ | ⟨h1,h2,hB⟩
  ·have Pa:r < A0.rs.length:=by rw[<-hC.st.OB];exact(Ο.mp hm).1
   refine .inl ⟨Pa,λH1 s1=>?_⟩;have C1:=hC.same s1;obtain⟨Zj,ajS⟩:=C1.SX;obtain⟨UV,Nk⟩:=C1.st.Tz;exact(lc _ Zj _ ajS T.bb T.bh (Κ _ (eV A0) (Κ _ rfl (ϒ UV _ Nk rfl (Κ A0 rfl (NC Z M r rfl C1.st (Κ m hm (λH2 s2=>q H2 (s1.trans s2)))))))))
  ·exact .inr ⟨h1,h2,hB⟩
def zl (T:Txt w K mg a):Ϥ P w K mg base IL 1 a.TD a.T0 ["text"] qM:=by
 refine T.ka.F.ok yP (λvs H Q E h=>?_) (λϹ A outer s H vs Q E hr h=>?_)
 ·(revert h;refine Ϟ λo Τ _=>?_;subst Τ)
  rfl
 ·(revert h;refine G' λo Τ hl q=>?_;subst Τ)
  refine(Κ _ (ah (ar (jk (aF (cC (K:=K) (hU hr)) (pv 0) ao (ϸ _)) xJ (df (eN (K:=K)) (pv 0) (dW ai) fR)))) ?_);walk_at "j";rw[show Α "-"=S [45] by decide +kernel,x2];cases o with
  | none=>rw[δ (show S (Jq none)=S [45] from rfl)];exact q
  | some w0=>
   rw[Υ (λz=>by rw[qi] at z;cases z)];refine(ύ (61::w0) rfl (ζ (show(61::w0).length<=1001 by have:=hl w0 rfl;simp;omega) (by decide)) ?_);rw[show(some (1:Int))=some ((1:Nat):Int) from rfl,ql (61::w0) 1];exact q
def sJ (T:Txt w K mg a):Ϥ P w K mg base IL 2 a.Py a.PK ["text"] qM:=by
 refine T.eS.F.ok su (λvs H Q E h=>?_) (λϹ A outer s H vs Q E hr h=>?_)
 ·(revert h;refine Ϟ λo Τ _=>?_;subst Τ)
  rfl
 ·(revert h;refine G' λo Τ hl q=>?_;subst Τ)
  refine(Κ _ (ag (aL (PW.pt (kU (aF (di (K:=K) (hU hr)) (pv 0) ao (ϸ _)) (iu (bH (aM (K:=K) (bf (K:=K) PySem.F.plainAttrs_str PySem.F.slot_str_startswith PySem.F.type_str_startswith dX (pv 0) (aa ao af)) (by intro _;rfl)))))) (ah d5) aw)
   (ah (ar (aq (zl T) (hr.mono (by decide)) rfl T.ka.m T.ka.F.kp T.ka.b .nil ό (aa (pv 0) af))))) ?_)
  walk_at "j1";have r:Rz { nx:=λx H'=>Q V.cr H',rt:=Q } [some (V.str (S (Jq o)))] H:=by
   walk_at "j0";exact(ύ o rfl hl q)
  rw[ux,show Α "-"=S [45] by decide +kernel,show Α "="=S [61] by decide +kernel,eO];refine(Κ _ rfl ?_);cases o with
  | none=>rw[Υ (show ¬(!decide (S (Jq none)=S [45]))=true by simp[Jq])];exact r
  | some w0=>
   rw[δ (show(!decide (S (Jq (some w0))=S [45]))=true by simp[Jq]),Υ (by simp[Jq])];exact r
def xC (T:Txt w K mg a):Ϥ P w K mg base IL 1 a.Sg a.Sw ["text"] wM:=by
 refine T.iW.F.ok xj (λvs H Q E h=>?_) (λϹ A outer s H vs Q E hr h=>?_)
 ·obtain⟨rfl,_⟩:=h
  rfl
 ·obtain⟨rfl,q⟩:=h
  refine(Κ _ (ag (aL (PW.pt (kU (aF (di (K:=K) (hU hr)) (pv 0) ao (ϸ _)) (iu (aF (di (K:=K) (hU hr)) (pv 0) ao (ϸ _))))) (ah d5) aw)
   (ah (ar (iB (cC (K:=K) (hU hr)) (pv 0) ao (ϸ _))))) ?_)
  walk_at "j";rw[ux];exact(Κ _ rfl (by rw[Υ (by simp)];rw[show decide True=true from rfl];exact q))
def vj (T:Txt w K mg a):Ϥ P w K mg base IL 1 a.QJ a.QU ["text"] uQ:=by
 refine T.gA.F.ok uZ (λvs H Q E h=>?_) (λϹ A outer s H vs Q E hr h=>?_)
 ·(revert h;refine Ϟ λn Τ _=>?_;subst Τ)
  rfl
 ·(revert h;refine G' λn Τ hn q=>?_;subst Τ)
  refine(Κ _ (ag (aL (PW.pt (vw (bH (pX fe fe ai (az (aO (K:=K)) (by rfl) T.cq u8 (aa (pv 0) af)) (bx T.rM))) (pU (bH (aM (K:=K) (az (dE (K:=K)) (by rfl) T.rL PY (aa (bu ["text"] ["text"] (Λ jK) (by exact⟨rfl,s!"d",s!"d",s!"d",s!"d",s!"d",s!"d",s!"d",s!"d"⟩) (aU (K:=K) (pv 0)) (λC₁ s₁ H₁ f₁=>(iB (uz (K:=K) (wv hr)) (pv 0) (bx T.Ci) (by rfl)))) af)) (by intro _;rfl)))))) (ah d5) aw)
   (ag (aL (PW.pt (kU (aM (K:=K) (bf (K:=K) PySem.F.plainAttrs_str PySem.F.slot_str_startswith PySem.F.type_str_startswith dX (pv 0) (aa ao af)) (by intro _;rfl)) (iu (aF (di (K:=K) (hU hr)) (pv 0) ao (ϸ _))))) (ah d5) aw)
   (ah (ar (aQ (tG (K:=K)) rfl T.D7 af1 (aa (pv 0) af)))))) ?_)
  walk_at "j1";have h1:=wq n;have h2:=pP (m:=n) (k:=10) (by decide) hn;refine⟨ζ h2 (by decide),?_⟩;rw[δ (by omega),Υ (by omega)];refine g9 (ζ h2 (by decide)) (λc=>.bl (WU c)) (λc H' _ s Qe qe=>?_) (λD H' hD s hl=>?_)
  ·walk_at "j"
   rw[GY,zM];exact qe H' (Χ.refl _)
  ·refine k4 (bs:=(ϝ (n:Int)).map WU) (.inl (.inl (by rw[hl,χ];rfl))) ?_
   rw[fh];have ha:(ϝ (n:Int)).all WU=true:=IM.mpr λc hc=>by
    obtain⟨d1,d2⟩:=ml n c hc;exact Fa d1 d2
   rw[ha];refine(Κ true rfl ?_);rw[Υ (by simp)];walk_at "j3";have r:Rz { nx:=λx H'=>Q V.cr H',rt:=Q } [some (V.str (S (ϝ (n:Int))))] H':=by
    walk_at "j0";exact(ύ n hn rfl (q _ s))
   rw[show Α "0"=S [48] by decide +kernel,eO];refine Ox (λc=>?_) (λ_=>r);rw[ux];refine(Κ _ rfl ?_);have n0:n=0:=by
    rcases Nat.eq_zero_or_pos n with z | z
    ·exact z
    ·exact absurd (of_decide_eq_true c) (BO n z)
   subst n0;rw[Υ (show ¬(!decide (S (ϝ ((0:Nat):Int))=S [48]))=true by rw[BP];simp)];exact r
def xD (T:Txt w K mg a):Ϥ P w K mg base IL 3 a.Sj a.Sz ["form","text"] wN:=by
 refine T.iZ.F.ok xm (λvs H Q E h=>?_) (λϹ A outer s H vs Q E hr h=>?_)
 ·(revert h;refine Ka λf t v Τ _=>?_;subst Τ)
  rfl
 ·(revert h;refine Kx λf t v Τ hv q=>?_;subst Τ)
  refine(Κ _ (ag (aL (aF (cC (K:=K) (hU hr)) (pv 0) ao (ϸ _)) (ah (ar (aq (vj T) (hr.mono (by decide)) rfl T.gA.m T.gA.F.kp T.gA.b .nil ό (aa (pv 1) af)))) aw)
   (ag (aL (aF (cC (K:=K) (hU hr)) (pv 0) ao (ϸ _)) (ah (ar (aq (sJ T) (hr.mono (by decide)) rfl T.eS.m T.eS.F.kp T.eS.b .nil ό (aa (pv 1) af)))) aw)
   (ag (aL (aF (cC (K:=K) (hU hr)) (pv 0) ao (ϸ _)) (ah (ar (aq (xC T) (hr.mono (by decide)) rfl T.iW.m T.iW.F.kp T.iW.b .nil ό (aa (pv 1) af)))) aw)
   (ah (ar (pv 1)))))) ?_)
  walk_at "j";rw[show Α "n"=S [110] by decide +kernel,show Α "w"=S [119] by decide +kernel,show Α "y"=S [121] by decide +kernel];rcases hv with⟨rfl,n,h1,h2,rfl⟩ | ⟨rfl,o,h1,h2,rfl⟩ | ⟨rfl,h1,rfl⟩ | ⟨rfl,rfl⟩
  ·rw[δ rfl];exact(ύ n h2 h1 q)
  ·rw[Υ (λz=>by rw[qi] at z;cases z),δ rfl];exact(ύ o h2 h1 (q _ (Χ.refl _)))
  ·rw[Υ (λz=>by rw[qi] at z;cases z),Υ (λz=>by rw[qi] at z;cases z),δ rfl];exact⟨h1,q _ (Χ.refl _)⟩
  ·rw[Υ (λz=>by rw[qi] at z;cases z),Υ (λz=>by rw[qi] at z;cases z),Υ (λz=>by rw[qi] at z;cases z)];exact q _ (Χ.refl _)
def xE (T:Txt w K mg a):Ϥ P w K mg base IL 1 a.Sh a.Sy ["name","many"] wO:=by
 refine T.iY.F.ok xl (λvs H Q E h=>?_) (λϹ A outer s H vs Q E hr h=>?_)
 ·(revert h;refine Ka λnm many fm Τ _=>?_;subst Τ)
  rfl
 ·(revert h;refine Kx λnm many fm Τ hf q=>?_;subst Τ)
  refine(Κ _ (ag (aL (aF (cC (K:=K) (hU hr)) (pv 0) ao (ϸ _)) (ah (ar (aC iG ao (pv 1)))) aw)
   (ag (aL (aF (cC (K:=K) (hU hr)) (pv 0) ao (ϸ _)) (ah (ar (aC iG ao (aC zx (pv 1) ai)))) aw)
   (ag (aL (E9 T.lF T.xu (pv 0)) (ah d5) aw)
   (ah (ar (au (ak (K:=K) (wv hr)) (qC T.lF (pv 0) (λ_ _=>rfl)) ai (λ_ _=>rfl))))))) ?_)
  walk_at "j";have mem:∀(i:Nat) (kv:Str×V),[(Α "hail",V.ref a.IC),(Α "put",V.ref a.Ir),(Α "read",V.ref a.IA),(Α "front",V.ref a.AT)][i]?=some kv->nm=kv.1->¬nm=Α "up" -> ¬nm=Α "cellar" -> Qb K kv.2 (V.int 0) H Q->
    (if nm=Α "up" then RS (V.str (Α "t")) (V.int (many:Int)) H Q else if nm=Α "cellar" then RS (V.str (Α "tnt")) (V.int ((many:Int) / 3)) H Q else ∃kv,kv∈[(Α "hail",V.ref a.IC),(Α "put",V.ref a.Ir),(Α "read",V.ref a.IA),(Α "front",V.ref a.AT)]/\nm=kv.fst/\∃kv,kv∈[(Α "hail",V.ref a.IC),(Α "put",V.ref a.Ir),(Α "read",V.ref a.IA),(Α "front",V.ref a.AT)]/\nm=kv.fst/\Qb K kv.snd (V.int 0) H Q):=λi kv h1 h2 n1 n2 r=>by
   have m:=Ν h1;rw[Υ n1,Υ n2];exact(ύ kv m h2 (ύ kv m h2 r))
  rcases hf with⟨rfl,j,h1,h2,rfl⟩ | ⟨rfl,rfl⟩ | ⟨rfl,rfl⟩ | ⟨rfl,rfl⟩ | ⟨rfl,rfl⟩
  ·rw[Υ (s!"d"),δ rfl,EK]
   refine(RI ([116,110,116]) (s!"d") (by omega) (by omega) (by decide) ?_);rw[show((many:Int) / 3).toNat=j by omega];exact q
  ·exact mem 0 _ rfl rfl (s!"d") (s!"d") (bc (T.ij H) rfl (by rw[show Α "t"=S [116] by decide +kernel];exact q))
  ·exact mem 1 _ rfl rfl (s!"d") (s!"d") (bc (T.eG H) rfl (by rw[show Α "tnnttwn"=S [116,110,110,116,116,119,110] by decide +kernel];exact q))
  ·exact mem 2 _ rfl rfl (s!"d") (s!"d") (bc (T.ig H) rfl (by rw[show Α "nnny"=S [110,110,110,121] by decide +kernel];exact q))
  ·exact mem 3 _ rfl rfl (s!"d") (s!"d") (bc (T.dD H) rfl (by rw[show Α "n"=S [110] by decide +kernel];exact q))
def vk (T:Txt w K mg a):Ϥ P w K mg base IL 4 a.QK a.QX ["name","texts"] (uR K):=by
 refine T.gB.F.ok mT (λvs H Q E h=>?_) (λϹ A outer s H vs Q E hr h=>?_)
 ·(revert h;refine Ld λnm p ts fm us Τ _=>?_;subst Τ)
  rfl
 ·(revert h;refine Ld λnm p ts fm us Τ=>P6 λhp hl hf hfl hul=>Jb λhT q=>?_;subst Τ)
  refine(Κ _ (ag (ax (i:=2) mT.nd rfl (ς rfl) (aq (xE T) (hr.mono (by decide)) rfl T.iY.m T.iY.F.kp T.iY.b .nil ό (aa (pv 0) (aa (az (aO (K:=K)) (by rfl) T.cq u8 (aa (pv 1) af)) af))))
   (ag (aL (aF (di (K:=K) (hU hr)) (az (aO (K:=K)) (by rfl) T.cq u8 (aa (pv 2) af)) (az (aO (K:=K)) (by rfl) T.cq u8 (aa (pv 1) af)) (ϸ _)) (ah d5) aw)
   (ah (ar (vX ["name","texts","forms"] ["name","texts","forms"] (Λ jM) ["form","text"] (by exact⟨rfl,s!"d",s!"d",s!"d",s!"d",s!"d",s!"d"⟩) (EW (K:=K) rfl T.FH (aa (pv 2) (aa (pv 1) af))) (λC₁ s₁ H₁ f₁=>(iE (K:=K) (n:=2) rfl (bt (aT (i:=0) (show LX (α:=Str) ["form","text","name","texts","forms"] by decide +kernel) rfl (ς rfl) (OW rfl)) (bt (aT (i:=1) (show LX (α:=Str) ["form","text","name","texts","forms"] by decide +kernel) rfl (ς rfl) (OW rfl)) ix)))) (λC₁ s₁ H₁ f₁=>(aq (xD T) (hr.mono (by decide)) rfl T.iZ.m T.iZ.F.kp T.iZ.b .nil ό (aa (pv 0) (aa (pv 1) af))))))))) ?_)
  walk_at "j";have e1:(tx ts).length=ts.length:=by unfold tx;rw[Ζ]
  refine bY hp ?_;rw[e1];refine(Κ ts.length rfl (ύ fm hf (ζ (show fm.length<=100 by omega) (by decide)) (bY hp ?_)));rw[e1,zI];refine(Κ _ rfl ?_);rw[Υ (by simp[hfl])];refine⟨Pc.ascii hf,⟨_,hp⟩,wL hp (by rw[e1];exact hfl) (by rw[e1];omega) us (by rw[e1];exact hul) ?_ ?_ q⟩
  ·rintro t c y H' o R ht V9 r
   obtain⟨o1,o2,rfl⟩:∃o1 o2,o=[o1,o2]:=by
    match o,V9 with
    | [o1,o2],_=>exact(Nd o1 o2 rfl)
   refine(Ky t _ rfl (.inl (.inl ht)) rfl ?_);walk_at "j";exact r
  ·intro i c y v H' hc hy hv s' Qe qe
   unfold tx at hy;rw[μ] at hy;(refine ρ (Ϙ.mp hy) λt ht Τ=>?_;subst Τ);walk_at "j";exact(Κ v (hT i c t v hc ht hv) qe)
def lN (T:Txt w K mg a):Ϥ P w K mg base IL 1 a.TR a.Ua ["told"] (yF K):=by
 refine T.cy.F.ok yX (λvs H Q E h=>?_) (λϹ A outer s H vs Q E hr h=>?_)
 ·(revert h;refine sK λp ns Τ _=>?_;subst Τ)
  rfl
 ·(revert h;refine O1 λp ns Τ hp hl hn q=>?_;subst Τ)
  refine(Κ _ (ah (ar (bu ["told"] ["told"] (Λ nY) (by exact⟨rfl,s!"d",s!"d",s!"d",s!"d",s!"d",s!"d",s!"d",s!"d"⟩) (aU (K:=K) (pv 0)) (λC₁ s₁ H₁ f₁=>(aQ (a8 (K:=K)) rfl T.cY Iv (aa (pv 0) af)))))) ?_);walk_at "j";have hz:(ns.map λ(n:Nat)=>V.int (n:Int)).length<=sizeLine:=by rw[Ζ];exact ζ hl (by decide)
  have em:(ns.map λ(n:Nat)=>V.int (n:Int)).map (λv=>match v with | .int i=>V.str (S (ϝ i)) | x=>x)=tx (ns.map λ(n:Nat)=>ϝ (n:Int)):=by unfold tx;rw[χ,χ];rfl
  have el:∀x H',x∈(ns.map λ(n:Nat)=>V.int (n:Int))->Χ H H'->∀Qe:VK,(∀Kj,Χ H' Kj->Qe ((λv=>match v with | .int i=>V.str (S (ϝ i)) | x=>x) x) Kj)->(tCB Ys (Qx (O4 0) Uq)) (some x::[some (V.ref p)]) H' Qe:=λx H' hx s' Qe qe=>by
   (refine ρ (τ.mp hx) λn hn' Τ=>?_;subst Τ);walk_at "j";exact⟨a9 (by omega) (by have:=hn n hn';omega),qe _ (Χ.refl _)⟩
  rcases hp with hp | hp
  ·exact bL hp (cR hp hz _ el λD H' h1 s1 h2=>q D H' h1 s1 (by rw[h2,em]))
  ·exact Dh hp (yE hp hz _ el λD H' h1 s1 h2=>q D H' h1 s1 (by rw[h2,em]))
def pI (T:Txt w K mg a):Ϥ P w K mg base IL 2 a.N8 a.Og ["letters"] oZ:=by
 refine T.dC.F.ok cn (λvs H Q E h=>?_) (λϹ A outer s H vs Q E hr h=>?_)
 ·(revert h;refine sK λp ls Τ _=>?_;subst Τ)
  rfl
 ·(revert h;refine O1 λp ls Τ hL hl ho q=>?_;subst Τ)
  refine(Κ _ (ag (ax (i:=1) cn.nd rfl (ς rfl) (aG af))
   (ag (cE Ϫ rfl (aU (K:=K) (pv 0)) (iE (K:=K) (n:=3) rfl (bt (aT (i:=2) cn.nd rfl (ς rfl)) (bt (aT (i:=3) cn.nd rfl (ς rfl)) (bt (aT (i:=4) cn.nd rfl (ς rfl)) ix)))) (ah (aN (bf (K:=K) PySem.F.plainAttrs_list PySem.F.slot_list_extend PySem.F.type_list_extend sU (pv 1) (aa (aG (aa (aQ (a8 (K:=K)) rfl T.cY Iv (aa (pv 2) af)) (aa (pv 3) (aa (aq (nh T) (hr.mono (by decide)) rfl T.cG.m T.cG.F.kp T.cG.b .nil ό (aa (pv 4) af)) af)))) af)))))
   (ah (ar (pv 1))))) ?_)
  walk_at "k";(revert hL;refine Ϟ λts e hT=>?_);have hlen:ts.length=ls.length:=by rw[hT.length,Ζ]
  refine⟨by decide,λu hu=>?_⟩;have s1:=Χ.upd (o:=.lst []) hu;have KI:∀i,((ls.take i).flatMap OC).length<=3000:=λi=>by
   rw[OY];have:((ls.take i).map λx=>(OC x).length)=(ls.take i).map λ_=>3:=im λx _=>rfl;rw[this,Zb,U0,Ϭ];omega
  refine bL (xs:=ts.map V.ref) (.inl (.inl (s1 _ _ e))) (cv (xs:=ts.map V.ref) (λi σ H'=>Χ H H'/\H' u=some (.lst (tx ((ls.take i).flatMap OC)))/\∃v2 v3 v4,σ=[some (V.ref p),some (V.ref u),v2,v3,v4]) ⟨s1,ae.trans (by rfl),(LD _ _ _ rfl)⟩ (λi σ H' _ h=>.inl (.inl (h.1 _ _ e))) ?_ ?_)
  ·rintro i y σ H' hy ⟨s',eu,v2,v3,v4,rfl⟩
   rw[μ] at hy;(refine ρ (Ϙ.mp hy) λt Z7 Τ=>?_;subst Τ);(refine ρ (hT.get Z7) λys h1 h2=>?_);rw[μ] at h1;(refine ρ (Ϙ.mp h1) λy Rl Τ=>?_;subst Τ);have Z8:JZ K H' t (acl y):=.inl (.inl (s' _ _ h2));obtain⟨o1,o2⟩:=ho y (Ν Rl);walk_at "k";refine(ύ _ Z8 rfl (gl _ _ rfl (gl _ _ rfl (Ky _ _ rfl rfl (.inl ⟨_,.inl (.inl eu)⟩) (ύ _ rfl (a9 (by omega) (by omega)) (Jw y.2.2 rfl o2 (by decide) (λw hw=>?_)))))));have s2:=Χ.upd (o:=.lst [.str (S (ϝ (y.1:Int))),.str (S y.2.1),.str (S (Jq y.2.2))]) hw;refine(O3 u w _ _ rfl rfl (s2 _ _ eu) ae ⟨ζ (show(tx ((ls.take i).flatMap OC)).length+3<=4000 by unfold tx;rw[Ζ];have:=KI i;omega) (by decide),⟨Χ.wr (s'.trans s2) hu,?_⟩⟩);rw[bi,Rl];refine ae.trans ?_;unfold tx;rw[O0,OZ,ϖ];rfl
  ·rintro σ H' ⟨s',eu,v2,v3,v4,rfl⟩
   rw[Ζ,hlen,sB] at eu;walk_at "k";exact q _ _ hu s' eu
def sL (T:Txt w K mg a):Ϥ P w K mg base IL 1 a.Pz a.PM ["things"] (sk K):=by
 refine T.eT.F.ok sy (λvs H Q E h=>?_) (λϹ A outer s H vs Q E hr h=>?_)
 ·(revert h;refine sK λp xs Τ _=>?_;subst Τ)
  rfl
 ·(revert h;refine NB λp xs Τ hp hl q=>?_;subst Τ)
  refine(Κ _ (ah (ar (bu ["things"] ["things"] (Λ iP) (by exact⟨rfl,s!"d",s!"d",s!"d",s!"d",s!"d",s!"d",s!"d",s!"d"⟩) (BL rfl T.i5 (aa ai (aa (az (aO (K:=K)) (by rfl) T.cq u8 (aa (pv 0) af)) (aa ai af)))) (λC₁ s₁ H₁ f₁=>(bW (aa (au (ak (K:=K) (wv hr)) (pv 1) (pv 0) (λ_ _=>rfl)) (aa (au (ak (K:=K) (wv hr)) (pv 1) (aC (aB (K:=K)) (pv 0) ai) (λ_ _=>rfl)) (aa (au (ak (K:=K) (wv hr)) (pv 1) (aC (aB (K:=K)) (pv 0) ai) (λ_ _=>rfl)) af)))))))) ?_);walk_at "k";refine bY hp (Jw _ rfl (by omega) (by rw[iK];omega) ?_);rw[iK,GZ];refine sj (ζ (show xs.length<=3 from hl) (by decide)) (λD i ys H'=>Χ H H'/\∃ts,ys=ts.map V.ref/\H' D=some (.lst ys)/\Ip H' ts ((xs.take i).map Jn.v)) (λD hD=>⟨Χ.upd hD,(ύ ([]) rfl ae (.nil))⟩) (λD i ys H' hi h=>?_) (λD i ys H' hD hi h Qe qe=>?_) (λD ys H' hD h=>?_)
  ·(revert h;refine Jb λ_=>G' λts Τ h1 h2=>?_;subst Τ)
   refine⟨h1,?_⟩;rw[Ζ,h2.length,Ζ,Ϭ];omega
  ·(revert h;refine Jb λsm=>G' λts Τ h1 h2=>?_;subst Τ)
   have Rl:xs[i]?=some xs[i]:=by simp
   (refine IT (qN Rl) λg1 g2 g3=>?_);have Vd:=sm.seq hp;walk_at "k";refine aJ Vd (aW (by omega) (by rw[show(0+(i:Int) * 3).toNat=3 * i by omega];exact g1)) (aJ Vd (aW (by omega) (by rw[show(0+(i:Int) * 3+1).toNat=3 * i+1 by omega];exact g2)) (aJ Vd (aW (by omega) (by rw[show(0+(i:Int) * 3+2).toNat=3 * i+2 by omega];exact g3)) ⟨by decide,λt ht=>?_⟩));have s2:=Χ.upd (o:=.tup [.str (S xs[i].name),.int (xs[i].rows:Int),.str xs[i].kind]) ht;have e5:=s2 _ _ h1;refine qe _ _ e5 ⟨Χ.wr (sm.trans s2) hD,(ύ (ts++[t]) (by rw[ϖ];rfl) ae ?_)⟩;have h5:Ip (upd H' t (.tup [.str (S xs[i].name),.int (xs[i].rows:Int),.str xs[i].kind])) (ts++[t]) (((xs.take i).map Jn.v)++[xs[i].v]):=Ip.snoc (Paired.S7 h2 λb ys e=>s2 _ _ e) ae;rw[bi,Rl,O0,ϖ];exact Paired.S7 h5 λb ys e=>(aj (λz=>by rw[z,e5] at e;cases e)).trans e
  ·(revert h;refine Jb λsm=>G' λts Τ h1 h2=>?_;subst Τ)
   rw[sB] at h2;exact q D H' hD sm (Κ ts h1 h2)
def vm (T:Txt w K mg a):Ϥ P w K mg base IL 1 a.QF a.QQ ["text"] uK:=by
 refine T.gw.F.ok eQ (λvs H Q E h=>?_) (λϹ A outer s H vs Q E hr h=>?_)
 ·(revert h;refine sK λb a Τ _=>?_;subst Τ)
  rfl
 ·(revert h;refine NB λb a Τ hl hu q=>?_;subst Τ)
  refine(Κ _ (ag (ax (i:=1) eQ.nd rfl (ς rfl) (bf (K:=K) PySem.F.plainAttrs_str PySem.F.slot_str_split PySem.F.type_str_split jv (pv 0) (aa ao af)))
   (ag (ax (i:=2) eQ.nd rfl (ς rfl) (aG (aa (au (ak (K:=K) (wv hr)) (pv 1) ai (λ_ _=>rfl)) af)))
   (ag (cE Ϫ rfl (aU (K:=K) (df (eN (K:=K)) (pv 1) (dW ai) fR)) (aT (i:=3) eQ.nd rfl (ς rfl)) (ah (aL (aM (K:=K) (bf (K:=K) PySem.F.plainAttrs_str PySem.F.slot_str_startswith PySem.F.type_str_startswith dX (pv 3) (aa ao af)) (by intro _;rfl)) (ah (aN (bf (K:=K) PySem.F.plainAttrs_list PySem.F.slot_list_append PySem.F.type_list_append cu (pv 2) (aa (aC (aB (K:=K)) ao (df (eN (K:=K)) (pv 3) (dW ai) fR)) af)))) (ah (aL (aM (K:=K) (bf (K:=K) PySem.F.plainAttrs_str PySem.F.slot_str_startswith PySem.F.type_str_startswith dX (pv 3) (aa ao af)) (by intro _;rfl)) (ah (aN (bf (K:=K) PySem.F.plainAttrs_list PySem.F.slot_list_append PySem.F.type_list_append cu (pv 2) (aa (aC (aB (K:=K)) ao (df (eN (K:=K)) (pv 3) (dW ai) fR)) af)))) (ah d5))))))
   (ah (ar (bf (K:=K) PySem.F.plainAttrs_str PySem.F.slot_str_join PySem.F.type_str_join (gZ (K:=K)) ao (aa (pv 2) af))))))) ?_)
  walk_at "l";refine(ύ 126 (s!"d") hl (λl Z9=>?_));have es:=DF b.length b (Φ _);rw[hu] at es;obtain⟨p0,ps,hs⟩:∃p0 ps,ϡ 126 b=p0::ps:=by
   cases h:ϡ 126 b with
   | nil=>exact absurd h (dI _ _)
   | cons p ps=>exact(Nd p ps rfl)
  rw[hs] at es ⊢;have es':some a=(MJ ps).map λl=>p0++l.flatten:=es;obtain⟨ls,R3,ha⟩:∃ls,MJ ps=some ls/\a=p0++ls.flatten:=by
   cases h:MJ ps with
   | none=>rw[h] at es';cases es'
   | some ls=>rw[h] at es';exact(Κ ls rfl (ϗ es'))
  obtain⟨els,aae⟩:=tq R3;have hlen:ps.length<=1000000:=by have:=cS 126 b;rw[hs] at this;simp at this;omega
  have aw4:(ps.map Ϻ).sum+p0.length<=1000000:=by have:=iJ 126 b;rw[hs] at this;simp at this;omega
  have NV:∀p∈ps,p.length<=1000000:=λp hp=>ζ (fU 126 b p (by rw[hs];exact ε _ hp)) hl;have Z:4000000<=sizeLine:=by decide
  refine aJ (.inl (.inl ae)) (v:=.str (S p0)) (aW (by decide) rfl) ⟨by omega,λp Pd=>?_⟩;have npl:p≠l:=λz=>by rw[z,ae] at Pd;cases Pd
  have hlp:upd (upd H l (.lst (J9 (λp=>V.str (S p)) (p0::ps)))) p (.lst [V.str (S p0)]) l=some (.lst (tx (p0::ps))):=by rw[aj (ω npl),ae];rfl
  have hpp:upd (upd H l (.lst (J9 (λp=>V.str (S p)) (p0::ps)))) p (.lst [V.str (S p0)]) p=some (.lst [V.str (S p0)]):=ae;have s1:Χ H (upd (upd H l (.lst (J9 (λp=>V.str (S p)) (p0::ps)))) p (.lst [V.str (S p0)])):=(Χ.upd Z9).trans (Χ.upd Pd);have UF:H p=none:=by rw[aj npl] at Pd;exact Pd
  generalize upd (upd H l (.lst (J9 (λp=>V.str (S p)) (p0::ps)))) p (.lst [V.str (S p0)])=H1 at hlp hpp s1 ⊢;refine uy (.inl (.inl hlp)) λr Tg=>bL (.inl (.inl ae)) ?_;rw[show(1:Int)=((1:Nat):Int) from rfl,vY,show(tx (p0::ps)).drop 1=tx ps from rfl];have nrp:r≠p:=λz=>by rw[z,hpp] at Tg;cases Tg
  refine cv (xs:=tx ps) (λi σ H'=>Χ H H'/\H' r=some (.lst (tx ps))/\H' p=some (.lst (tx (p0::(ps.take i).map fx)))/\∃v,σ=[some (V.str (S b)),some (V.ref l),some (V.ref p),v]) ⟨s1.trans (Χ.upd Tg),ae,by rw[aj (ω nrp),hpp];rfl,(MF none rfl)⟩ (λi σ H' _ h=>.inl (.inl h.2.1)) ?_ ?_
  ·rintro i x σ H' hx ⟨hs',hr',Vd,v,rfl⟩
   unfold tx at hx;rw[μ,Ϙ] at hx;(revert hx;refine Ϟ λpc hpc Τ=>?_;subst Τ);obtain⟨fp,hfp⟩:=aae pc (Ν hpc);have ajV:=NV pc (Ν hpc);have hi:i < ps.length:=(Ο.mp hpc).1;have key:∀d:Nat,RW pc=some (d::pc.drop 1)->Χ H (upd H' p (.lst (tx (p0::(ps.take i).map fx)++[V.str (S ([d]++pc.drop 1))])))/\
     upd H' p (.lst (tx (p0::(ps.take i).map fx)++[V.str (S ([d]++pc.drop 1))])) r=some (.lst (tx ps))/\
     upd H' p (.lst (tx (p0::(ps.take i).map fx)++[V.str (S ([d]++pc.drop 1))])) p=some (.lst (tx (p0::(ps.take (i+1)).map fx))):=λd hd=>by
    refine⟨λb u e=>?_,by rw[aj nrp];exact hr',?_⟩
    ·rw[aj (aD e UF)];exact hs' b u e
    ·rw[ae,k8 hpc]
     have:fx pc=[d]++pc.drop 1:=by unfold fx;rw[hd];rfl
     rw[<-this];simp[tx]
   have hll:(tx (p0::(ps.take i).map fx)).length < sizeLine:=by unfold tx;simp;omega
   walk_at "l";rw[ql pc 1,show Α "w"=S [119] by decide +kernel,show Α "s"=S [115] by decide +kernel,eO,eO];cases pc with
   | nil=>cases hfp
   | cons d rr=>
    have dl:((d::rr).drop 1).length<=1000000:=ζ (by simp) ajV;refine Ox (λh=>?_) (λh=>Ox (λh'=>?_) (λh'=>?_))
    ·have hd:d=119:=by simpa using h
     subst hd;exact⟨.inl ⟨_,.inl (.inl Vd)⟩,by omega,(ύ ([126]) (s!"d") (by simp only[Ψ,ϕ];omega) (ύ _ Vd hll (key 126 rfl)))⟩
    ·have hd:d=115:=by simpa using h'
     subst hd;exact⟨.inl ⟨_,.inl (.inl Vd)⟩,by omega,(ύ ([59]) (s!"d") (by simp only[Ψ,ϕ];omega) (ύ _ Vd hll (key 59 rfl)))⟩
    ·have h1:¬d=119:=by simpa using h
     have h2:¬d=115:=by simpa using h'
     rw[RW,Υ h1,Υ h2] at hfp;cases hfp
  ·rintro σ H' ⟨hs',hr',Vd,v,rfl⟩
   walk_at "l";rw[show(tx ps).length=ps.length by simp[tx],sB] at Vd;refine(Κ ([]) (s!"d") (ύ _ (.inl (.inl Vd)) ?_ ?_))
   ·rw[ο,am,ϕ,Nat.mul_zero]
    have:∀l:List (List Nat),((l.map fx).map Ϻ).sum<=(l.map Ϻ).sum+l.length:=by
     intro l
     induction l with
     | nil=>exact Φ _
     | cons x l ih=>have:=GL x;simp only[ο,am,Ψ];omega
    have:=this ps;omega
   ·rw[AL,XH,<-els,<-ha]
    exact q _ hs'
def Cs (T:Txt w K mg a):Ϥ P w K mg base IL 2 a.Vm a.Vw ["text"] Bo:=by
 refine T.mU.F.ok B5 (λvs H Q E h=>?_) (λϹ A outer s H vs Q E hr h=>?_)
 ·(revert h;refine sK λt l Τ _=>?_;subst Τ)
  rfl
 ·(revert h;refine NB λt l Τ ht hs q=>?_;subst Τ)
  refine(Κ _ (ah (ar (bu ["text"] ["text"] (Λ qQ) (by exact⟨rfl,s!"d",s!"d",s!"d",s!"d",s!"d",s!"d",s!"d",s!"d"⟩) (aU (K:=K) (bf (K:=K) PySem.F.plainAttrs_str PySem.F.slot_str_split PySem.F.type_str_split jv (pv 0) (aa ao af))) (λC₁ s₁ H₁ f₁=>(aq (vm T) (hr.mono (by decide)) rfl T.gw.m T.gw.F.kp T.gw.b .nil ό (aa (pv 0) af)))))) ?_);walk_at "l";have Z:4000000<=sizeLine:=by decide
  have e1:l.length<=1000001:=by have:=cS 59 t;rw[hs,Ζ] at this;omega
  refine(ύ 59 (s!"d") ht (λD0 hD0=>bL (.inl (.inl ae)) ?_));rw[hs];have sm:=Χ.upd (o:=HO.lst (J9 (λp=>V.str (S p)) (l.map gd))) hD0;have h0:upd H D0 (HO.lst (J9 (λp=>V.str (S p)) (l.map gd))) D0=some (.lst (J9 (λp=>V.str (S p)) (l.map gd))):=ae;generalize upd H D0 (HO.lst (J9 (λp=>V.str (S p)) (l.map gd)))=H1 at sm h0 ⊢;refine cR (.inl (.inl h0)) (by rw[Ζ,Ζ];omega) (λv=>match v with | .str (⟨z⟩)=>.str (S ((un z.toList).getD [])) | x=>x) (λx H' hx s Qe qe=>?_) λD H' hD s1 hd=>?_
  ·(refine ρ (τ.mp hx) λc hc Τ=>?_;subst Τ)
   (refine ρ (τ.mp hc) λa' ha' Τ=>?_;subst Τ);walk_at "l";refine⟨?_,(Κ a' (tm a') (λKj hs=>?_))⟩
   ·exact ζ (fU 59 t _ (by rw[hs];exact hc)) ht
   ·have:=qe Kj hs
    simpa [tm] using this
  ·have hD1:H D=none:=by
    cases e:H D with
    | none=>rfl
    | some o=>rw[sm _ _ e] at hD;cases hD
   refine q D H' hD1 (sm.trans s1) ?_;rw[hd];unfold tx;rw[χ,χ];congr 2;refine im λz _=>?_;show V.str (S ((un (gd z)).getD []))=_;rw[tm];rfl
def vn (T:Txt w K mg a):Ϥ P w K mg base IL 9 a.Mq a.QV ["cellar","things"] (mz (M5 a) K):=by
 refine T.jO.F.ok u0 (λvs H Q E h=>?_) (λϹ A outer s H vs Q E hr h=>?_)
 ·(revert h;refine Ld λA0 Z M n p Τ _=>?_;subst Τ)
  rfl
 ·(revert h;refine Ld λA0 Z M n p Τ=>P6 λhp hC hn hL R3=>Jb λhsz q=>?_;subst Τ)
  refine(Κ _ (ah (ar (aq (lN T) (hr.mono (by decide)) rfl T.cy.m T.cy.F.kp T.cy.b .nil ό (aa (aR (pv 0) T.bb T.gQ.m (rY T) (hr.mono (by decide)) T.gQ.b .nil ό (aa (au (ak (K:=K) (wv hr)) (pv 1) ai (λ_ _=>rfl)) af)) af)))) ?_);walk_at "m";obtain⟨UH,Rg⟩:=hC.SX;refine(ϒ UH _ Rg rfl (aJ hp rfl (Ov A0 Z M n 1 rfl hC hn (by rw[hL];rfl) (by decide) ⟨R3,hsz,hL,λu H1 ls c1 C1 hl eu=>?_⟩)));rw[hL] at eu;exact(Kz u ([1,0]) rfl (.inr (.inl (.inl eu))) (by decide) (by decide) (λD H2 hD s2 eD=>q D H2 ls (c1.trans (ϳ.of_same s2)) (C1.same s2) hl (Fb▸eD)))
def xF (T:Txt w K mg a):Ϥ P w K mg base (Oy P w) 9 a.Nn a.Sx ["cellar","things"] (oE (M5 a) K):=by
 refine T.lD.F.Rw xk (λvs H Q E h=>?_) (λϹ A outer s H vs Q E hr h=>?_)
 ·(revert h;refine JY λA0 Z M n LS key=>Ld λwo num p j x Τ _=>?_;subst Τ)
  rfl
 ·(revert h;refine JY λA0 Z M n LS key=>Ld λwo num p j x Τ=>Um λhp hP hL hq=>?_;subst Τ)
  refine(Κ _ (ah (ar (aq (lN T) (hr.mono (by decide)) rfl T.cy.m T.cy.F.kp T.cy.b .nil ό (aa (aR (pv 0) T.bb T.u6 (sI T) (hr.mono (by decide)) T.u9 .nil Jm (aa (au (ak (K:=K) (wv hr)) (pv 1) ai (λ_ _=>rfl)) (aa (au (ak (K:=K) (wv hr)) (pv 1) ai (λ_ _=>rfl)) (aa (au (ak (K:=K) (wv hr)) (pv 1) ai (λ_ _=>rfl)) (aa (au (ak (K:=K) (wv hr)) (pv 1) ai (λ_ _=>rfl)) (aa (au (ak (K:=K) (wv hr)) (pv 1) ai (λ_ _=>rfl)) (aa (au (ak (K:=K) (wv hr)) (pv 1) ai (λ_ _=>rfl)) (aa (au (ak (K:=K) (wv hr)) (pv 1) ai (λ_ _=>rfl)) af)))))))) af)))) ?_);walk_at "m";obtain⟨UH,Rg⟩:=hP.ce.SX;refine(ϒ UH _ Rg rfl (aJ hp rfl (aJ hp rfl (aJ hp rfl (aJ hp rfl (aJ hp rfl (aJ hp rfl (aJ hp rfl (Nf A0 Z M n LS key (Nf wo 1 num 0 j x ⟨rfl,hP,hL,rfl,?_⟩))))))))));rcases hq with⟨i,r,pl,h1,h2,h3,h4,q⟩ | ⟨h1,i,pl,m,h2,h3,h4,h5,h6,h7,h8,q⟩
  ·exact .inl (ϒ i _ h1 h2 (λu H1 s1 eu=>(Kz u ([r,pl]) rfl (.inr (.inl (.inl eu))) (show 2<=100 by decide) (λy hy=>by rcases Θ.mp hy with rfl | hy;exact h3;rw[Μ.mp hy];exact h4) (λD H2 hD s2 eD=>q D H2 (s1.trans s2) eD))))
  ·exact .inr ⟨h1,(IN i pl m h2 h3 h4 h5 ⟨h7,h8,λu H1 ls c1 C1 hl eu=>(Kz u ([i,pl]) rfl (.inr (.inl (.inl eu))) (show 2<=100 by decide) (λy hy=>by rcases Θ.mp hy with rfl | hy;exact h6;rw[Μ.mp hy];omega) (λD H2 hD s2 eD=>q D H2 ls (c1.trans (ϳ.of_same s2)) (C1.same s2) hl eD))⟩)⟩
def vo (T:Txt w K mg a):Ϥ P w K mg base (Oy P w) 9 a.Mr a.QW ["cellar","things"] (mB (M5 a) K):=by
 refine T.jP.F.Rw u3 (λvs H Q E h=>?_) (λϹ A outer s H vs Q E hr h=>?_)
 ·(revert h;refine ME λA0 Z M r p f Τ _=>?_;subst Τ)
  rfl
 ·(revert h;refine ME λA0 Z M r p f Τ=>P6 λhp hC hm hl hf q=>?_;subst Τ)
  refine(Κ _ (ah (ar (aq (pI T) (hr.mono (by decide)) rfl T.dC.m T.dC.F.kp T.dC.b .nil ό (aa (aR (pv 0) T.bb T.sC (rZ T) (hr.mono (by decide)) T.sE .nil Jm (aa (au (ak (K:=K) (wv hr)) (pv 1) ai (λ_ _=>rfl)) (aa (au (ak (K:=K) (wv hr)) (pv 1) ai (λ_ _=>rfl)) (aa (au (ak (K:=K) (wv hr)) (pv 1) ai (λ_ _=>rfl)) (aa (au (ak (K:=K) (wv hr)) (pv 1) ai (λ_ _=>rfl)) af))))) af)))) ?_);walk_at "m";obtain⟨UH,Rg⟩:=hC.SX;refine(ϒ UH _ Rg rfl (aJ hp rfl (aJ hp rfl (aJ hp rfl (aJ hp rfl (MG A0 Z M r 0 1000 rfl hC (by decide) (by decide) (by decide) (Jw _ hm (by show(f.length:Int)<=_;omega) (Int.le_refl _) (λD H1 hD s1 hT=>?_))))))));rw[acj,S0,ϩ (by rw[zY];omega)] at hT;exact(Kz D (MK f) rfl (G0 f▸hT) (by rw[d8];omega) (Fc hf (by omega)) (λD2 H2 Rh s2 e2=>q D2 H2 (aV s1 Rh) (s1.trans s2) e2))
def sM (T:Txt w K mg a):Ϥ P w K mg base (Oy P w) 8 a.Lu a.PL ["cellar","things"] (kJ (M5 a) K a.AC):=by
 refine T.iX.F.Rw sv (λvs H Q E h=>?_) (λϹ A outer s H vs Q E hr h=>?_)
 ·(revert h;refine Ld λA0 Z M r p Τ _=>?_;subst Τ)
  rfl
 ·(revert h;refine Ld λA0 Z M r p Τ=>JT λhp hC hq=>?_;subst Τ)
  refine(Κ _ (ah (ar (aq (lN T) (hr.mono (by decide)) rfl T.cy.m T.cy.F.kp T.cy.b .nil ό (aa (aG (aa (aR (pv 0) T.bb T.dB.m (lM T) (hr.mono (by decide)) T.dB.b .nil Jm (aa (au (ak (K:=K) (wv hr)) (pv 1) ai (λ_ _=>rfl)) af)) af)) af)))) ?_);walk_at "m";obtain⟨UH,Rg⟩:=hC.SX;refine(ϒ UH _ Rg rfl (aJ hp rfl (LD A0 Z M (ύ r rfl hC ?_))));rcases hq with⟨m,n,hm,hn,ajW,q⟩ | ⟨h1,h2,hB⟩
  ·refine .inl (Κ m hm (λH1 s1=>⟨by decide,λp1 UF=>?_⟩))
   rw[hn];have s2:=Χ.upd (o:=.lst [.int (n:Int)]) UF;exact(Kz p1 ([n]) rfl (.inl (.inl (.inl ae))) (show 1<=100 by decide) (λy hy=>by rw[Μ.mp hy];exact ajW) (λD H2 hD s3 eD=>q D H2 (s1.trans (s2.trans s3)) eD))
  ·exact .inr ⟨h1,h2,hB⟩
def xG (T:Txt w K mg a):Zg P w K mg base 3 a.TU a.Ub ["name","fields"] (yG K):=by
 refine T.ki.F.okV lz (λvs H Q E h=>?_) (λϹ A m outer s H vs Q E hr hq h=>?_)
 ·(revert h;refine Kg λnm p v t Τ _=>?_;subst Τ)
  rfl
 ·(revert h;refine O2 λnm p v t Τ hp hv h1=>Jb λh2 q=>?_;subst Τ)
  refine(Κ _ (ag (ax (i:=2) lz.nd rfl (ς rfl) (aG (aa ao (aa (pv 0) af))))
   (ag (EZ (K:=K) Ϫ hq (pv 1) (aT (i:=3) lz.nd rfl (ς rfl)) (ah (aN (bf (K:=K) PySem.F.plainAttrs_list PySem.F.slot_list_append PySem.F.type_list_append cu (pv 2) (aa (jk (ny (ub (pv 3))) ao (aQ (BQ (K:=K)) rfl T.cY Iv (aa (pv 3) af))) af)))))
   (ah (ar (wj (rS T) (hr.mono (by decide)) hq rfl T.bD.m T.bD.F.kp T.bD.b .nil (aa (pv 2) af)))))) ?_)
  walk_at "n";refine⟨by decide,λu hu=>?_⟩;have s1:=Χ.upd (o:=.lst [.str (Α "no"),.str (S nm)]) hu;have UF:=s1.seq hp;refine⟨⟨_,UF⟩,cv (xs:=[v]) (λi σ H'=>Χ H H'/\H' u=some (.lst (tx ([YK,nm,t].take (2+i))))/\∃v3,σ=[some (V.str (S nm)),some (V.ref p),some (V.ref u),v3]) ⟨s1,ae.trans (by rw[show Α "no"=S YK by decide +kernel];rfl),(MF _ rfl)⟩ (λi σ H' _ h=>h.1.seq hp) ?_ ?_⟩
  ·rintro i y σ H' hy ⟨s',eu,v3,rfl⟩
   obtain⟨rfl,rfl⟩:i=0/\y=v:=by
    cases i with
    | zero=>exact⟨rfl,(ϗ hy).symm⟩
    | succ i=>cases hy
   walk_at "n";have e2:H' u=some (.lst (tx [YK,nm])):=eu;have nn:y≠.cr:=by rcases hv with rfl | ⟨n,_,rfl,_⟩<;>intro z<;>cases z
   refine⟨.inl ⟨_,.inl (.inl e2)⟩,?_⟩;rw[Υ nn];have fin:∃x_1,H' u=some (HO.lst x_1)/\x_1.length < sizeLine/\Χ H (upd H' u (.lst (x_1++[.str (S t)])))/\upd H' u (.lst (x_1++[.str (S t)])) u=some (.lst (tx (List.take 3 [YK,nm,t]))):=(Jw _ e2 (show 2 < sizeLine by decide) (Χ.wr s' hu) ae)
   rcases hv with rfl | ⟨n,hn,rfl,rfl⟩
   ·exact .inr (Κ _ rfl fin)
   ·exact .inl (ύ _ rfl (a9 (by omega) (by omega)) fin)
  ·rintro σ H' ⟨s',eu,v3,rfl⟩
   walk_at "n";exact(Ky u ([YK,nm,t]) rfl (.inl (.inl eu)) (show(2+(nm.length+(t.length+0)))+3<=1000000 by omega) (λH2 s2=>q H2 (s'.trans s2)))
def il (T:Txt w K mg a):Ϥ P w K mg base IL 1 a.Li a.Ny ["self"] (uS a.ln):=by
 refine T.eF.F.ok nZ (λvs H Q E h=>?_) (λϹ A outer s H vs Q E hr h=>?_)
 ·(revert h;refine sK λx dx Τ _=>?_;subst Τ)
  rfl
 ·(revert h;refine IY λx dx Τ hx q=>?_;subst Τ)
  refine(Κ _ (ah (bw (pv 0) xJ rfl)) ?_);walk_at "n";exact(IN _ dx _ hx T.gF T.cK (show 0 < 1000 by decide) q)
def nv (T:Txt w K mg a):Ϥ P w K mg base (Oy P w) 11 a.QL a.QY ["self","text"] (Fd (M5 a) a.ln a.AC):=by
 refine T.eB.F.Rw dj (λvs H Q E h=>?_) (λϹ A outer s H vs Q E hr h=>?_)
 ·(revert h;refine Kg λd nm ts us Τ _=>?_;subst Τ)
  rfl
 ·(revert h;refine O2 λd nm ts us Τ hp hl YM hA=>?_;subst Τ)
  refine(Κ _ (ag (PS.Kf (ax (i:=2) dj.nd rfl (ς rfl) (aq (Cs T) (hr.mono (by decide)) rfl T.mU.m T.mU.F.kp T.mU.b .nil ό (aa (pv 1) af))))
   (ag (PS.Kf (ax (i:=3) dj.nd rfl (ς rfl) (au (ak (K:=K) (wv hr)) (pv 2) ai (λ_ _=>rfl))))
   (ag (PS.Kf (ax (i:=4) dj.nd rfl (ς rfl) (aq (vk T) (hr.mono (by decide)) rfl T.gB.m T.gB.F.kp T.gB.b .nil ό (aa (pv 3) (aa (df (eN (K:=K)) (pv 2) (dW ai) fR) af)))))
   (ag (PS.Kf (aL (aF (cC (K:=K) (hU hr)) (pv 3) ao (ϸ _)) (ag (bw (pv 0) (ug T.D6 (lL T) (hr.mono (by decide)) rfl T.Cb T.gz.b .nil ό (aa (aq (sL T) (hr.mono (by decide)) rfl T.eT.m T.eT.F.kp T.eT.b .nil ό (aa (pv 4) af)) af)) rfl)
   (ah (ar (aG af)))) aw))
   (ag (PS.Kf (aL (aF (cC (K:=K) (hU hr)) (pv 3) ao (ϸ _)) aZ aw))
   (ag (aL (PT.Kf (ny (ub (av (K:=K) (pv 0) rfl)))) (ah (v9 T.m7 T.t7 T.t8 (fP T) (hr.mono (by decide)) rfl T.og T.dn.b (by decide) Yy (aa ao af))) aw)
   (ag (PS.Kf (ax (i:=6) dj.nd rfl (ς rfl) (au (ak (K:=K) (wv hr)) (qC T.lF (pv 3) (λ_ _=>rfl)) ai (λ_ _=>rfl))))
   (ah (ar (wx (.cons (vn T) (hr.mono (by decide)) T.jO.F.kp T.jO.b acp (.cons (xF T) (hr.mono (by decide)) T.lD.F.kp T.lD.b Jm (.cons (vo T) (hr.mono (by decide)) T.jP.F.kp T.jP.b Jm (.cons (sM T) (hr.mono (by decide)) T.iX.F.kp T.iX.b Jm .nil)))) (pv 6) (aa (av (K:=K) (pv 0) rfl) (aa (pv 4) af)))))))))))) ?_)
  walk_at "n1";refine(Ky _ (nm::ts) rfl hl (tH _) (λp H1 Pd s1 e1=>?_));(revert hp;refine G' λfm hf hfl=>Jb λhul hth=>?_);walk_at "n3";refine aJ (.inl (.inl e1)) (v:=.str (S nm)) (aW (by decide) rfl) ?_;walk_at "n3";refine uy (.inl (.inl e1)) λr Tg=>?_;rw[show(1:Int)=((1:Nat):Int) from rfl,vY,show(tx (nm::ts)).drop 1=tx ts from rfl];have s2:=Χ.upd (o:=.lst (tx ts)) Tg;refine(Ov (S nm) r ts fm us rfl (.inl (.inl ae)) YM hf hfl ⟨hul,hth,λD H3 hD s3 eD=>?_⟩);have Rm:=s1.trans (s2.trans s3);clear Pd e1 Tg s1 s2 s3 hf hfl hul hth;have sq:GT K H3 D us:=.inl (.inl eD);have tel:(∃dx c pq frm f sp,H3 d=some (.ins a.ln dx (OH (.ref c)))/\S nm≠Α "cellar" /\ S nm≠Α "up" /\ (S nm,V.ref pq)∈[((Α "hail":Str),V.ref a.IC),("put",.ref a.Ir),("read",.ref a.IA),("front",.ref a.AT)]/\(∀H',JZ K H' pq [frm,.ref f])/\(f,sp)∈[(a.Mq,mz (M5 a) K),(a.Nn,oE (M5 a) K),(a.Mr,mB (M5 a) K),(a.Lu,kJ (M5 a) K a.AC)]/\sp [.ref c,.ref D] H3 Q E)\/(∃dx,H3 d=some (.ins a.ln dx (OH .cr))/\S nm≠Α "cellar" /\ S nm≠Α "up" /\ XB E H3 a.AC [("name",.str (S RA))])\/
    ∃dx v xs,H d=some (.ins a.ln dx (OH v))/\S nm=Α "cellar" /\ us=Nl xs/\JK xs/\xs.length<=3/\∀A Z H' ls,H' d=some (.ins a.ln dx (OH (.ref A.c)))->(∀b∈A.fix,H b=none)->ϳ [d] H H'->Gc (M5 a) H' A Z ⟨xs,ϥ (Ϝ xs xs.length) NE,OG,ls⟩->ls.length=1->∀u,H' u=some (.lst [])->Q (.ref u) H':=by
   rcases hA with⟨R,hA,q⟩ | ⟨v,hA,qx⟩
   cases hA with
   | SX hd ok l3 q1=>exact .inr (.inr (IN _ _ _ hd (s!"d") rfl ok ⟨l3,λA Z H' ls e f c C l u eu=>q [] u H' (q1 A Z H' ls e f c C l) eu⟩))
   | Le hd hC hn hL R3 hsz q1=>exact .inl (MG _ _ a.IC _ _ _ (Rm _ _ hd) (s!"d") (s!"d") (by rw[show S Xj=Α "hail" by decide +kernel];exact .head _) T.ij ⟨.head _,⟨_,_,_,_,_,rfl,sq,hC.same Rm,hn,hL,R3,hsz,λD' H' ls c C1 hl e=>q _ _ _ (q1 H' ls ((ϳ.of_same Rm).trans c) C1 hl) e⟩⟩)
   | put hd hP hL h hi hm NV h4 Vh R3 hsz q1=>exact .inl (MG _ _ a.Ir _ _ _ (Rm _ _ hd) (s!"d") (s!"d") (by rw[show S V0=Α "put" by decide +kernel];exact .tail _ (.head _)) T.eG ⟨.tail _ (.head _),⟨_,_,_,_,_,_,_,_,_,_,_,rfl,sq,hP.same Rm,hL,.inr ⟨h,(IN _ _ _ hi hm NV h4 ⟨Vh,R3,hsz,λD' H' ls c C1 hl e=>q _ _ _ (q1 H' ls ((ϳ.of_same Rm).trans c) C1 hl) e⟩)⟩⟩⟩)
   | known hd hP hL h hy h3 h4 q1=>exact .inl (MG _ _ a.Ir _ _ _ (Rm _ _ hd) (s!"d") (s!"d") (by rw[show S V0=Α "put" by decide +kernel];exact .tail _ (.head _)) T.eG ⟨.tail _ (.head _),⟨_,_,_,_,_,_,_,_,_,_,_,rfl,sq,hP.same Rm,hL,.inl (IN _ _ _ h hy h3 h4 (λD' H' s' e=>q _ _ _ (q1 H' (Rm.trans s')) e))⟩⟩)
   | read hd hC hm Qa hf q1=>exact .inl (MG _ _ a.IA _ _ _ (Rm _ _ hd) (s!"d") (s!"d") (by rw[show S reT=Α "read" by decide +kernel];exact .tail _ (.tail _ (.head _))) T.ig ⟨.tail _ (.tail _ (.head _)),⟨_,_,_,_,_,_,rfl,sq,hC.same Rm,hm,Qa,hf,λD' H' _ s' e=>q _ _ _ (q1 H' (Rm.trans s')) e⟩⟩)
   | front hd hC hm hn Vh q1=>exact .inl (MG _ _ a.AT _ _ _ (Rm _ _ hd) (s!"d") (s!"d") (by rw[show S NQ=Α "front" by decide +kernel];exact .tail _ (.tail _ (.tail _ (.head _)))) T.dD ⟨.tail _ (.tail _ (.tail _ (.head _))),⟨_,_,_,_,_,rfl,sq,hC.same Rm,.inl (Ky _ _ hm hn Vh (λD' H' s' e=>q _ _ _ (q1 H' (Rm.trans s')) e))⟩⟩)
   cases hA with
   | cr hd=>exact .inr (.inl (Jw _ (Rm _ _ hd) (s!"d") (s!"d") (qx _ Rm)))
   | nor hd hC h1 h2=>exact .inl (MG _ _ a.AT _ _ _ (Rm _ _ hd) (s!"d") (s!"d") (by rw[show S NQ=Α "front" by decide +kernel];exact .tail _ (.tail _ (.tail _ (.head _)))) T.dD ⟨.tail _ (.tail _ (.tail _ (.head _))),⟨_,_,_,_,_,rfl,sq,hC.same Rm,.inr ⟨h1,h2,qx _ Rm⟩⟩⟩)
  clear hA;walk_at "n3";rcases tel with⟨dx,c,pq,frm,f,sp,hd,n1,n2,m1,ht,m2,Rb⟩ | ⟨dx,hd,n1,n2,hB⟩ | ⟨dx,v,xs,hd,n1,rfl,ok,l3,q1⟩
  ·rw[Υ n1]
   walk_at "n3";rw[Υ n2];walk_at "n3";refine(lc _ dx _ hd T.gF T.cK (Κ _ rfl ?_));rw[Υ (λz=>nomatch z)];walk_at "n3";refine(ύ _ m1 rfl (bc (ht _) rfl ?_));walk_at "n0";exact(Κ sp m2 (lc _ dx _ hd T.gF T.cK (Κ _ rfl Rb)))
  ·rw[Υ n1]
   walk_at "n3";rw[Υ n2];walk_at "n3";refine(lc _ dx _ hd T.gF T.cK (Κ _ rfl ?_));rw[δ rfl];rw[show S RA=Α "cellar" by decide +kernel] at hB;exact hB.bears
  ·rw[δ n1]
   refine(Ky D xs rfl sq l3 (λD2 H4 Rh s4 hT2 x TB hx YU nx=>?_));have Xm:=Rm.trans s4;have t2:=(Χ.upd (o:=.own x) YU).trans (Χ.upd (o:=.ins a.IZ TB []) (show upd H4 TB (.own x) x=none by rw[aj (ω nx)];exact hx));refine(O3 x TB D2 xs rfl ae (hT2.same t2) ok ⟨l3,λA0 Z0 H5 ls eA NP c5 C5 R3=>⟨rfl,?_⟩⟩);have s5:=cw hx YU c5;have hd5:=s5 _ _ (Xm _ _ hd);refine(IN _ dx _ hd5 T.gF T.cK (show 1 < 1000 by decide) ⟨by decide,λu hu=>?_⟩);have nu:u≠d:=λz=>by rw[z,ae] at hu;cases hu
   rw[G2,<-eA] at hu ⊢;have hn:∀b∈A0.fix,H4 b=none:=λb hb=>(NP b hb).elim (λz=>by rw[z];exact hx) λz=>(bB z).1;have nd:d∉A0.fix:=λz=>by have:=hn d z;rw[Xm _ _ hd] at this;cases this
   have c6:ϳ [d] H5 (upd H5 d (.ins a.ln dx (OH (.ref A0.c)))):=ϳ.upd (.head _) λys e=>by rw[hd5] at e;cases e
   have C6:=(C5.Ji c6 (λb hb=>by rw[Μ.mp hb];exact nd) (λb hb=>by rw[Μ.mp hb];exact .inr λys e=>by rw[hd5] at e;cases e) λb hb=>by rw[Μ.mp hb];exact⟨_,ae⟩)
   have s7:=Χ.upd (o:=.lst []) hu;exact q1 A0 Z0 _ ls (s7 _ _ ae) (λb hb=>aV Xm (hn b hb)) ((ϳ.of_same (Xm.trans s5)).trans (c6.trans (ϳ.of_same s7))) (C6.same s7) R3 u ae
def xH (T:Txt w K mg a):Ϥ P w K mg base IL 12 a.Sk a.SA ["self","text"] (G1 (M5 a) a.ln):=by
 refine T.lE.F.ok oO (λvs H Q E h=>?_) (λϹ A outer s H vs Q E hr h=>?_)
 ·(revert h;refine Kg λd nm ts us Τ _=>?_;subst Τ)
  rfl
 ·(revert h;refine O2 λd nm ts us Τ hp hl YM hA=>?_;subst Τ)
  refine(Κ _ (ah (GJ (ah (ar (aq (oq T) (hr.mono (by decide)) rfl T.bD.m T.bD.F.kp T.bD.b .nil ό (aa (aC (aB (K:=K)) (aG (aa ao af)) (aR (pv 0) T.gF T.eB.m (nv T) (hr.mono (by decide)) T.eB.b .nil Ux (aa (pv 1) af))) af))))
   (ES (GW (DP rfl T.bD.m T.bD.F.kp (GX (aG (aa ao af)) (ER (pv 0) T.gF T.eB.m (nv T) (hr.mono (by decide)) T.eB.b .nil (aa (pv 1) af))))))
   (EU rfl T.y8 (λea=>aZ)
   (HG (i:=2) rfl T.og oO.nd rfl rfl (λea=>(ah (ar (DO (xG T) (hr.mono (by decide)) rfl T.ki.m T.ki.F.kp T.ki.b .nil (aa ao (aa (aG (aa (Dt (K:=K) (pv 2) rfl) af)) af)))))) GI)))) ?_)
  walk_at "n";have oks:Α "ok"=S R0:=by decide +kernel
  rcases hA with⟨R,hA,q⟩ | ⟨v,t,hA,hv,ht,q⟩
  ·refine .inl ⟨by decide,λp Pd=>?_⟩
   have hA1:=hA.on (Χ.upd (o:=.lst [.str (Α "ok")]) Pd);(refine V7 hA1.obj λdx v hd=>?_);refine(ϒ dx _ hd rfl (O3 d nm ts us rfl hp hl YM (.inl (Κ _ hA1 (λLg u H1 hR eu=>?_)))));obtain⟨hR,ep⟩:=hR;have ep:=ep _ _ Pd ae;obtain⟨hb,q⟩:=q Lg H1 hR;rw[oks] at ep;have la:(tx Lg).length=Lg.length:=Ζ _;refine lV (.inl (.inl ep)) (.inl (.inl eu)) (ζ (show 1+(tx Lg).length<=1000000 by omega) (by decide)) λr Tg=>?_;exact(Ky r (R0::Lg) rfl (.inl (.inl ae)) (show 2+(Lg.map Ϻ).sum+(Lg.length+1)<=1000000 by omega) (λH2 s2=>q H2 ((Χ.upd Tg).trans s2)))
  ·refine .inr ⟨by decide,(Κ (XG H a.AC [("name",v)]) (λp Pd=>?_) (λC dx H1 ea g he=>?_))⟩
   ·have s1:=Χ.upd (o:=.lst [.str (Α "ok")]) Pd
    (refine V7 ((hA.same s1).obj) λdx v' hd=>?_);exact(ϒ dx _ hd rfl (O3 d nm ts us rfl hp hl YM (.inr (Κ v (hA.same s1) (λH2 s2=>HH.back (s1.trans s2))))))
   ·have ZX:=aV g.2.1 he
    (refine W7 (g.at he) λΤ sm ge gd=>?_;subst Τ);obtain⟨_,z⟩ | ⟨e,rfl,gd⟩:=gd
    ·cases z
    refine .inr ⟨T.m8,T.oj,(gl _ _ ge (Jw _ gd T.m7 T.jR (ύ v rfl (by decide) (λp Pd=>?_))))⟩;generalize upd H1 ea (xh ea a.AC (some e))=H2 at sm ge gd Pd ⊢;have s3:=Χ.upd (o:=.lst [v]) Pd;have np:p≠ea:=λz=>by rw[z,ge] at Pd;cases Pd
    refine⟨(Nd _ _ (s3 _ _ ge)),(O3 nsT p v t (by rw[show Α "NoSuch"=S nsT by decide +kernel]) (.inl (.inl ((dG np).trans ae))) hv (by decide) ⟨ht,λH4 s4=>q H4 λb o hb=>s4 _ _ ?_⟩)⟩;rw[dG λz=>by rw[z,ZX] at hb;cases hb];exact s3 _ _ (sm _ _ hb)
def vp (T:Txt w K mg a):Ϥ P w K mg base IL 1 a.QN a.Q0 ["_law_number"] DG:=by
 refine T.gD.F.ok iQ (λvs H Q E h=>?_) (λϹ A outer s H vs Q E hr h=>?_)
 ·(revert h;refine Ϟ λn Τ _=>?_;subst Τ)
  rfl
 ·(revert h;refine Ϟ λn Τ q=>?_;subst Τ)
  refine(Κ _ (ag (ax (i:=1) iQ.nd rfl (ς rfl) ao)
   (ag (ax (i:=1) iQ.nd rfl (ς rfl) (aC (aB (K:=K)) (pv 1) ao))
   (ah (ar (au (ak (K:=K) (wv hr)) (pv 1) (aC bV (pv 0) ai) (λ_ _=>rfl)))))) ?_)
  walk_at "o";exact(Κ TB1 (s!"d") (Jw TB2 (s!"d") (by decide) (by decide) (Κ (sgB n) (aW (by omega) (GO n)) q)))
def zm (T:Txt w K mg a):Ϥ P w K mg base IL 1 a.TY a.Ue ["_law_text"] yH:=by
 refine T.km.F.ok yY (λvs H Q E h=>?_) (λϹ A outer s H vs Q E hr h=>?_)
 ·(revert h;refine Ϟ λt Τ _=>?_;subst Τ)
  rfl
 ·(revert h;refine G' λt Τ ht q=>?_;subst Τ)
  refine(Κ _ (ah (ar (bf (K:=K) PySem.F.plainAttrs_str PySem.F.slot_str_join PySem.F.type_str_join (gZ (K:=K)) ao (aa (bu ["_law_text"] ["_law_text"] (Λ n9) (by exact⟨rfl,s!"d",s!"d",s!"d",s!"d",s!"d",s!"d",s!"d",s!"d"⟩) (aU (K:=K) (bf (K:=K) PySem.F.plainAttrs_str PySem.F.slot_str_split PySem.F.type_str_split jv (pv 0) (aa ao af))) (λC₁ s₁ H₁ f₁=>(bf (K:=K) PySem.F.plainAttrs_str PySem.F.slot_str_join PySem.F.type_str_join (gZ (K:=K)) ao (aa (bf (K:=K) PySem.F.plainAttrs_str PySem.F.slot_str_split PySem.F.type_str_split jv (pv 0) (aa ao af)) af)))) af)))) ?_);walk_at "o";refine(ύ 59 (s!"d") (by omega) (λl Z9=>?_));have s1:=Χ.upd (o:=.lst (tx (ϡ 59 t))) Z9;have n1:=cS 59 t;have n2:=iJ 59 t;have Z:4000000<=sizeLine:=by decide
  refine bL (xs:=tx (ϡ 59 t)) (.inl (.inl ae)) (cR (xs:=tx (ϡ 59 t)) (.inl (.inl ae)) (by unfold tx;rw[Ζ];omega) (λv=>match v with | .str (⟨z⟩)=>.str (S (db [126,119] (ϡ 126 z.toList))) | x=>x) (λx H' hx s Qe qe=>?_) λD H' hD s2 hd=>?_)
  ·unfold tx at hx
   (refine ρ (τ.mp hx) λc hc Τ=>?_;subst Τ);have n3:=fU 59 t c hc;have n4:=cS 126 c;have n5:=iJ 126 c;walk_at "o";refine(ύ 126 (s!"d") (by omega) (λu hu=>(Κ ([126,119]) (s!"d") (ύ (ϡ 126 c) (.inl (.inl ae)) ?_ (qe _ (Χ.upd hu))))));simp only[Ψ,ϕ];omega
  ·refine(Κ ([126,115]) (s!"d") (Κ D rfl (ύ ((ϡ 59 t).map λp=>db [126,119] (ϡ 126 p)) (.inl (.inl ?_)) ?_ ?_)))
   ·rw[hd];unfold tx;rw[χ,χ];rfl
   ·have:=uT G4 (ϡ 59 t)
    simp only[Ζ,Ψ,ϕ];omega
   ·rw[G3]
    exact q _ (s1.trans s2)
def jV (T:Txt w K mg a):Ϥ P w K mg base IL 2 a.Sl a.SD ["_law_parts"] (wQ K):=by
 refine T.bO.F.ok xp (λvs H Q E h=>?_) (λϹ A outer s H vs Q E hr h=>?_)
 ·(revert h;refine sK λp l Τ _=>?_;subst Τ)
  rfl
 ·(revert h;refine O1 λp l Τ hp hx hl q=>?_;subst Τ)
  refine(Κ _ (ah (ar (bf (K:=K) PySem.F.plainAttrs_str PySem.F.slot_str_join PySem.F.type_str_join (gZ (K:=K)) ao (aa (bu ["_law_parts"] ["_law_parts"] (Λ lB) (by exact⟨rfl,s!"d",s!"d",s!"d",s!"d",s!"d",s!"d",s!"d",s!"d"⟩) (aU (K:=K) (pv 0)) (λC₁ s₁ H₁ f₁=>(aq (zm T) (hr.mono (by decide)) rfl T.km.m T.km.F.kp T.km.b .nil ό (aa (pv 0) af)))) af)))) ?_);walk_at "o";have Z:4000000<=sizeLine:=by decide
  refine bL hp (cR hp (by unfold tx;rw[Ζ];omega) (λv=>match v with | .str (⟨z⟩)=>.str (S (gd z.toList)) | x=>x) (λx H' hx' s Qe qe=>?_) λD H' hD s1 hd=>?_)
  ·unfold tx at hx'
   (refine ρ (τ.mp hx') λc hc Τ=>?_;subst Τ);walk_at "o";exact(ύ c rfl (hx c hc) (λH2 s2=>qe H2 s2))
  ·refine(Κ ([59]) (s!"d") (Κ D rfl (ύ (l.map gd) (.inl (.inl ?_)) ?_ (q _ s1))))
   ·rw[hd];unfold tx;rw[χ,χ];rfl
   ·have h1:=uT nM l
    have h2:=iL hx;have h3:l.length * 1000<=400000:=by omega
    simp only[Ζ,Ψ,ϕ];omega
def xI (T:Txt w K mg a):Ϥ P w K mg base IL 1 a.Sm a.SE ["_law_key","_law_many"] sZ:=by
 refine T.i0.F.ok gv (λvs H Q E h=>?_) (λϹ A outer s H vs Q E hr h=>?_)
 ·(revert h;refine sK λl m Τ _=>?_;subst Τ)
  rfl
 ·(revert h;refine IY λl m Τ hm q=>?_;subst Τ)
  refine(Κ _ (ag (ax (i:=2) gv.nd rfl (ς rfl) ai)
   (ag (cE Ϫ rfl (aU (K:=K) (pv 0)) (aT (i:=3) gv.nd rfl (ς rfl)) (ah (ax (i:=2) gv.nd rfl (ς rfl) (aC bV (aC (aB (K:=K)) (aC iG (pv 2) ai) (az jZ (by rfl) T.Ak Za (aa (pv 3) af))) ai))))
   (ah (ar (aC bV (aC xP (pv 2) (aC zx (pv 2) ai)) (pv 1)))))) ?_)
  walk_at "o";refine qh (λi σ H'=>H'=H/\∃v,σ=[some (.str (S l)),some (.int m),some (.int (RT (l.take i))),v]) ⟨rfl,(MF none rfl)⟩ ?_ ?_
  ·rintro i c σ H' hc ⟨rfl,v,rfl⟩
   walk_at "o";rw[qm hc,bitAnd_m16]
  ·rintro σ H' ⟨rfl,v,rfl⟩
   walk_at "o";have e:l.take l.toArray.size=l:=by simp
   rw[e];exact⟨hm,q⟩
def nw (T:Txt w K mg a):Ϥ P w K mg base IL 2 a.QO a.Q1 ["_law_cell","_law_start","_law_size"] BR:=by
 refine T.cJ.F.ok dm (λvs H Q E h=>?_) (λϹ A outer s H vs Q E hr h=>?_)
 ·(revert h;refine Ka λc st n Τ _=>?_;subst Τ)
  rfl
 ·(revert h;refine Kx λc st n Τ hn q=>?_;subst Τ)
  refine(Κ _ (ag (ax (i:=3) dm.nd rfl (ς rfl) ao)
   (ag (cE Ϫ rfl (jW rfl T.i5 (aa (pv 2) af)) (aT (i:=4) dm.nd rfl (ς rfl)) (ah (aL (aF uu (aC bV (aq (bq T) (hr.mono (by decide)) rfl T.ay.m T.ay.F.kp T.ay.b .nil ό (aa (pv 0) (aa (pv 1) af))) ai) ai (ϸ _)) (ah (ax (i:=3) dm.nd rfl (ς rfl) (aC (aB (K:=K)) (pv 3) (aq (vp T) (hr.mono (by decide)) rfl T.gD.m T.gD.F.kp T.gD.b .nil ό (aa (aq (bq T) (hr.mono (by decide)) rfl T.ay.m T.ay.F.kp T.ay.b .nil ό (aa (pv 0) (aa (aC (aB (K:=K)) (aC (aB (K:=K)) (pv 1) ai) (pv 4)) af))) af))))) (ah (ax (i:=3) dm.nd rfl (ς rfl) (aC (aB (K:=K)) (pv 3) (au (ak (K:=K) (wv hr)) ao (aC bV (aq (bq T) (hr.mono (by decide)) rfl T.ay.m T.ay.F.kp T.ay.b .nil ό (aa (pv 0) (aa (aC (aB (K:=K)) (aC (aB (K:=K)) (pv 1) ai) (pv 4)) af))) ai) (λ_ _=>rfl))))))))
   (ah (ar (pv 3))))) ?_)
  walk_at "o";refine⟨by omega,by omega,?_⟩;rw[ϵ];refine kY (λi σ H'=>H'=H/\∃l v,l.length=i/\(∀x∈l,Zl x)/\σ=[some (.int c),some (.int st),some (.int (n:Int)),some (.str (S l)),v]) ⟨rfl,(ϒ ([]) none rfl (λ_ z=>absurd z Ρ) (by rw[show Α ""=S [] by decide +kernel]))⟩ ?_ ?_
  ·rintro i σ H' hi ⟨rfl,l,v,hl,hk,rfl⟩
   walk_at "o";have Z:1000<=sizeLine:=by decide
   have add:∀y,Zl y->∃l',l'.length=i+1/\(∀x∈l',Zl x)/\l++[y]=l':=λy hy=>(ύ (l++[y]) (by rw[Ω,hl];rfl) (λx hx=>(ϑ.mp hx).elim (hk x) λz=>by rw[Μ.mp z];exact hy) rfl)
   split
   ·exact⟨by omega,add _ (G5 _)⟩
   ·refine(ύ ([126,59,126,59]) (s!"d") (by decide) ?_)
    generalize JG c (st+1+(0+(i:Int)))=y;have hy:(y % 4).toNat=0\/(y % 4).toNat=1\/(y % 4).toNat=2\/(y % 4).toNat=3:=by omega
    have hx:∃x,[126,59,126,59][(y % 4).toNat]?=some x/\Zl x:=by rcases hy with h | h | h | h<;>rw[h]<;>exact(Κ _ rfl rfl)
    (revert hx;refine Ϟ λx hx hk'=>?_);exact(ύ x (aW (by omega) hx) (by omega) (add _ hk'))
  ·rintro σ H' ⟨rfl,l,v,hl,hk,rfl⟩
   walk_at "o";exact q l H' (Χ.refl _) hl hk
def vq (T:Txt w K mg a):Ϥ P w K mg base IL 3 a.QP a.Q2 ["_law_cell"] BS:=by
 refine T.gE.F.ok u5 (λvs H Q E h=>?_) (λϹ A outer s H vs Q E hr h=>?_)
 ·(revert h;refine Ϟ λc Τ _=>?_;subst Τ)
  rfl
 ·(revert h;refine Ϟ λc Τ q=>?_;subst Τ)
  refine(Κ _ (ag (aL (aF (cC (K:=K) (hU hr)) (aC bV (aq (bq T) (hr.mono (by decide)) rfl T.ay.m T.ay.F.kp T.ay.b .nil ό (aa (pv 0) (aa ai af))) ai) ai (ϸ _)) (ah (ar ao)) aw)
   (ah (ar (aC (aB (K:=K)) ao (aq (nw T) (hr.mono (by decide)) rfl T.cJ.m T.cJ.F.kp T.cJ.b .nil ό (aa (pv 0) (aa ai (aa (aC bV (aq (bq T) (hr.mono (by decide)) rfl T.ay.m T.ay.F.kp T.ay.b .nil ό (aa (pv 0) (aa ai af))) ai) af)))))))) ?_)
  walk_at "o";have m:=(zJ c 4).1
  split
  ·rw[show Α "-"=S (Jq none) by decide +kernel]
   exact q none H (Χ.refl _) rfl λ_ z=>nomatch z
  ·refine(NC c 40 ((JG c 4 % 10).toNat) (by rw[Ph (by omega)]) (by omega) (λl H1 s1 hl hk=>?_))
   show RO K (V.str (Α "=")) (V.str (S l)) H1 Q;rw[qj];refine(Ky ([61]) l (s!"d") rfl (ζ (show 1+l.length<=10 by omega) (by decide)) (q (some l) H1 s1 (acq (by omega) hk) λw hw=>?_));cases hw;omega
def zp (T:Txt w K mg a):Ϥ P w K mg base IL 2 a.TW a.Ud ["_law_cell"] yI:=by
 refine T.kj.F.ok lA (λvs H Q E h=>?_) (λϹ A outer s H vs Q E hr h=>?_)
 ·(revert h;refine Ϟ λc Τ _=>?_;subst Τ)
  rfl
 ·(revert h;refine Ϟ λc Τ q=>?_;subst Τ)
  refine(Κ _ (ag (ax (i:=1) lA.nd rfl (OW rfl) (au (ak (K:=K) (wv hr)) (aG (aa ao (aa ao (aa ao (aa ao af))))) (aC bV (aq (bq T) (hr.mono (by decide)) rfl T.ay.m T.ay.F.kp T.ay.b .nil ό (aa (pv 0) (aa ai af))) ai) (λ_ _=>rfl)))
   (ag (ax (i:=2) lA.nd rfl (OW rfl) (aC bV (aq (bq T) (hr.mono (by decide)) rfl T.ay.m T.ay.F.kp T.ay.b .nil ό (aa (pv 0) (aa ai af))) (aC (aB (K:=K)) (az (aO (K:=K)) (by rfl) T.cq u8 (aa (pv 1) af)) ai)))
   (ah (ar (bu ["_law_cell","_law_base","_law_at"] ["_law_cell","_law_base","_law_at"] (Λ n6) (by exact⟨rfl,s!"d",s!"d",s!"d",s!"d",s!"d",s!"d",s!"d",s!"d"⟩) (aU (K:=K) ao) (λC₁ s₁ H₁ f₁=>(aC (aB (K:=K)) (aC (aB (K:=K)) (df (eN (K:=K)) (pv 2) fR (dW (pv 3))) (pv 0)) (df (eN (K:=K)) (pv 2) (dW (pv 3)) fR)))))))) ?_)
  walk_at "o";refine⟨by decide,λp hp=>?_⟩;have s1:=Χ.upd (o:=.lst [V.str (Α "box"),V.str (Α "a1"),V.str (Α ""),V.str (Α "zz9")]) hp;have hb:[V.str (Α "box"),V.str (Α "a1"),V.str (Α ""),V.str (Α "zz9")]=tx [[98,111,120],[97,49],[],[122,122,57]]:=by
   rw[show Α "box"=S [98,111,120] by decide +kernel,show Α "a1"=S [97,49] by decide +kernel,show Α ""=S [] by decide +kernel,show Α "zz9"=S [122,122,57] by decide +kernel];rfl
  have m4:(JG c 1 % 4).toNat < 4:=by omega
  refine aJ (v:=.str (S (Jo c))) (.inl (.inl ae)) (aW (by omega) ?_) ?_
  ·rw[hb]
   unfold tx Jo;rw[μ,ξ (by simpa using m4),υ,ξ (by simpa using m4)];rfl
  rw[Gy];have bl:=(dJ c).1;have al:=zZ c;have Z:1000<=sizeLine:=by decide
  refine(ύ (Jo c) rfl (by omega) ?_);rw[gY];refine(ύ _ rfl (by omega) ?_);have ea:JG c 2 % (((Jo c).length:Int)+1)=(Tc c:Int):=by
   unfold Tc;rw[Ph (NT _ (by omega))];rfl
  rw[ea,show Α "abcdefgh"=S ((io 8).map (97+·)) by decide +kernel];generalize upd H p _=H1 at s1 ⊢;refine g9 (by decide) (λx=>.str (S ((Jo c).take (Tc c)++[x]++(Jo c).drop (Tc c)))) (λx H' hx s2 Qe qe=>?_) λD H' hD s2 hd=>?_
  ·walk_at "o"
   have l1:((Jo c).take (Tc c)).length<=3:=by rw[Ϭ];omega
   have l2:((Jo c).drop (Tc c)).length<=3:=by rw[sw];omega
   rw[x2];refine(ύ (Jo c) rfl (by omega) ?_);rw[Dn];dsimp only;rw[qj];refine(Ky _ _ rfl rfl (ζ (WB l1 _) (show 3+1<=sizeLine by decide)) ?_);rw[x2];refine(ύ (Jo c) rfl (by omega) ?_);rw[ql];dsimp only;rw[qj];exact(Ky _ _ rfl rfl (ζ (Nat.add_le_add (show _<=4 by rw[Ω];exact WB l1 1) l2) (by decide)) (qe H' (Χ.refl _)))
  ·refine q D H' (aV s1 hD) (s1.trans s2) ?_
   rw[hd];unfold Pq tx;rw[χ,χ];rfl
def bU (T:Txt w K mg a):Ϥ P w K mg base IL 13 a.Vu a.VE ["_law_desk","_law_request","_law_due"] (BU (M5 a) a.ln K):=by
 refine T.aH.F.ok t6 (λvs H Q E h=>?_) (λϹ A outer s H vs Q E hr h=>?_)
 ·(revert h;refine ME λd rq nm ts us due Τ _=>?_;subst Τ)
  rfl
 ·(revert h;refine ME λd rq nm ts us due Τ=>MD λhrq hx YM hp hA=>?_;subst Τ)
  refine(Κ _ (ag (ax (i:=3) t6.nd rfl (ς rfl) (aR (pv 0) T.gF T.lE.m (xH T) (hr.mono (by decide)) T.lE.b .nil ό (aa (aq (jV T) (hr.mono (by decide)) rfl T.bO.m T.bO.F.kp T.bO.b .nil ό (aa (pv 1) af)) af)))
   (ah (ar (eY (az (bo (K:=K)) (by rfl) T.cg JQ (aa (pv 3) (aa (iq (v:=.ty "str") rfl T.cY Iv rfl) af))) (iw (iB (cC (K:=K) (hU hr)) (pv 3) (pv 2) (ϸ _))))))) ?_)
  walk_at "p1";have od:∃dx v,H d=some (.ins a.ln dx (OH v)):=by
   rcases hA with⟨R,hA,_⟩ | ⟨v,t,hA,_⟩<;>exact hA.obj
  (revert od;refine ahq λdx v0 hd=>?_);have b1:=iL hx;have b2:=DS (nm::ts);simp only[Ψ] at b1 b2;refine(ϒ dx _ hd rfl (Kz rq (nm::ts) rfl hrq hx (show ts.length+1<=400 by omega) (λH1 s1=>(O3 d nm ts us rfl hp (by omega) YM ?_))));have fin:∀H',(∀H2,Χ H' H2->Q (.bl true) H2)->Rz { nx:=λx H'=>Q V.cr H',rt:=Q } [some (V.ref d),some (V.ref rq),some (V.str (S due)),some (V.str (S due))] H':=λH' q=>by
   walk_at "p0";exact q H' (Χ.refl _)
  rcases hA with⟨R,hA,q⟩ | ⟨v,t,hA,hv,ht,rfl,q⟩
  ·refine .inl (Κ _ (hA.on s1) (λLg H2 hR=>?_))
   (refine W7 (q Lg H2 hR.1) λΤ q1 q2 q3=>?_;subst Τ);have b3:=iL q1;exact⟨by omega,λH3 s3=>fin H3 λH4 s4=>q3 H4 (s3.trans s4)⟩
  ·exact .inr (Ky v t (hA.same s1) hv ht (λH2 s2=>fin H2 λH3 s3=>q H3 (s1.trans (s2.trans s3))))
def Ct (T:Txt w K mg a):Ϥ P w K mg base IL 14 a.Vv a.VF ["_law_desk","_law_kept"] (BW (M5 a) a.ln):=by
 refine T.m5.F.ok j7 (λvs H Q E h=>?_) (λϹ A outer s H vs Q E hr h=>?_)
 ·(revert h;refine Ld λd dx L c fs Τ _=>?_;subst Τ)
  rfl
 ·(revert h;refine Ld λd dx L c fs Τ=>P6 λhd hK efs nd nd' q=>?_;subst Τ)
  refine(Κ _ (ag (ax (i:=2) j7.nd rfl (ς rfl) (aG (aa ao af)))
   (ag (cE Ϫ rfl (jW rfl T.i5 (aa ai af)) (aT (i:=3) j7.nd rfl (ς rfl)) (ah (ax (i:=2) j7.nd rfl (ς rfl) (aC (aB (K:=K)) (pv 2) (aG (aa (au (ak (K:=K) (wv hr)) (au (ak (K:=K) (wv hr)) (pv 1) ao (λ_ _=>rfl)) (pv 3) (λ_ _=>rfl)) (aa (aQ (a8 (K:=K)) rfl T.cY Iv (aa (au (ak (K:=K) (wv hr)) (au (ak (K:=K) (wv hr)) (pv 1) ao (λ_ _=>rfl)) (pv 3) (λ_ _=>rfl)) af)) (aa (au (ak (K:=K) (wv hr)) (aG (aa ao (aa ao af))) (pv 3) (λ_ _=>rfl)) af))))))))
   (ag (aL (bH (aM (K:=K) (aq (bU T) (hr.mono (by decide)) rfl T.aH.m T.aH.F.kp T.aH.b .nil ό (aa (pv 0) (aa (pv 2) (aa ao af)))) (by intro _;rfl))) (ah (ar eX)) aw)
   (ah (ar (aq (bU T) (hr.mono (by decide)) rfl T.aH.m T.aH.F.kp T.aH.b .nil ό (aa (pv 0) (aa (aG (aa ao (aa (au (ak (K:=K) (wv hr)) (au (ak (K:=K) (wv hr)) (pv 1) ao (λ_ _=>rfl)) ai (λ_ _=>rfl)) af))) (aa ao af))))))))) ?_)
  walk_at "q2";have Z0:1000<=sizeLine:=by decide
  refine⟨by decide,λp0 Pd=>?_⟩;have s0:=Χ.upd (o:=.lst [.str (Α "cellar")]) Pd;refine kY (λi σ H'=>Χ H H'/\∃pi v,H' pi=some (.lst (tx (RA::Z6 c i)))/\σ=[some (.ref d),some (.ref L.kp),some (.ref pi),v]) ⟨s0,(gl p0 none (ae.trans (by rw[show Α "cellar"=S RA by decide +kernel];rfl)) rfl)⟩ ?_ ?_
  ·rintro i σ H' hi ⟨s',pi,v,ep,rfl⟩
   walk_at "q";have k1:=hK.same s';have mb:=dM c i;have i2:i=0\/i=1:=by omega
   refine aP (dg k1.kp (ia L _)) (aJ (.inl (.inl k1.nm)) (at0 (eW (by omega))) (aP (dg k1.kp (Ad L _)) (aJ (.inl (.inl k1.mm)) (v:=.int (Ks c i:Int)) (at0 (by rcases i2 with rfl | rfl<;>rfl)) (Jw _ rfl (a9 (by omega) (by omega)) (by decide) (λp hp=>?_)))));have s2:=Χ.upd (o:=.lst [.str (Α "table"),.str (Α "stream")]) hp;refine aJ (.inl (.inl ae)) (v:=.str (Vl i)) (at0 (by rcases i2 with rfl | rfl<;>rfl)) ⟨by decide,λp2 US=>?_⟩;have s3:=Χ.upd (o:=.lst [.str (S (lv c i)),.str (S (ϝ (Ks c i:Int))),.str (Vl i)]) US;refine lV (.inl (.inl (s3 _ _ (s2 _ _ ep)))) (.inl (.inl ae)) (ζ (show _<=100 from ?_) (by decide)) λp3 hp3=>⟨s'.trans (s2.trans (s3.trans (Χ.upd hp3))),(Κ p3 (ae.trans (by rw[HM])) rfl)⟩
   rcases i2 with rfl | rfl
   ·exact(show 4<=100 by decide)
   ·exact(show 7<=100 by decide)
  ·rintro σ H1 ⟨s1,pi,v,ep,rfl⟩
   show Rz { nx:=λx H'=>Q V.cr H',rt:=Q } _ _;walk_at "q3";have k1:=hK.same s1;have mb0:=dM c 0;have mb1:=dM c 1;have ex:Z6 c 2=(Mb c).flatMap N1:=rfl;rw[ex] at ep;have shx:∀x∈RA::(Mb c).flatMap N1,x.length<=1000:=λx hx=>by
    rcases Θ.mp hx with rfl | hx
    ·decide
    ·(refine ρ (KY.mp hx) λy hy hx=>?_)
     rcases Θ.mp hy with rfl | hy
     ·exact wU (by decide) x hx
     ·rw[Μ.mp hy] at hx;exact wU (by decide) x hx
   refine(MG d pi RA _ _ ([111,107]) (by rw[show Α "ok"=S [111,107] by decide +kernel]) (.inl (.inl ep)) shx (show 6<=100 by decide) (Ac (λx hx=>(Aa c).each x hx |>.2.1.2) (show 2<=3 by decide)) (.inl (Κ (λLg H'=>Lg=[]/\∃A Z ls,H' d=some (.ins a.ln dx (OH (.ref A.c)))/\(∀b∈A.fix,H1 b=none)/\ϳ [d] H1 H'/\Gc (M5 a) H' A Z ⟨Mb c,ϥ (Ϝ (Mb c) (Mb c).length) NE,OG,ls⟩/\ls.length=1) (.SX (s1 _ _ hd) (Aa c) (show 2<=3 by decide) λA Z H' ls e f g C l=>⟨rfl,(IN A Z ls e f g C l)⟩) (λLg H2 hR=>?_))));(revert hR;refine Jb λΤ=>RG λA1 Z1 ls ed hf g2 C2 R3=>?_;subst Τ);refine⟨s!"d",(λ_ z=>nomatch z),by decide,λH3 s3=>(Κ true (by rw[gI]) ?_)⟩;rw[Υ (by decide)];have ndo:∀b∈L.own,b∉[d]:=λb hb z=>nd' (Μ.mp z▸hb);have k2:=(k1.Ji g2 (λb hb=>by rw[Μ.mp hb];exact .head _) ndo).same s3;have U2:∀b∈L.own,b∉A1.fix:=λb hb z=>by
    obtain⟨o,e⟩:=k1.here b hb;rw[hf b z] at e;cases e
   have nda:d∉A1.fix:=λz=>by have:=hf d z;rw[s1 _ _ hd] at this;cases this
   have hz:∀b∈L.Pu::L.rl,b∈L.own:=λb hb=>(Θ.mp hb).elim (λz=>z▸L.mem (mi 4 rfl)) L.acv;have C3:=(C2.same s3).ai3 (λ_=>rfl) (L.Pu::L.rl) λb hb=>k2.here b (hz b hb);have ed3:=s3 _ _ ed;walk_at "q0";refine aP (dg k2.kp (ia L _)) (aJ (.inl (.inl k2.nm)) (v:=.str (S (lv c 2))) (aW (by decide) (eW (i:=2) (by decide))) ⟨by decide,λp hp=>?_⟩);have s4:=Χ.upd (o:=.lst [.str (Α "hail"),.str (S (lv c 2))]) hp;have e4:upd H3 p (.lst [.str (Α "hail"),.str (S (lv c 2))]) p=some (.lst (tx [Xj,lv c 2])):=ae.trans (by rw[show Α "hail"=S Xj by decide +kernel];rfl);generalize upd H3 p (.lst [.str (Α "hail"),.str (S (lv c 2))])=H4 at s4 e4 ⊢;have C4:=C3.same s4;refine(MG d p Xj ([lv c 2]) ([.str (S (lv c 2))]) (jn [R0,[49],[48]]) (by rw[show Α "ok;1;0"=S (jn [R0,[49],[48]]) by decide +kernel]) (.inl (.inl e4)) (λx hx=>?_) (show 1<=100 by decide) (uU (.inr (.inl ⟨s!"d",rfl⟩)) (.inr (.inr (.inr ⟨rfl,rfl⟩)))) (.inl (Κ (λLg H'=>Lg=[[49],[48]]/\∃ls',ϳ A1.fix H4 H'/\Gc (M5 a) H' A1 ((L.Pu::L.rl)++Z1) (((⟨Mb c,ϥ (Ϝ (Mb c) (Mb c).length) NE,OG,ls⟩:CM).wr ls').Le (S (lv c 2)))/\ls'.length=ls.length+1) (.Le (s4 _ _ ed3) C4 (j3 (by decide)) rfl (by show ls.length<=4000;omega) (by show 0<=100000;decide) λH' ls' g C l=>⟨rfl,(ύ ls' g C l)⟩) (λLg H5 hR=>?_))))
   ·rcases Θ.mp hx with rfl | hx
    ·decide
    ·rw[Μ.mp hx];exact dN
   (revert hR;refine Jb λΤ=>G' λls' g5 C5 hl5=>?_;subst Τ);refine⟨rfl,(by decide),by decide,λH6 s6=>?_⟩;subst efs;have k3:K5 H6 (R7 L d A1) L c 0 _ []:=(((k2.same s4).empty (B':=R7 L d A1)).Ji g5 (λb hb=>ε _ (ι _ hb)) U2).same s6;have up:∀b o,H b=some o->b∉[d]->H4 b=some o/\b∉A1.fix:=λb o hb n=>⟨s4 _ _ (s3 _ _ (g2.keep _ _ (s1 _ _ hb) n)),λz=>by have:=hf b z;rw[s1 _ _ hb] at this;cases this⟩
   exact q H6 A1 _ _ ⟨λb o hb n=>s6 _ _ (g5.keep _ _ (up b o hb n).1 (up b o hb n).2),λb xs hb=>s6 _ _ (g5.tup _ _ (s4 _ _ (s3 _ _ (g2.tup _ _ (s1 _ _ hb)))))⟩ (λb hb=>aV s1 (hf b hb)) ⟨⟨C5.same s6,⟨dx,s6 _ _ (g5.keep _ _ (s4 _ _ ed3) nda)⟩,k3,nd,U2,nd',nda,λb hb=>ώ _ hb⟩,P84.start c ls' (by omega)⟩
def D8 (T:Txt w K mg a):Ϥ P w K mg base IL 14 a.WV a.WW ["_law_desk","_law_kept","_law_cell"] (DU (M5 a) a.ln):=by
 refine T.pR.F.ok fB (λvs H Q E h=>?_) (λϹ A outer s H vs Q E hr h=>?_)
 ·(revert h;refine JY λd L A0 Z M c=>Ka λfs ps x Τ _=>?_;subst Τ)
  rfl
 ·(revert h;refine JY λd L A0 Z M c=>Q8 λfs ps x Τ hW hl q=>?_;subst Τ)
  refine(Κ _ (ag (iz (aC (aB (K:=K)) (au (ak (K:=K) (wv hr)) (pv 1) ao (λ_ _=>rfl)) ai) (iy (pv 1) ao (eK (wv hr))))
   (ag (ax (i:=3) fB.nd rfl (ς rfl) (aC bV (aq (bq T) (hr.mono (by decide)) rfl T.ay.m T.ay.F.kp T.ay.b .nil ό (aa (pv 2) (aa ai af))) ai))
   (ag (ax (i:=4) fB.nd rfl (ς rfl) (aq (nw T) (hr.mono (by decide)) rfl T.cJ.m T.cJ.F.kp T.cJ.b .nil ό (aa (pv 2) (aa ai (aa (aC (aB (K:=K)) ai (aC bV (aq (bq T) (hr.mono (by decide)) rfl T.ay.m T.ay.F.kp T.ay.b .nil ό (aa (pv 2) (aa ai af))) ai)) af)))))
   (ag (ax (i:=5) fB.nd rfl (ς rfl) (aq (vq T) (hr.mono (by decide)) rfl T.gE.m T.gE.F.kp T.gE.b .nil ό (aa (pv 2) af)))
   (ag (ax (i:=6) fB.nd rfl (ς rfl) (aC (aB (K:=K)) (au (ak (K:=K) (wv hr)) (au (ak (K:=K) (wv hr)) (pv 1) ao (λ_ _=>rfl)) (pv 3) (λ_ _=>rfl)) (aq (xI T) (hr.mono (by decide)) rfl T.i0.m T.i0.F.kp T.i0.b .nil ό (aa (pv 4) (aa (au (ak (K:=K) (wv hr)) (au (ak (K:=K) (wv hr)) (pv 1) ao (λ_ _=>rfl)) (pv 3) (λ_ _=>rfl)) af)))))
   (ag (ax (i:=7) fB.nd rfl (ς rfl) (az (aO (K:=K)) (by rfl) T.cq u8 (aa (au (ak (K:=K) (wv hr)) (au (ak (K:=K) (wv hr)) (pv 1) ao (λ_ _=>rfl)) (pv 6) (λ_ _=>rfl)) af)))
   (ag (ax (i:=8) fB.nd rfl (ς rfl) (aG (aa ao (aa (au (ak (K:=K) (wv hr)) (au (ak (K:=K) (wv hr)) (pv 1) ao (λ_ _=>rfl)) ai (λ_ _=>rfl)) (aa ao (aa (aQ (a8 (K:=K)) rfl T.cY Iv (aa (au (ak (K:=K) (wv hr)) (pv 1) ao (λ_ _=>rfl)) af)) (aa (au (ak (K:=K) (wv hr)) (au (ak (K:=K) (wv hr)) (pv 1) ao (λ_ _=>rfl)) (pv 3) (λ_ _=>rfl)) (aa (pv 4) (aa (pv 5) (aa ao af))))))))))
   (ag (aN (bf (K:=K) PySem.F.plainAttrs_list PySem.F.slot_list_append PySem.F.type_list_append cu (au (ak (K:=K) (wv hr)) (au (ak (K:=K) (wv hr)) (pv 1) ao (λ_ _=>rfl)) (pv 6) (λ_ _=>rfl)) (aa (aG (aa (aQ (a8 (K:=K)) rfl T.cY Iv (aa (pv 7) af)) (aa (pv 4) (aa (pv 5) af)))) af)))
   (ag (aN (bf (K:=K) PySem.F.plainAttrs_list PySem.F.slot_list_append PySem.F.type_list_append cu (au (ak (K:=K) (wv hr)) (pv 1) ao (λ_ _=>rfl)) (aa (bW (aa (pv 8) (aa (aq (jV T) (hr.mono (by decide)) rfl T.bO.m T.bO.F.kp T.bO.b .nil ό (aa (aG (aa ao (aa (aQ (a8 (K:=K)) rfl T.cY Iv (aa (pv 6) af)) (aa (aQ (a8 (K:=K)) rfl T.cY Iv (aa (pv 7) af)) af)))) af)) af))) af)))
   (ah (ar (aq (bU T) (hr.mono (by decide)) rfl T.aH.m T.aH.F.kp T.aH.b .nil ό (aa (pv 0) (aa (pv 8) (aa (au (ak (K:=K) (wv hr)) (au (ak (K:=K) (wv hr)) (au (ak (K:=K) (wv hr)) (pv 1) ao (λ_ _=>rfl)) (zw ud ai) (λ_ _=>rfl)) ai (λ_ _=>rfl)) af))))))))))))))) ?_)
  walk_at "r2";obtain⟨hw,pw⟩:=hW;obtain⟨j,ej,j2⟩:∃j:Nat,JG x 1 % 2=(j:Int)/\j < 2:=(Κ ((JG x 1 % 2).toNat) (by omega) (by omega))
  rw[ej];have hK:=hw.kp;refine aP (dg hK.kp (tK L _)) ?_;rw[gY,show((ps.length:Nat):Int)+1=((ps.length+1:Nat):Int) by omega];refine eM (Pm.k (k:=.inr (Α "number")) hK.kp (by show 6 < _;decide)) ?_;have g1:ϳ [L.kp] H (upd H L.kp (.dK (putK (MY L ps.length) (.inr (Α "number")) (.int ((ps.length+1:Nat):Int))))):=ϳ.upd (.head _) (iF hK.kp);have e1:upd H L.kp (.dK (putK (MY L ps.length) (.inr (Α "number")) (.int ((ps.length+1:Nat):Int)))) L.kp=some (.dK (MY L (ps.length+1))):=by rw[ae,G6]
  generalize upd H L.kp (.dK (putK (MY L ps.length) (.inr (Α "number")) (.int ((ps.length+1:Nat):Int))))=H1 at g1 e1 ⊢;have kpo:L.kp∈L.own:=L.mem (.head _);have w1:=hw.one kpo g1 (.inr λxs z=>by rw[hK.kp] at z;cases z) (hK.ai7 hw.nd (ε _ (ώ _ kpo)) g1 e1);walk_at "r3";refine(NC x 20 ((1+JG x 2 % 4).toNat) (by rw[Ph (by omega)]) (by omega) (λkey H2 s2 hkl hkc=>?_));have kok:=aff (l:=key) (by omega) (by omega) hkc;have kl:key.length<=24:=by omega
  clear hkl;walk_at "r3";refine(Κ x rfl (λwo H3 s3 hwo WF=>?_));have w3:=(w1.same s2).same s3;walk_at "r3";have K3:=w3.kp;obtain⟨er,Pa⟩:=afh c j2 key;have mj:=dM c j;refine aP (dg K3.kp (BV L _)) (aJ (.inl (.inl K3.st)) (eJ (Xk c j2)) (aP (dg K3.kp (Ad L _)) (aJ (.inl (.inl K3.mm)) (eJ (acw c j2)) (ϒ key _ rfl (by omega) ?_))));dsimp only;rw[gY,er];generalize hi:Mh (Mb c) j (N0 c j) key=i at er Pa ⊢;have afC:i < fs.length:=by rw[pw.fl];exact Pa
  obtain⟨f,hf⟩:∃f,fs[i]?=some f:=⟨_,ξ afC⟩
  obtain⟨r,Tg⟩:∃r,L.rl[i]?=some r:=⟨_,ξ (by rw[K3.lr];exact afC)⟩
  (refine ρ (K3.row i r f Tg hf) λts et pt=>?_);have lts:ts.length=f.length:=by rw[Paired.length pt,Ζ,d8]
  have YV:(L.rl.map V.ref)[i]?=some (.ref r):=by rw[μ,Tg];rfl
  have f20:=pw.f20 f (Ν hf);walk_at "r3";refine aP (dg K3.kp (mD L _)) (aJ (.inl (.inl K3.rr)) (eJ YV) (bY (.inl (.inl et)) ?_));rw[Ζ,lts];walk_at "r3";refine aP (dg K3.kp (ia L _)) (aJ (.inl (.inl K3.nm)) (eJ (j:=2) (eW (by decide))) (aP (dg K3.kp (tK L _)) (ύ _ rfl (a9 (by omega) (by omega)) (aP (dg K3.kp (ia L _)) (aJ (.inl (.inl K3.nm)) (eJ (eW (by omega))) ⟨by decide,λrq hrq=>?_⟩)))));have nrq:=w3.bad hrq;have s4:=Χ.upd (o:=.lst [.str (Α "put"),.str (S (lv c 2)),.str (Α "1"),.str (S (ϝ ((ps.length+1:Nat):Int))),.str (S (lv c j)),.str (S key),.str (S (Jq wo)),.str (Α "0")]) hrq;have e4:upd H3 rq (.lst [.str (Α "put"),.str (S (lv c 2)),.str (Α "1"),.str (S (ϝ ((ps.length+1:Nat):Int))),.str (S (lv c j)),.str (S key),.str (S (Jq wo)),.str (Α "0")]) rq=some (.lst (tx (V0::XN c ⟨ps.length+1,j,key,wo,i,f.length⟩))):=ae.trans (by rw[show Α "put"=S V0 by decide +kernel,show Α "1"=S [49] by decide +kernel,show Α "0"=S [48] by decide +kernel];rfl);generalize upd H3 rq _=H4 at s4 e4 ⊢;have w4:=w3.same s4;have K4:=w4.kp;walk_at "r3";have mr:=Ν Tg;(refine ρ (K4.row i r f Tg hf) λts4 et4 _=>?_);refine aP (dg K4.kp (mD L _)) (aJ (.inl (.inl K4.rr)) (eJ YV) ⟨.inl ⟨_,.inl (.inl et4)⟩,a9 (by omega) (by omega),by decide,λp5 hp5=>?_⟩);have n5:=w4.bad hp5;have s5:=Χ.upd (o:=.lst [.str (S (ϝ (f.length:Int))),.str (S key),.str (S (Jq wo))]) hp5;have e5:upd H4 p5 (.lst [.str (S (ϝ (f.length:Int))),.str (S key),.str (S (Jq wo))]) p5=some (.lst (tx (OC (f.length,key,wo)))):=ae;generalize upd H4 p5 _=H5 at s5 e5 ⊢;have w5:=w4.same s5;(refine ρ (w5.kp.row i r f Tg hf) λts5 et5 pt5=>?_);have axd:ts5.length=f.length:=by rw[Paired.length pt5,Ζ,d8]
  refine(Κ r rfl (ύ _ et5 (Ϡ (show _<=100 by rw[Ζ];omega) (by decide)) ?_));have ro:r∈L.own:=L.acv mr;have rb:r∈R7 L d A0:=ε _ (ώ _ ro);have g6:ϳ [r] H5 (upd H5 r (.lst (ts5.map V.ref++[.ref p5]))):=ϳ.upd (.head _) λys z=>by rw[et5] at z;cases z
  have l6:=LLs.add et5 pt5 rb n5 e5;have q6:upd H5 r (.lst (ts5.map V.ref++[.ref p5])) rq=some (.lst (tx (V0::XN c ⟨ps.length+1,j,key,wo,i,f.length⟩))):=g6.keep _ _ (s5 _ _ e4) λz=>nrq (Μ.mp z▸rb);generalize upd H5 r _=H6 at g6 l6 q6 ⊢;have w6:=w5.one ro g6 (.inl (w5.zz r (ε _ mr))) (w5.kp.ai8 w5.nd Tg hf rb g6 (f':=f++[(key,wo)]) (by rw[DV,ϖ];exact l6));have K6:=w6.kp;walk_at "r3";(refine ρ K6.pu λpp6 ep6 _=>?_);have m0:=dM c 0;have m1:=dM c 1;have okp:okP c ⟨ps.length+1,j,key,wo,i,f.length⟩:=⟨⟨by show 1<=ps.length+1;omega,by show ps.length+1<=100;omega⟩,j2,kok,kl,hwo,WF,Pa,by show f.length<=100;omega⟩
  generalize ep:(⟨ps.length+1,j,key,wo,i,f.length⟩:Wt)=p at okp q6 e4;have afD:Rj p=jn [R0,ϝ (i:Int),ϝ (f.length:Int)]:=by rw[<-ep];rfl
  refine aP (dg K6.kp (fW L _)) ⟨.inl ⟨_,.inl (.inl ep6)⟩,a9 (by omega) (by omega),a9 (by omega) (by omega),by decide,λp7 hp7=>?_⟩;have s7:=Χ.upd (o:=.lst [.str (Α "ok"),.str (S (ϝ (i:Int))),.str (S (ϝ (f.length:Int)))]) hp7;have e7:upd H6 p7 (.lst [.str (Α "ok"),.str (S (ϝ (i:Int))),.str (S (ϝ (f.length:Int)))]) p7=some (.lst (tx [R0,ϝ (i:Int),ϝ (f.length:Int)])):=ae.trans (by rw[show Α "ok"=S R0 by decide +kernel];rfl);generalize upd H6 p7 _=H7 at s7 e7 ⊢;have sh7:∀x∈[R0,ϝ (i:Int),ϝ (f.length:Int)],x.length<=1000:=λx hx=>by
   have a1:=bC (n:=i) (by omega);have a2:=bC (n:=f.length) (by omega);simp only[Θ,Ρ,ϛ] at hx;rcases hx with rfl | rfl | rfl
   ·decide
   ·omega
   ·omega
  refine(Kz p7 _ rfl (.inl (.inl e7)) sh7 (show 3<=400 by decide) (λH8 s8=>⟨by decide,λt9 ht9=>?_⟩));rw[<-afD];have s9:=Χ.upd (o:=.tup [.ref rq,.str (S (Rj p))]) ht9;have e9:upd H8 t9 (.tup [.ref rq,.str (S (Rj p))]) t9=some (.tup [.ref rq,.str (S (Rj p))]):=ae;generalize upd H8 t9 _=H9 at s9 e9 ⊢;have s69:=s7.trans (s8.trans s9);have w9:=w6.same s69;have q9:=s69 _ _ q6;(refine ρ w9.kp.pu λpp epp ppp=>?_);have lpp:pp.length=ps.length:=by rw[Paired.length ppp];unfold R4;rw[Ζ]
  refine(Κ L.Pu rfl (ύ _ epp (Ϡ (show _<=100 by rw[Ζ];omega) (by decide)) ?_));have po:L.Pu∈L.own:=L.mem (mi 4 rfl);have pb:L.Pu∈R7 L d A0:=ε _ (ώ _ po);have g10:ϳ [L.Pu] H9 (upd H9 L.Pu (.lst (pp.map V.ref++[.ref t9]))):=ϳ.upd (.head _) λys z=>by rw[epp] at z;cases z
  have q10:=Pr.add (x:=(V0::XN c p,Rj p)) epp ppp pb nrq e9 q9;have l10:upd H9 L.Pu (.lst (pp.map V.ref++[.ref t9])) L.Pu=some (.lst (pp.map V.ref++[.ref t9])):=ae;have r10:=g10.keep _ _ q9 λz=>nrq (Μ.mp z▸pb);have t10:=g10.tup _ _ e9;generalize upd H9 L.Pu _=Yn at g10 q10 l10 r10 t10 ⊢;have w10:=w9.one po g10 (.inl (w9.zz L.Pu (.head _))) (w9.kp.ai9 w9.nd pb g10 q10);have eqs:R4 c ps++[(V0::XN c p,Rj p)]=R4 c (ps++[p]):=by unfold R4;rw[ϖ];rfl
  rw[eqs] at w10;walk_at "r0";subst ep;refine aP (dg w10.kp.kp (fW L _)) (aJ (.inl (.inl l10)) (v:=.ref t9) (vD _ _) (bc (.inl (.inl t10)) rfl ?_));obtain⟨dx,XQ⟩:=w10.dk;have R3:=pw.ls;have hsz:=pw.sz;have hP:UC (M5 a) Yn A0 Z M (lv c 2) (lv c j) key wo 1 (ps.length+1) 0 j (N0 c j):=⟨w10.ce,j3 (by decide),j3 (by omega),kok,hwo,λw hw=>by have:=WF w hw;omega,⟨by decide,by decide⟩,⟨by omega,by omega⟩,by decide,by rw[pw.xs];exact wW c j2,rfl⟩
  refine(MG d rq V0 _ _ _ rfl (.inl (.inl r10)) (tJ okp) (show 7<=100 by decide) (Ab okp) (.inl (Κ (λLg H'=>Lg=[ϝ (i:Int),ϝ (f.length:Int)]/\∃ls,ϳ A0.fix Yn H'/\Gc (M5 a) H' A0 Z ((M.wr ls).put i (Ls f) (key,wo,0) (S (lv c 2)) ((ps.length+1:Nat):Int))/\ls.length=M.ls.length+1) (.put XQ hP pw.L (show((ps.length+1:Nat):Int)=M.S.T (S (lv c 2))+1 by rw[pw.Tn];omega) (by rw[pw.xs,hi]) (by rw[pw.ms,μ,hf];rfl) (show(Ls f).last=(f.length:Int) from rfl) (by omega) (by omega) (by omega) (by omega) λH' ls g C l=>⟨rfl,(ύ ls g C l)⟩) (λLg H11 hR=>?_))));(revert hR;refine Jb λΤ=>G' λls g11 C11 aj4=>?_;subst Τ);refine⟨afD,λx hx=>sh7 x (ε _ hx),(show 2<=400 by decide),λH12 s12=>q H12 _ _ _ ?_ ⟨?_,pw.put okp rfl hf rfl aj4⟩⟩
  ·have o:∀{b:Ε},b∈L.own->∀x,x∈[b]->x∈L.own++A0.fix:=λhb x hx=>by rw[Μ.mp hx];exact ώ _ hb
   exact(g1.mono (o kpo)).trans ((ϳ.of_same (s2.trans (s3.trans (s4.trans s5)))).trans ((g6.mono (o ro)).trans ((ϳ.of_same s69).trans ((g10.mono (o po)).trans ((g11.mono λb hb=>ι _ hb).trans (ϳ.of_same s12))))))
  ·rw[Ω]
   exact(w10.act g11 C11).same s12
def He (T:Txt w K mg a):Ϥ P w K mg base IL 15 a.aaX a.YL ["_law_script"] (x5 K):=by
 refine T.FG.F.ok fC (λvs H Q E h=>?_) (λϹ A outer s H vs Q E hr h=>?_)
 ·(revert h;refine sK λp ns Τ _=>?_;subst Τ)
  rfl
 ·(revert h;refine NB λp ns Τ hS hlen q=>?_;subst Τ)
  refine(Κ _ (ag (ax (i:=1) fC.nd rfl (ς rfl) (aq (vg T) (hr.mono (by decide)) rfl T.gC.m T.gC.F.kp T.gC.b .nil ό (aa (pv 0) (aa ai af))))
   (ag (ax (i:=2) fC.nd rfl (ς rfl) (aG (aa (aC (aB (K:=K)) ai (aC bV (aq (bq T) (hr.mono (by decide)) rfl T.ay.m T.ay.F.kp T.ay.b .nil ό (aa (pv 1) (aa ai af))) ai)) (aa (aC (aB (K:=K)) ai (aC bV (aq (bq T) (hr.mono (by decide)) rfl T.ay.m T.ay.F.kp T.ay.b .nil ό (aa (pv 1) (aa ai af))) ai)) af))))
   (ag (ax (i:=3) fC.nd rfl (ς rfl) (zG (gS ao (aq (zp T) (hr.mono (by decide)) rfl T.kj.m T.kj.F.kp T.kj.b .nil ό (aa (pv 1) af)) (gS ao (pv 2) (gS ao (aG (aa ai (aa (au (ak (K:=K) (wv hr)) (pv 2) ai (λ_ _=>rfl)) af))) (gS ao ai (gS ao (aG af) zF))))) rfl rfl (by simp) (by decide)))
   (ag (iz (bu ["_law_script","_law_cell","_law_many","_law_kept","_law_desk","_law_number","_law_row","_law_due","_law_letter"] ["_law_script","_law_cell","_law_many","_law_kept","_law_desk","_law_number","_law_row","_law_due","_law_letter"] (Λ D1) (by exact⟨rfl,s!"d",s!"d",s!"d",s!"d",s!"d",s!"d",s!"d",s!"d"⟩) (jW rfl T.i5 (aa (aC (aB (K:=K)) (au (ak (K:=K) (wv hr)) (pv 2) ai (λ_ _=>rfl)) (au (ak (K:=K) (wv hr)) (pv 2) ai (λ_ _=>rfl))) af)) (λC₁ s₁ H₁ f₁=>(aG af))) (iy (pv 3) ao (eK (wv hr))))
   (ag (ax (i:=4) fC.nd rfl (ς rfl) (eZ T.D5 (il T) (hr.mono (by decide)) rfl T.Aj T.eF.b .nil ό))
   (ag (aL (bH (aM (K:=K) (aq (Ct T) (hr.mono (by decide)) rfl T.m5.m T.m5.F.kp T.m5.b .nil ό (aa (pv 4) (aa (pv 3) af))) (by intro _;rfl))) (ah (ar eX)) aw)
   (ag (cE Ϫ rfl (aU (K:=K) (df (eN (K:=K)) (pv 0) (dW ai) (dW ai))) (aT (i:=5) fC.nd rfl (ς rfl)) (ah (aL (bH (aM (K:=K) (aq (D8 T) (hr.mono (by decide)) rfl T.pR.m T.pR.F.kp T.pR.b .nil ό (aa (pv 4) (aa (pv 3) (aa (pv 5) af)))) (by intro _;rfl))) (ah (ar eX)) aw)))
   (ag (aL (PW.pt (kU (aF (di (K:=K) (hU hr)) (au (ak (K:=K) (wv hr)) (pv 3) ao (λ_ _=>rfl)) (aG af) (ϸ _)) (iu (aF kZ (az (aO (K:=K)) (by rfl) T.cq u8 (aa (au (ak (K:=K) (wv hr)) (pv 3) ao (λ_ _=>rfl)) af)) ai (ϸ _))))) (ah (aL (bH (aM (K:=K) (aq (bU T) (hr.mono (by decide)) rfl T.aH.m T.aH.F.kp T.aH.b .nil ό (aa (pv 4) (aa (au (ak (K:=K) (wv hr)) (au (ak (K:=K) (wv hr)) (au (ak (K:=K) (wv hr)) (pv 3) ao (λ_ _=>rfl)) ai (λ_ _=>rfl)) ai (λ_ _=>rfl)) (aa (au (ak (K:=K) (wv hr)) (au (ak (K:=K) (wv hr)) (au (ak (K:=K) (wv hr)) (pv 3) ao (λ_ _=>rfl)) ai (λ_ _=>rfl)) ai (λ_ _=>rfl)) af)))) (by intro _;rfl))) (ah (ar eX)) aw)) aw)
   (ag (ax (i:=6) fC.nd rfl (ς rfl) (aC bV (aq (bq T) (hr.mono (by decide)) rfl T.ay.m T.ay.F.kp T.ay.b .nil ό (aa (pv 1) (aa ai af))) (az (aO (K:=K)) (by rfl) T.cq u8 (aa (au (ak (K:=K) (wv hr)) (pv 3) ao (λ_ _=>rfl)) af))))
   (ag (aL (PW.pt (kU (aF (di (K:=K) (hU hr)) (au (ak (K:=K) (wv hr)) (pv 3) ao (λ_ _=>rfl)) (aG af) (ϸ _)) (iu (aF uu (aC bV (aq (bq T) (hr.mono (by decide)) rfl T.ay.m T.ay.F.kp T.ay.b .nil ό (aa (pv 1) (aa ai af))) ai) ai (ϸ _))))) (ah (ax (i:=6) fC.nd rfl (ς rfl) (aQ (tG (K:=K)) rfl T.D7 af1 (aa (au (ak (K:=K) (wv hr)) (bf (K:=K) PySem.F.plainAttrs_str PySem.F.slot_str_split PySem.F.type_str_split jv (au (ak (K:=K) (wv hr)) (au (ak (K:=K) (wv hr)) (au (ak (K:=K) (wv hr)) (pv 3) ao (λ_ _=>rfl)) (zw ud ai) (λ_ _=>rfl)) ai (λ_ _=>rfl)) (aa ao af)) ai (λ_ _=>rfl)) af)))) aw)
   (ag (ax (i:=7) fC.nd rfl (ς rfl) (aG (aa ao af)))
   (ag (cE Ϫ rfl (aU (K:=K) (au (ak (K:=K) (wv hr)) (au (ak (K:=K) (wv hr)) (pv 3) ao (λ_ _=>rfl)) (pv 6) (λ_ _=>rfl))) (aT (i:=8) fC.nd rfl (ς rfl)) (ah (ax (i:=7) fC.nd rfl (ς rfl) (aC (aB (K:=K)) (pv 7) (pv 8)))))
   (ag (aL (bH (aM (K:=K) (aq (bU T) (hr.mono (by decide)) rfl T.aH.m T.aH.F.kp T.aH.b .nil ό (aa (pv 4) (aa (aG (aa ao (aa (aQ (a8 (K:=K)) rfl T.cY Iv (aa (pv 6) af)) (aa ao (aa ao (aa ao af)))))) (aa (aq (jV T) (hr.mono (by decide)) rfl T.bO.m T.bO.F.kp T.bO.b .nil ό (aa (pv 7) af)) af)))) (by intro _;rfl))) (ah (ar eX)) aw)
   (ag (aL (bH (aM (K:=K) (aq (bU T) (hr.mono (by decide)) rfl T.aH.m T.aH.F.kp T.aH.b .nil ό (aa (pv 4) (aa (aG (aa ao (aa (aQ (a8 (K:=K)) rfl T.cY Iv (aa (pv 6) af)) af))) (aa (aC (aB (K:=K)) ao (aQ (a8 (K:=K)) rfl T.cY Iv (aa (az (aO (K:=K)) (by rfl) T.cq u8 (aa (au (ak (K:=K) (wv hr)) (au (ak (K:=K) (wv hr)) (pv 3) ao (λ_ _=>rfl)) (pv 6) (λ_ _=>rfl)) af)) af))) af)))) (by intro _;rfl))) (ah (ar eX)) aw)
   (ag (aL (bH (aM (K:=K) (aq (bU T) (hr.mono (by decide)) rfl T.aH.m T.aH.F.kp T.aH.b .nil ό (aa (eZ T.D5 (il T) (hr.mono (by decide)) rfl T.Aj T.eF.b .nil ό) (aa (aG (aa ao (aa (aQ (a8 (K:=K)) rfl T.cY Iv (aa (pv 6) af)) af))) (aa ao af)))) (by intro _;rfl))) (ah (ar eX)) aw)
   (ag (aL (bH (aM (K:=K) (aq (bU T) (hr.mono (by decide)) rfl T.aH.m T.aH.F.kp T.aH.b .nil ό (aa (pv 4) (aa (aG (aa ao (aa (au (ak (K:=K) (wv hr)) (au (ak (K:=K) (wv hr)) (pv 3) ao (λ_ _=>rfl)) ai (λ_ _=>rfl)) (aa ao (aa ao af))))) (aa ao af)))) (by intro _;rfl))) (ah (ar eX)) aw)
   (ag (aL (PW.pt (vw (bH (aM (K:=K) (aq (bU T) (hr.mono (by decide)) rfl T.aH.m T.aH.F.kp T.aH.b .nil ό (aa (pv 4) (aa (aG (aa ao (aa ao af))) (aa ao af)))) (by intro _;rfl))) (pU (bH (aM (K:=K) (aq (bU T) (hr.mono (by decide)) rfl T.aH.m T.aH.F.kp T.aH.b .nil ό (aa (pv 4) (aa (aG (aa ao (aa ao af))) (aa ao af)))) (by intro _;rfl)))))) (ah (ar eX)) aw)
   (ah (ar (aq (bU T) (hr.mono (by decide)) rfl T.aH.m T.aH.F.kp T.aH.b .nil ό (aa (pv 4) (aa (aG (aa ao (aa (au (ak (K:=K) (wv hr)) (au (ak (K:=K) (wv hr)) (pv 3) ao (λ_ _=>rfl)) ai (λ_ _=>rfl)) af))) (aa ao af))))))))))))))))))))))) ?_)
  walk_at "s1";refine(lc p ns 0 rfl hS (by decide) ?_);generalize ns.getD (0:Int).toNat 0=c;walk_at "s3";refine⟨by decide,λmm hmm=>?_⟩;have s1:=Χ.upd (o:=.lst [.int (1+JG c 3 % 9),.int (1+JG c 4 % 9)]) hmm
  have e1:upd H mm (.lst [.int (1+JG c 3 % 9),.int (1+JG c 4 % 9)]) mm=some (.lst [.int (Ks c 0:Int),.int (Ks c 1:Int)]):=ae.trans (by
   rw[show(Ks c 0:Int)=1+JG c 3 % 9 by show(((1+JG c (3+0) % 9).toNat:Nat):Int)=_;rw[Int.add_zero];omega,show(Ks c 1:Int)=1+JG c 4 % 9 by show(((1+JG c (3+1) % 9).toNat:Nat):Int)=_;rw[show(3+1:Int)=4 from rfl];omega])
  generalize upd H mm _=H1 at s1 e1 ⊢;walk_at "s3";intro kp hkp;have s2:=Χ.upd (o:=.dK []) hkp;have e2:upd H1 kp (.dK []) kp=some (.dK []):=ae;have n2m:mm≠kp:=λz=>by rw[z,hkp] at e1;cases e1
  generalize upd H1 kp (.dK [])=H2 at s2 e2 ⊢;refine(Κ c rfl (λN H3 hN s3 e3=>aJ (.inl (.inl ((s2.trans s3) _ _ e1))) rfl ⟨by decide,λst Nk=>⟨by decide,λPu hPu=>?_⟩⟩));have s4:=Χ.upd (o:=.lst [.int 0,.int (Ks c 0:Int)]) Nk;have e4:upd H3 st (.lst [.int 0,.int (Ks c 0:Int)]) st=some (.lst [.int 0,.int (Ks c 0:Int)]):=ae;generalize upd H3 st (.lst [.int 0,.int (Ks c 0:Int)])=H4 at s4 e4 hPu ⊢;have s5:=Χ.upd (o:=.lst []) hPu;have e5:upd H4 Pu (.lst []) Pu=some (.lst []):=ae;generalize upd H4 Pu (.lst [])=H5 at s5 e5 ⊢;have k5:=(s3.trans (s4.trans s5)) _ _ e2;refine⟨k5,(ύ ([(.inr (Α "names"),.ref N),(.inr (Α "many"),.ref mm),(.inr (Α "starts"),.ref st),(.inr (Α "number"),.int 0),(.inr (Α "puts"),.ref Pu)]) rfl (by show 5<=15;decide) ?_)⟩;have F1:L2.Fr H H1 [mm]:=Fr.add Fr.nil (M9.refl _) hmm s1.Kk ⟨_,e1⟩;have F2:=F1.add s1.Kk hkp s2.Kk ⟨_,e2⟩;have F3:=F2.add (s1.trans s2).Kk hN s3.Kk ⟨_,e3⟩;have F4:=F3.add (s1.trans (s2.trans s3)).Kk Nk s4.Kk ⟨_,e4⟩;have F5:=F4.add (s1.trans (s2.trans (s3.trans s4))).Kk hPu s5.Kk ⟨_,e5⟩;have s05:=s1.trans (s2.trans (s3.trans (s4.trans s5)));clear F1 F2 F3 F4;rw[show O9 [] [(Iu (Α "names"),V.ref N),(Iu (Α "many"),V.ref mm),(Iu (Α "starts"),V.ref st),(Iu (Α "number"),V.int 0),(Iu (Α "puts"),V.ref Pu)]=[(Iu (Α "names"),V.ref N),(Iu (Α "many"),V.ref mm),(Iu (Α "starts"),V.ref st),(Iu (Α "number"),V.int 0),(Iu (Α "puts"),V.ref Pu)] from rfl];have g6:ϳ [kp] H5 (upd H5 kp (.dK [(.inr (Α "names"),.ref N),(.inr (Α "many"),.ref mm),(.inr (Α "starts"),.ref st),(.inr (Α "number"),.int 0),(.inr (Α "puts"),.ref Pu)])):=ϳ.upd (.head _) (iF k5);have e6:upd H5 kp (.dK [(.inr (Α "names"),.ref N),(.inr (Α "many"),.ref mm),(.inr (Α "starts"),.ref st),(.inr (Α "number"),.int 0),(.inr (Α "puts"),.ref Pu)]) kp=some (.dK [(.inr (Α "names"),.ref N),(.inr (Α "many"),.ref mm),(.inr (Α "starts"),.ref st),(.inr (Α "number"),.int 0),(.inr (Α "puts"),.ref Pu)]):=ae;have F6:=F5.Kk (M9.wr (b:=kp) (o:=.dK [(.inr (Α "names"),.ref N),(.inr (Α "many"),.ref mm),(.inr (Α "starts"),.ref st),(.inr (Α "number"),.int 0),(.inr (Α "puts"),.ref Pu)]));generalize upd H5 kp (.dK _)=H6 at g6 e6 F6 ⊢;have nk:∀b,b∈[Pu,st,N,mm]->b∉[kp]:=λb hb z=>by
   have n5:=F5.nd;simp only[Ϯ,Θ,Ρ,ϛ,ads] at n5 hb z
   grind
  have e6m:=g6.keep _ _ ((s2.trans (s3.trans (s4.trans s5))) _ _ e1) (nk mm (mi 3 rfl));have e6n:=g6.keep _ _ ((s4.trans s5) _ _ e3) (nk N (mi 2 rfl));have e6s:=g6.keep _ _ (s5 _ _ e4) (nk st (mi 1 rfl));have e6p:=g6.keep _ _ e5 (nk Pu (mi 0 rfl));have s06:Χ H H6:=λb o hb=>g6.keep _ _ (s05 _ _ hb) λz=>by rw[Μ.mp z,F5.no kp (mi 3 rfl)] at hb;cases hb
  clear e1 e2 e3 e4 e5 k5 hmm hkp hN Nk hPu s1 s2 s3 s4 s5 g6 nk n2m F5 s05;have mb0:=dM c 0;have mb1:=dM c 1;walk_at "s3";refine aJ (.inl (.inl e6m)) rfl (aJ (.inl (.inl e6m)) rfl ?_);rw[gY,show(Ks c 0:Int)+(Ks c 1:Int)=((Ks c 0+Ks c 1:Nat):Int) by omega];refine(Jw _ rfl (by omega) (by omega) ?_);rw[ϵ];refine l8 (ζ (show Ks c 0+Ks c 1<=18 by omega) (by decide)) (λD i ys H'=>∃rl,KM H6 H' D ys i rl) (λD hD=>⟨[],KM.zero hD⟩) (λD i ys H' _ zz=>X3 zz λrl h=>⟨h.lst,by rw[h.eq,Ζ,h.lr];exact Φ _⟩) (λD i ys H' hD hi ⟨rl,h⟩ Qe qe=>?_) (λR ys H7 hR zz=>X3 zz λrl h=>?_)
  ·walk_at "s"
   refine⟨by decide,λr hr=>?_⟩;obtain⟨a1,a2⟩:=h.succ hr;exact qe _ _ a1 ⟨_,a2⟩
  have e7k:=h.same _ _ e6;obtain⟨L,eL⟩:∃L:KL,L=⟨kp,N,mm,st,Pu,R,rl⟩:=⟨_,rfl⟩
  refine eM (Pm.k (k:=.inr (Α "rows")) e7k (by show 5 < _;decide)) ?_;rw[show putK [(Iu (Α "names"),V.ref N),(Iu (Α "many"),V.ref mm),(Iu (Α "starts"),V.ref st),(Iu (Α "number"),V.int 0),(Iu (Α "puts"),V.ref Pu)] (Iu (Α "rows")) (V.ref R)=MY L 0 by rw[eL];rfl];have g8:ϳ [kp] H7 (upd H7 kp (.dK (MY L 0))):=ϳ.upd (.head _) (iF e7k);have e8:upd H7 kp (.dK (MY L 0)) kp=some (.dK (MY L 0)):=ae;have F8:=F6.adds (R::rl) s06.Kk h.fr.nd h.fr.no (h.same.Kk.trans (M9.wr (b:=kp) (o:=.dK (MY L 0)))) λb hb=>M9.wr b (h.fr.yes b hb);generalize upd H7 kp (.dK (MY L 0))=H8 at g8 e8 F8 ⊢;have so:(R::rl++[Pu,st,N,kp,mm]).Perm L.own:=by rw[eL];exact jA λb=>by simp only[KL.own,Lr,Kw,LY,ii];omega
  have F9:=F8.perm so;have nk:∀b,b∈Pu::st::N::mm::R::rl->b∉[kp]:=λb hb z=>by
   have n8:=F8.nd;rw[Μ.mp z] at hb;simp only[ii,Ϯ,ϴ,ϑ,Θ,Ρ,ϛ,ads] at n8 hb
   grind
  have mr:∀r∈rl,r∈Pu::st::N::mm::R::rl:=λr hr=>.tail _ (.tail _ (.tail _ (.tail _ (.tail _ hr))));have K8:∀B,K5 H8 B L c 0 (ϥ (Ks c 0+Ks c 1) []) []:=λB=>by
   refine K5.empty (B:=[]) ?_;subst eL
   exact⟨e8,g8.keep _ _ (h.same _ _ e6n) (nk N (mi 2 rfl)),g8.keep _ _ (h.same _ _ e6m) (nk mm (mi 3 rfl)),g8.keep _ _ (h.same _ _ e6s) (nk st (mi 1 rfl)),(g8.keep _ _ h.lst (nk R (mi 4 rfl))).trans (by rw[h.eq]),by rw[h.lr,FB],λi r f h1 h2=>by
    rw[Je (Ν h2)]
    exact(Κ ([]) (g8.keep _ _ (h.emp r (Ν h1)) (nk r (mr r (Ν h1)))) (.nil)),(Κ ([]) (g8.keep _ _ (h.same _ _ e6p) (nk Pu (mi 0 rfl))) (.nil))⟩
  have s08:Χ H H8:=λb o hb=>g8.keep _ _ (h.same _ _ (s06 _ _ hb)) λz=>by rw[Μ.mp z,F6.no kp (mi 3 rfl)] at hb;cases hb
  have ekp:L.kp=kp:=by rw[eL]
  rw[<-ekp];clear e6 e6m e6n e6s e6p g8 e8 F8 F6 s06 h nk mr so e7k hR eL;walk_at "s3";intro d dx hd UT ndx;refine(Ky d dx rfl ae rfl ?_);have s9:Χ H8 (upd (upd (upd H8 dx (.own d)) d (.ins a.ln dx [])) d (.ins a.ln dx (OH .cr))):=cw hd UT (ϳ.upd (.head _) λys z=>by rw[ae] at z;cases z);have e9:upd (upd (upd H8 dx (.own d)) d (.ins a.ln dx [])) d (.ins a.ln dx (OH .cr)) d=some (.ins a.ln dx (OH .cr)):=ae;generalize upd (upd (upd H8 dx (.own d)) d (.ins a.ln dx [])) d (.ins a.ln dx (OH .cr))=H9 at s9 e9 ⊢;have ndo:d∉L.own:=λz=>by
   obtain⟨o,e⟩:=F9.yes d z;rw[hd] at e;cases e
  walk_at "s3";refine(Ov d dx L c _ rfl e9 ((K8 _).same s9) rfl F9.nd ⟨ndo,λYn A0 Z M g10 aae W=>(Κ true (by rw[gI]) ?_)⟩);rw[Υ (by decide)];have s09:=s08.trans s9;have afF:GT K Yn p (ns.map V.int):=((Scr.of (A:=d::A0.fix) hS λb hb=>(Θ.mp hb).elim (λz=>by rw[z];exact aV s08 hd) λz=>aV s09 (aae b z)).Ji ((ϳ.of_same s09).trans (g10.mono λb hb=>by rw[Μ.mp hb];exact .head _))).sq;clear e9 K8 F9 s08 s9 s09 aae g10 hd UT ndx hS ndo;walk_at "s3";refine uy afF λsl hsl=>?_;rw[show(1:Int)=((1:Nat):Int) from rfl,show(21:Int)=((1+20:Nat):Int) from rfl,Dp,<-Ul,<-aas];obtain⟨ks,hks⟩:∃ks,(ns.drop 1).take 20=ks:=⟨_,rfl⟩
  rw[hks];have lks:ks.length<=20:=by rw[<-hks,Ϭ];omega
  have nsl:sl∉L.own++A0.fix:=λz=>W.hw.bad hsl (ε _ z);have s11:=Χ.upd (o:=.lst (ks.map V.int)) hsl;have e11:upd Yn sl (.lst (ks.map V.int)) sl=some (.lst (ks.map V.int)):=ae;generalize upd Yn sl (.lst (ks.map V.int))=H11 at s11 e11 ⊢;refine bL (xs:=ks.map V.int) (.inl (.inl e11)) (cv (xs:=ks.map V.int) (λi σ H'=>H' sl=some (.lst (ks.map V.int))/\(∃M fs ps,ps.length=i/\W84 (M5 a) a.ln H' d L A0 Z M c fs ps)/\∃v,σ=[some (.ref p),some (.int c),some (.ref mm),some (.ref L.kp),some (.ref d),v,none,none,none]) ⟨e11,(RH _ _ ([]) rfl ⟨W.hw.same s11,W.pw⟩),(MF none rfl)⟩ (λi σ H' _ h=>.inl (.inl h.1)) ?_ ?_)
  ·rintro i y σ H' hy ⟨es,⟨M,fs,ps,ZY,W⟩,v,rfl⟩
   rw[μ] at hy;(refine ρ (Ϙ.mp hy) λx hx Τ=>?_;subst Τ);have hi:i < ks.length:=(Ο.mp hx).1;walk_at "s";refine(Nf d L A0 Z M c (lc fs ps x rfl W (by omega) (λH2 M2 fs2 p2 g2 W2=>(Κ true (by rw[gI]) ?_))));rw[Υ (by decide)];exact⟨g2.keep _ _ es nsl,(RH M2 fs2 _ (by rw[Ω,ZY];rfl) W2)⟩
  rintro σ H12 ⟨es,⟨M1,fs,ps,ZY,hw,pw⟩,v,rfl⟩
  rw[Ζ] at ZY;clear W es e11 s11 nsl hsl afF hks;show Rz { nx:=λx H'=>Q V.cr H',rt:=Q } _ _;walk_at "s3";have rest:∀H',Χ H12 H'->Rz { nx:=λx H'=>Q V.cr H',rt:=Q } [some (V.ref p),some (V.int c),some (V.ref mm),some (V.ref L.kp),some (V.ref d),v,none,none,none] H':=λH13 s13=>by
   have hw:=hw.same s13;clear s13;walk_at "s3";refine aP (dg hw.kp.kp (mD L _)) (bY (.inl (.inl hw.kp.rr)) ?_);rw[Ζ,hw.kp.lr,pw.fl];obtain⟨r0,er0,Tg⟩:∃r0:Nat,JG c 5 % ((Ks c 0+Ks c 1:Nat):Int)=(r0:Int)/\r0 < Ks c 0+Ks c 1:=by
    have a1:=NT (JG c 5) (b:=((Ks c 0+Ks c 1:Nat):Int)) (by omega);have a2:=Mf (JG c 5) (b:=((Ks c 0+Ks c 1:Nat):Int)) (by omega);exact(Κ ((JG c 5 % ((Ks c 0+Ks c 1:Nat):Int)).toNat) (by omega) (by omega))
   refine(ύ _ rfl (by omega) ?_);rw[er0];walk_at "s3";have YW:∀(r:Nat) H',r < Ks c 0+Ks c 1->Χ H13 H'->Rz { nx:=λx H'=>Q V.cr H',rt:=Q } [some (V.ref p),some (V.int c),some (V.ref mm),some (V.ref L.kp),some (V.ref d),v,some (.int (r:Int)),none,none] H':=λr YT hr UG=>by
    have hw:=hw.same UG;clear UG;walk_at "s3";refine⟨by decide,λp0 Pd=>?_⟩;have s15:=Χ.upd (o:=.lst [.str (Α "ok")]) Pd;have e15:upd YT p0 (.lst [.str (Α "ok")]) p0=some (.lst (tx [R0])):=ae.trans (by rw[show Α "ok"=S R0 by decide +kernel];rfl);generalize upd YT p0 (.lst [.str (Α "ok")])=H15 at s15 e15 ⊢;have hw:=hw.same s15;have K15:=hw.kp;have hrl:r < fs.length:=by rw[pw.fl];exact hr
    obtain⟨f,hf⟩:∃f,fs[r]?=some f:=⟨_,ξ hrl⟩
    obtain⟨rr,XO⟩:∃rr,L.rl[r]?=some rr:=⟨_,ξ (by rw[K15.lr];exact hrl)⟩
    (refine ρ (K15.row r rr f XO hf) λts et pt=>?_);have YV:(L.rl.map V.ref)[r]?=some (.ref rr):=by rw[μ,XO];rfl
    have f20:=pw.f20 f (Ν hf);have okf:=pw.okf f (Ν hf);have hmr:M1.Ms[r]?=some (Ls f):=by rw[pw.ms,μ,hf];rfl
    walk_at "s3";have acG:∀i,(((MK f).take i).flatMap OC).length<=300:=λi=>by
     rw[OY];have:(((MK f).take i).map λx=>(OC x).length)=((MK f).take i).map λ_=>3:=im λx _=>rfl;rw[this,Zb,U0,Ϭ,d8];omega
    refine aP (dg K15.kp (mD L _)) (aJ (.inl (.inl K15.rr)) (eJ YV) (bL (xs:=ts.map V.ref) (.inl (.inl et)) (cv (xs:=ts.map V.ref) (λi σ H'=>Χ H15 H'/\∃pi v8,H' pi=some (.lst (tx (R0::((MK f).take i).flatMap OC)))/\σ=[some (V.ref p),some (V.int c),some (V.ref mm),some (V.ref L.kp),some (V.ref d),v,some (V.int (r:Int)),some (V.ref pi),v8]) ⟨Χ.refl _,(gl p0 none e15 rfl)⟩ (λi σ H' _ h=>.inl (.inl (h.1 _ _ et))) ?_ ?_)))
    ·rintro i y σ H' hy ⟨s',pi,v8,ep,rfl⟩
     rw[μ] at hy;(refine ρ (Ϙ.mp hy) λt ht Τ=>?_;subst Τ);(refine ϭ (Paired.aeX pt ht) λx hx _ ex=>?_);rw[μ] at hx;(refine ρ (Ϙ.mp hx) λy hy Τ=>?_;subst Τ);walk_at "s";have b1:=acG i;refine lV (.inl (.inl ep)) (.inl (.inl (s' _ _ ex))) (ζ (show _<=1000 by unfold tx;rw[Ζ,Ζ,Ψ];show _+3<=_;omega) (by decide)) λp2 US=>⟨s'.trans (Χ.upd US),(Κ p2 (ae.trans ?_) rfl)⟩
     rw[bi,hy,O0,OZ];unfold tx;rw[<-ϖ];simp
    rintro σ H16 ⟨s16,pi,v8,ep,rfl⟩
    have lts:ts.length=f.length:=by rw[Paired.length pt,Ζ,d8]
    rw[Ζ,lts,ϩ (by rw[d8];exact Φ _)] at ep;have hw:=hw.same s16;have b20:=acG f.length;rw[ϩ (by rw[d8];exact Φ _)] at b20;clear s16 et pt e15 K15 acG;show Rz { nx:=λx H'=>Q V.cr H',rt:=Q } _ _;walk_at "s3";refine⟨a9 (by omega) (by omega),by decide,λq1 hq1=>?_⟩;have s17:=Χ.upd (o:=.lst [.str (Α "read"),.str (S (ϝ (r:Int))),.str (Α "0"),.str (Α "1000"),.str (Α "yes")]) hq1;have e17:upd H16 q1 (.lst [.str (Α "read"),.str (S (ϝ (r:Int))),.str (Α "0"),.str (Α "1000"),.str (Α "yes")]) q1=some (.lst (tx [reT,ϝ (r:Int),[48],[49,48,48,48],yeT])):=ae.trans (by rw[show Α "read"=S reT by decide +kernel,show Α "0"=S [48] by decide +kernel,show Α "1000"=S [49,48,48,48] by decide +kernel,show Α "yes"=S yeT by decide +kernel];rfl);generalize upd H16 q1 _=H17 at s17 e17 ⊢;have sh:=BZ okf (by omega);refine(Kz pi _ rfl (.inl (.inl (s17 _ _ ep))) sh (by rw[Ψ];omega) (λH18 s18=>?_));have hw:=hw.same (s17.trans s18);obtain⟨dk,XQ⟩:=hw.dk;refine(MG d q1 reT _ _ _ rfl (.inl (.inl (s18 _ _ e17))) (λx hx=>(Θ.mp hx).elim (λz=>by rw[z];decide) λhx=>mE (by omega) (by decide) x hx) (show 4<=100 by decide) (DX (by omega)) (.inl (Κ (λLg H'=>Lg=(MK f).flatMap OC/\Χ H18 H') (.read XQ hw.ce hmr (by omega) okf λH' s'=>⟨rfl,s'⟩) (λLg H19 hR=>?_))));obtain⟨rfl,s19⟩:=hR;refine⟨rfl,λx hx=>sh x (ε _ hx),by omega,λH20 s20=>(Κ true (by rw[gI]) ?_)⟩;rw[Υ (by decide)];have hw:=hw.same (s19.trans s20);clear s17 e17 s18 s19 s20 XQ ep;walk_at "s3";have NP:Α "front"=S NQ:=by decide +kernel
    have sr2:∀{r:Nat},r < 10 ^ 12->∀x∈[NQ,ϝ (r:Int)],x.length<=1000:=λhr x hx=>(Θ.mp hx).elim (λz=>by rw[z];decide) λhx=>mE hr (by decide) x hx;refine⟨a9 (by omega) (by omega),by decide,λq2 hq2=>?_⟩;rw[NP];have s21:=Χ.upd (o:=.lst (tx [NQ,ϝ (r:Int)])) hq2;have e21:upd H20 q2 (.lst (tx [NQ,ϝ (r:Int)])) q2=some (.lst (tx [NQ,ϝ (r:Int)])):=ae;rw[show[V.str (S NQ),V.str (S (ϝ (r:Int)))]=tx [NQ,ϝ (r:Int)] from rfl];generalize upd H20 q2 (.lst (tx [NQ,ϝ (r:Int)]))=H21 at s21 e21 ⊢;have hw:=hw.same s21;(refine ρ (hw.kp.row r rr f XO hf) λts' et pt=>?_);have ake:ts'.length=f.length:=by rw[Paired.length pt,Ζ,d8]
    refine aP (dg hw.kp.kp (mD L _)) (aJ (.inl (.inl hw.kp.rr)) (eJ YV) (bY (.inl (.inl et)) ?_));rw[Ζ,ake];have axq:=bC (n:=f.length) (by omega);refine(ύ _ rfl (a9 (by omega) (by omega)) (ύ ([111,107,59]) (s!"d") (ζ (show 3+_<=100 by omega) (by decide)) ?_));rw[G8];obtain⟨dk,XQ⟩:=hw.dk;refine(MG d q2 NQ _ _ _ rfl (.inl (.inl e21)) (sr2 (by omega)) (show 1<=100 by decide) (j4 (by omega)) (.inl (Κ (λLg H'=>Lg=[ϝ (f.length:Int)]/\Χ H21 H') (.front XQ hw.ce hmr (show(Ls f).last=(f.length:Int) from rfl) (by omega) λH' s'=>⟨rfl,s'⟩) (λLg H22 hR=>?_))));obtain⟨rfl,s22⟩:=hR;refine⟨rfl,mE (by omega) (by decide),(show 1<=400 by decide),λH23 s23=>(Κ true (by rw[gI]) ?_)⟩;rw[Υ (by decide)];have hw:=hw.same (s22.trans s23);clear s21 e21 s22 s23 XQ et pt;walk_at "s3";intro d2 TB hd2 YU akf;refine(Kz d2 TB rfl ae rfl (a9 (by omega) (by omega)) ⟨by decide,λq3 hq3=>?_⟩);have s24:Χ H23 (upd (upd (upd H23 TB (.own d2)) d2 (.ins a.ln TB [])) d2 (.ins a.ln TB (OH .cr))):=cw hd2 YU (ϳ.upd (.head _) λys z=>by rw[ae] at z;cases z);have e24:upd (upd (upd H23 TB (.own d2)) d2 (.ins a.ln TB [])) d2 (.ins a.ln TB (OH .cr)) d2=some (.ins a.ln TB (OH .cr)):=ae;generalize upd (upd (upd H23 TB (.own d2)) d2 (.ins a.ln TB [])) d2 (.ins a.ln TB (OH .cr))=H24 at s24 e24 hq3 ⊢;rw[NP,show[V.str (S NQ),V.str (S (ϝ (r:Int)))]=tx [NQ,ϝ (r:Int)] from rfl];have s25:=Χ.upd (o:=.lst (tx [NQ,ϝ (r:Int)])) hq3;have e25:upd H24 q3 (.lst (tx [NQ,ϝ (r:Int)])) q3=some (.lst (tx [NQ,ϝ (r:Int)])):=ae;generalize upd H24 q3 (.lst (tx [NQ,ϝ (r:Int)]))=H25 at s25 e25 ⊢;refine(MG d2 q3 NQ _ _ (jn [YK,nsT,RA]) (by rw[show Α "no;NoSuch;cellar"=S (jn [YK,nsT,RA]) by decide +kernel]) (.inl (.inl e25)) (sr2 (by omega)) (show 1<=100 by decide) (j4 (by omega)) (.inr (Kz _ RA (.cr (s25 _ _ e24)) (.inl rfl) (by decide) rfl (λH26 s26=>(Κ true (by rw[gI]) ?_)))));rw[Υ (by decide)];have hw:=hw.same (s24.trans (s25.trans s26));clear s24 e24 s25 e25 s26 hd2 YU akf hq3;walk_at "s3";have oks:Α "ok"=S (jn [R0]):=by decide +kernel
    refine aP (dg hw.kp.kp (ia L _)) (aJ (.inl (.inl hw.kp.nm)) (v:=.str (S (lv c 3))) (aW (by decide) (eW (i:=3) (by decide))) ⟨by decide,λq4 hq4=>?_⟩);rw[Ff,oks];have s27:=Χ.upd (o:=.lst (tx (RA::[UD c].flatMap N1))) hq4;have e27:upd H26 q4 (.lst (tx (RA::[UD c].flatMap N1))) q4=some (.lst (tx (RA::[UD c].flatMap N1))):=ae;generalize upd H26 q4 (.lst (tx (RA::[UD c].flatMap N1)))=H27 at s27 e27 ⊢;have hw:=hw.same s27;obtain⟨dk,XQ⟩:=hw.dk;refine(MG d q4 RA _ _ _ rfl (.inl (.inl e27)) (yJ c) (show 3<=100 by decide) (Ac (λx hx=>((Ag c).each x hx).2.1.2) (show 1<=3 by decide)) (.inl (Κ (λLg H'=>Lg=[]/\∃A Z ls,H' d=some (.ins a.ln dk (OH (.ref A.c)))/\ϳ [d] H27 H'/\Gc (M5 a) H' A Z ⟨[UD c],[NE],OG,ls⟩/\(∀b∈A.fix,H27 b=none)/\ls.length=1) (.SX XQ (Ag c) (show 1<=3 by decide) λA Z H' ls e f g C l=>⟨rfl,(IN A Z ls e g C f l)⟩) (λLg H28 hR=>?_))));(revert hR;refine Jb λΤ=>RG λA2 Z2 ls ed g28 C28 hf2 R3=>?_;subst Τ);refine⟨rfl,(by decide),(by decide),λH29 s29=>(Κ true (by rw[gI]) ?_)⟩;rw[Υ (by decide)];have K29:=(hw.kp.Ji g28 (λb hb=>by rw[Μ.mp hb];exact .head _) λb hb z=>hw.do' (Μ.mp z▸hb)).same s29;have C29:=C28.same s29;have acH:=s29 _ _ ed;have rs1:A2.rs.length=1:=C29.st.len;clear hw XQ s27 e27 g28 C28 s29 ed hq4;walk_at "s3";rw[NP,show Α "0"=S (ϝ ((0:Nat):Int)) by decide +kernel,show Α "1"=S (ϝ ((1:Nat):Int)) by decide +kernel,show Α "ok;0"=S (jn [R0,ϝ ((0:Nat):Int)]) by decide +kernel,show Α "no;NoSuch;1"=S (jn [YK,nsT,ϝ ((1:Nat):Int)]) by decide +kernel,show[V.str (S NQ),V.str (S (ϝ ((0:Nat):Int)))]=tx [NQ,ϝ ((0:Nat):Int)] from rfl,show[V.str (S NQ),V.str (S (ϝ ((1:Nat):Int)))]=tx [NQ,ϝ ((1:Nat):Int)] from rfl];refine⟨by decide,λq5 hq5=>?_⟩;have s30:=Χ.upd (o:=.lst (tx [NQ,ϝ ((0:Nat):Int)])) hq5;have e30:upd H29 q5 (.lst (tx [NQ,ϝ ((0:Nat):Int)])) q5=some (.lst (tx [NQ,ϝ ((0:Nat):Int)])):=ae;generalize upd H29 q5 (.lst (tx [NQ,ϝ ((0:Nat):Int)]))=H30 at s30 e30 ⊢;refine(MG d q5 NQ _ _ _ rfl (.inl (.inl e30)) (sr2 (by decide)) (show 1<=100 by decide) (j4 (r:=0) (by decide)) (.inl (Κ (λLg H'=>Lg=[ϝ ((0:Nat):Int)]/\Χ H30 H') (.front (s30 _ _ acH) (C29.same s30) (m:=NE) rfl (show NE.last=((0:Nat):Int) from rfl) (by decide) λH' s'=>⟨rfl,s'⟩) (λLg H31 hR=>?_))));obtain⟨rfl,s31⟩:=hR;refine⟨rfl,mE (by decide) (by decide),(show 1<=400 by decide),λH32 s32=>(Κ true (by rw[gI]) ?_)⟩;rw[Υ (by decide)];refine⟨by decide,λq6 hq6=>?_⟩;have s33:=Χ.upd (o:=.lst (tx [NQ,ϝ ((1:Nat):Int)])) hq6;have e33:upd H32 q6 (.lst (tx [NQ,ϝ ((1:Nat):Int)])) q6=some (.lst (tx [NQ,ϝ ((1:Nat):Int)])):=ae;generalize upd H32 q6 (.lst (tx [NQ,ϝ ((1:Nat):Int)]))=H33 at s33 e33 ⊢;have sa:=s30.trans (s31.trans (s32.trans s33));refine(MG d q6 NQ _ _ _ rfl (.inl (.inl e33)) (sr2 (by decide)) (show 1<=100 by decide) (j4 (r:=1) (by decide)) (.inr (Kz _ (ϝ ((1:Nat):Int)) (.nor (sa _ _ acH) (C29.same sa) (by rw[rs1];exact Φ _) (by decide)) (.inr (ύ 1 (by decide) rfl rfl)) (s!"d") rfl (λH34 s34=>(Κ true (by rw[gI]) ?_)))));rw[Υ (by decide)];have sb:=sa.trans s34;have K34:=K29.same sb;have C34:=C29.same sb;have akm:=sb _ _ acH;walk_at "s0";refine aP (dg K34.kp (ia L _)) (aJ (.inl (.inl K34.nm)) (v:=.str (S (lv c 2))) (aW (by decide) (eW (i:=2) (by decide))) ⟨by decide,λq7 hq7=>?_⟩);rw[show Α "hail"=S Xj by decide +kernel,show[V.str (S Xj),V.str (S (lv c 2))]=tx [Xj,lv c 2] from rfl,show Α "ok;1;0"=S (jn [R0,[49],[48]]) by decide +kernel];have s35:=Χ.upd (o:=.lst (tx [Xj,lv c 2])) hq7;have e35:upd H34 q7 (.lst (tx [Xj,lv c 2])) q7=some (.lst (tx [Xj,lv c 2])):=ae;generalize upd H34 q7 (.lst (tx [Xj,lv c 2]))=H35 at s35 e35 ⊢;refine(MG d q7 Xj _ _ _ rfl (.inl (.inl e35)) (λx hx=>?_) (show 1<=100 by decide) (uU (.inr (.inl ⟨s!"d",rfl⟩)) (.inr (.inr (.inr ⟨rfl,rfl⟩)))) (.inl (Κ (λLg _=>Lg=[[49],[48]]) (.Le (s35 _ _ akm) (C34.same s35) (j3 (by decide)) rfl (by show ls.length<=4000;omega) (by show 0<=100000;decide) λ_ _ _ _ _=>rfl) (λLg H36 hR=>?_))))
    ·rcases Θ.mp hx with rfl | hx
     ·decide
     ·rw[Μ.mp hx];exact dN
    ·subst hR
     exact⟨rfl,(by decide),(by decide),λH37 _=>q H37⟩
   refine aP (dg hw.kp.kp (fW L _)) ⟨by decide,λe1 he1=>?_⟩;have UG:=Χ.upd (o:=.lst []) he1;have e14:upd H13 e1 (.lst []) e1=some (.lst []):=ae;generalize upd H13 e1 (.lst [])=YT at UG e14 ⊢;have K14:=(hw.same UG).kp;refine Af K14.pu pw.ok e14 (Κ _ rfl ?_);obtain rfl | ⟨qs,pz,epz⟩:=List.eq_nil_or_concat ps
   ·exact YW r0 _ Tg UG
   ·rw[List.concat_eq_append] at epz
    subst epz;rw[δ (by simp)]
    split
    ·(refine ρ K14.pu λpp epp ppp=>?_)
     have akp:R4 c (qs++[pz])=R4 c qs++[(V0::XN c pz,Rj pz)]:=by unfold R4;rw[ϖ];rfl
     rw[akp] at ppp;(refine RJ (tL ppp) λas' t0 Τ=>G' λrq _ et _=>?_;subst Τ);have okz:=pw.ok pz (ι _ (.head _));have r1:=okz.r;have l1:=bC (n:=pz.r) (by omega);have l2:=bC (n:=pz.pl) (by have:=okz.pl;omega);have l3:=DS [R0,ϝ (pz.r:Int),ϝ (pz.pl:Int)];refine aP (dg K14.kp (fW L _)) (aJ (.inl (.inl epp)) (v:=.ref t0) (by rw[ϖ];exact vD _ _) (bc (.inl (.inl et)) rfl ⟨trivial,(Κ (Rj pz) rfl (ύ 59 (s!"d") ?_ (λl hl=>?_)))⟩))
     ·show(jn _).length<=_
      simp only[ο,Ja,am,UZ,Ψ,ϕ,R0] at l3 ⊢;omega
     ·rw[show ϡ 59 (Rj pz)=[R0,ϝ (pz.r:Int),ϝ (pz.pl:Int)].map gd from tH _]
      exact aJ (.inl (.inl ae)) (v:=.str (S (ϝ (pz.r:Int)))) (aW (by decide) (show some (V.str (S (gd (ϝ (pz.r:Int)))))=_ by rw[DW])) (ύ pz.r (by omega) rfl (YW pz.r _ r1 (UG.trans (Χ.upd hl))))
    ·exact YW r0 _ Tg UG
  refine aP (dg hw.kp.kp (fW L _)) ⟨by decide,λe0 he0=>?_⟩;have s13:=Χ.upd (o:=.lst []) he0;have e13:upd H12 e0 (.lst []) e0=some (.lst []):=ae;generalize upd H12 e0 (.lst [])=H13 at s13 e13 ⊢;have hw:=hw.same s13;have K13:=hw.kp;refine Af K13.pu pw.ok e13 (Κ _ rfl ?_);cases ps with
  | nil=>exact rest _ s13
  | cons p0 pr=>
   rw[δ (by rfl)];(refine ρ K13.pu λpp epp ppp=>?_);have lpp:pp.length=(p0::pr).length:=by rw[Paired.length ppp];unfold R4;rw[Ζ]
   refine aP (dg K13.kp (fW L _)) (bY (.inl (.inl epp)) ?_);rw[Df,Ζ,lpp];refine(Κ _ rfl ?_)
   by_cases h9:(p0::pr).length < 9
   ·rw[δ (by simp only[wn];omega)]
    cases ppp with
    | cons Pd r=>
     rename_i t0 tr
     (revert Pd;refine G' λrq nrq et eq=>?_);have afI:Wd (J9 V.ref (t0::tr)) 0=some (.ref t0):=aW (by decide) rfl;refine aP (dg K13.kp (fW L _)) (aJ (.inl (.inl epp)) afI (bc (.inl (.inl et)) rfl (aP (dg K13.kp (fW L _)) (aJ (.inl (.inl epp)) afI (bc (.inl (.inl et)) rfl ?_)))));obtain⟨dk,XQ⟩:=hw.dk;have ok0:=pw.ok p0 (.head _);have n0:=pw.n0 p0 rfl;have j0:=ok0.j;have m00:=ok0.num;have r00:=ok0.r;have p00:=ok0.pl;have eP:M1.S.P (S (lv c 2))=(p0::pr).map λp=>((p.r:Int),(p.pl:Int)):=by rw[pw.P,BX (by rw[Ζ];omega)]
     have hP:UC (M5 a) H13 A0 Z M1 (lv c 2) (lv c p0.j) p0.key p0.wo 1 p0.num 0 p0.j (N0 c p0.j):=⟨hw.ce,j3 (by decide),j3 (by omega),ok0.key,ok0.wo,λw hw=>by have:=ok0.wl w hw;omega,⟨by decide,by decide⟩,⟨m00.1,by omega⟩,by decide,by rw[pw.xs];exact wW c j0,rfl⟩
     refine(MG d rq V0 (XN c p0) (rqV c p0) (Rj p0) rfl (.inl (.inl eq)) (tJ ok0) (show 7<=100 by decide) (Ab ok0) (.inl (Κ (λLg H'=>Lg=[ϝ (p0.r:Int),ϝ (p0.pl:Int)]/\Χ H13 H') (.known XQ hP pw.L (i:=0) (r:=p0.r) (pl:=p0.pl) (by rw[pw.Tn,eP,Ζ,n0];omega) (by rw[eP];rfl) (by omega) (by omega) λH' s'=>⟨rfl,s'⟩) (λLg YT hR=>?_))));obtain⟨rfl,UG⟩:=hR;refine⟨rfl,λx hx=>?_,(show 2<=400 by decide),λH15 s15=>(Κ true (by rw[gI]) ?_)⟩
     ·have a1:=bC (n:=p0.r) (by omega)
      have a2:=bC (n:=p0.pl) (by omega);simp only[Θ,Ρ,ϛ] at hx;rcases hx with rfl | rfl<;>omega
     ·rw[Υ (by decide)]
      exact rest _ (s13.trans (UG.trans s15))
   ·rw[Υ (by simp only[wn];omega)]
    exact rest _ s13
end
def walk {l:auz}{q:Ϗ}{loose:List Str}{XP:(Str->Option Η)->ϟ->Prop}{YP:IH->ϟ->Prop}{d:ay7}{K:Xz->Ξ}(hn:l.most=some 63)(hdf:d.params.defaults=[])
  (hY:∀(w:IH) (h:ϟ),YP w h->(K w.params).In h)
  (F:∀(w:IH) (mg:Str->Option Η) (fa:Ε) (h:ϟ),(K w.params).In h->h.Ns mainGlobals mg->mg d.name=some (.ref fa)->
   ∃fd:Jr,(∀(s:Ι) (u:Η),SK s fd ⟨[u],[]⟩ [("_law_script",u)])/\∀base:ϟ,(K w.params).In base->base.Ns mainGlobals mg->Ϥ l.prog w (K w.params) mg base IL 15 fa fd ["_law_script"] (x5 (K w.params))) :
  az4 q loose XP YP l.row.toRowW d [] (λf vs=>PySem.call f vs):=
 L2.El (n:=63) (k:=15) (x:="_law_script") (CX:=λ_=>IL) (sp:=λw=>x5 (K w.params)) hn (by decide) hdf ⟨rfl,by decide,by decide⟩ hY F (λ_ _ a ns hl _ hS=>(Ky a ns rfl hS hl (λ_=>rfl))) λ_ _ _ _ _ z=>z
end K84
end Lake

open PySem PySem.W PyProof.Rows Lake
set_option maxHeartbeats 0 in
theorem PySem.Challenge.cw_lettercell_k84_letters_at_a_desk_holds : PySem.Challenge.rw_lettercell_k84_letters_at_a_desk.Holds := by
 refine hdW.2 ?_
 dsimp only[hdW]
 k_fill
 refine K84.walk (l:=PySem.Challenge.rw_lettercell_k84_letters_at_a_desk) rfl rfl (λw h Y=>W.kIn_of Y) ?F
 case F=>
  intro w mg fa h KX G hmg
  have T:∃t,K84.Txt w (L2.KOf KX) mg t:=by
   dsimp only[L2.KOf]
   refine' ⟨.mk,⟨(rc KX G ?h0),(rc KX G ?h1),(rc KX G ?h2),(rc KX G ?h3),(rc KX G ?h4),(rc KX G ?h5),(rc KX G ?h6),(rc KX G ?h7),(rc KX G ?h8),(rc KX G ?h9),(rc KX G ?h10),⟨?h11,?Vh,?h13,?h14⟩,⟨?h15,?h16,?h17,?h18⟩,⟨?h19,?h20,?h21,?h22⟩,⟨?h23,?h24,?h25,?h26⟩,⟨?h27,?h28,?h29,?h30⟩,⟨?h31,?h32,?h33,?h34⟩,⟨?h35,?h36,?h37,?h38⟩,⟨?h39,?h40,?h41,?h42⟩,⟨?h43,?h44,?h45,?h46⟩,?h47,?h48,L2.kK ?h49 ?h50 ?h51 ?z0,L2.aI KX G ?h52 ?h53 ?h54 ?h55 ?z1,L2.aI KX G ?h56 ?h57 ?h58 ?h59 ?z2,L2.aI KX G ?h60 ?h61 ?h62 ?h63 ?z3,L2.aI KX G ?h64 ?h65 ?h66 ?h67 ?z4,L2.aI KX G ?h68 ?h69 ?h70 ?h71 ?z5,L2.aI KX G ?h72 ?h73 ?h74 ?h75 ?z6,L2.aI KX G ?h76 ?h77 ?h78 ?h79 ?z7,L2.aI KX G ?h80 ?h81 ?h82 ?h83 ?z8,L2.aI KX G ?h84 ?h85 ?h86 ?h87 ?z9,L2.aI KX G ?h88 ?h89 ?h90 ?h91 ?z10,L2.aI KX G ?h92 ?h93 ?h94 ?h95 ?z11,L2.aI KX G ?h96 ?h97 ?h98 ?h99 ?z12,L2.aI KX G ?akq ?akr ?aks ?akt ?z13,L2.aI KX G ?aku ?akv ?akw ?akx ?z14,L2.aI KX G ?aky ?akz ?akA ?akB ?z15,L2.aI KX G ?akC ?akD ?akE ?akF ?z16,L2.aI KX G ?akG ?akH ?akI ?akJ ?z17,L2.aI KX G ?akK ?akL ?akM ?akN ?z18,L2.aI KX G ?akO ?akP ?akQ ?akR ?z19,L2.aI KX G ?akS ?akT ?akU ?akV ?z20,L2.aI KX G ?akW ?akX ?akY ?akZ ?z21,L2.aI KX G ?ak0 ?ak1 ?ak2 ?ak3 ?z22,L2.aI KX G ?ak4 ?ak5 ?ak6 ?ak7 ?z23,L2.aI KX G ?ak8 ?ak9 ?ak' ?ala ?z24,L2.aI KX G ?alb ?alc ?ald ?ale ?z25,L2.aI KX G ?alf ?alg ?alh ?ali ?z26,L2.aI KX G ?alj ?alk ?alm ?aln ?z27,L2.aI KX G ?alo ?alp ?alq ?alr ?z28,L2.aI KX G ?als ?alt ?alu ?alv ?z29,L2.aI KX G ?alw ?alx ?aly ?alz ?z30,L2.aI KX G ?alA ?alB ?alC ?alD ?z31,L2.aI KX G ?alE ?alF ?alG ?alH ?z32,L2.aI KX G ?alI ?alJ ?alK ?alL ?z33,L2.kK ?alM ?alN ?alO ?z34,L2.cD ?alP ?alQ ?alR ?alS ?alT ?z35,L2.kK ?alU ?alV ?alW ?z36,L2.cD ?alX ?alY ?alZ ?al0 ?al1 ?z37,L2.cD ?al2 ?al3 ?al4 ?al5 ?al6 ?z38,L2.aI KX G ?al7 ?al8 ?al9 ?al' ?z39,L2.aI KX G ?ama ?amb ?amc ?amd ?z40,L2.aI KX G ?ame ?amf ?amg ?amh ?z41,L2.kK ?ami ?amj ?amk ?z42,⟨?YX,?YY,?SG⟩,L2.j1 (items:=[L2.iT 0]) ?VG ?VH ?SG ?VI,L2.Qc.binds [] 4 rfl (L2.j1 (items:=[L2.iT 0]) ?VG ?VH ?SG ?VI) (λ_ _ _ _ _ _ _=>(L2.el4 λ_ _ _ _=>⟨_,rfl,rfl⟩)),L2.cD ?aml ?amm ?amn ?amo ?amp ?z43,L2.cD ?amq ?amr ?ams ?amt ?amu ?z44,L2.aI KX G ?amv ?amw ?amx ?amy ?z45,L2.aI KX G ?amz ?amA ?amB ?amC ?z46,L2.aI KX G ?amD ?amE ?amF ?amG ?z47,L2.kK ?amH ?amI ?amJ ?z48,L2.cD ?amK ?amL ?amM ?amN ?amO ?z49,L2.cD ?amP ?amQ ?amR ?amS ?amT ?z50,L2.cD ?amU ?amV ?amW ?amX ?amY ?z51,L2.cD ?amZ ?am0 ?am1 ?am2 ?am3 ?z52,L2.cD ?am4 ?am5 ?am6 ?am7 ?am8 ?z53,L2.cD ?am9 ?am' ?ana ?anb ?anc ?z54,L2.kK ?ane ?anf ?ang ?z55,L2.cD ?anh ?ani ?anj ?ank ?anl ?z56,L2.cD ?anm ?ann ?ano ?anp ?anq ?z57,L2.cD ?anr ?ant ?anu ?anv ?anw ?z58,L2.cD ?anx ?anz ?anA ?anB ?anC ?z59,L2.cD ?anD ?anE ?anF ?anG ?anH ?z60,L2.cD ?anI ?anJ ?anK ?anL ?anM ?z61,L2.cD ?anN ?anO ?anP ?anQ ?anR ?z62,L2.kK ?anS ?anT ?anU ?z63,L2.kK ?anV ?anW ?anX ?z64,L2.cD ?anY ?anZ ?an0 ?an1 ?an2 ?z65,L2.kK ?an3 ?an4 ?an5 ?z66,L2.cD ?an6 ?an7 ?an8 ?an9 ?an' ?z67,L2.cD ?aoa ?aob ?aoc ?aod ?aoe ?z68,⟨?VJ,?VL,?Oh⟩,L2.j1 (items:=[.none,L2.iT 0]) ?Q3 ?Q4 ?Oh ?Q5,L2.Qc.binds [] 8 rfl (L2.j1 (items:=[.none,L2.iT 0]) ?Q3 ?Q4 ?Oh ?Q5) (λ_ _ _ _ _ _ _=>(L2.el8 λ_ _ _ _ _ _ _ _=>⟨_,rfl,rfl⟩)),⟨?UI,?UJ,?Np⟩,L2.j1 (items:=[L2.iT 10,.bool true]) ?PN ?PP ?Np ?PQ,L2.Qc.binds [] 5 rfl (L2.j1 (items:=[L2.iT 10,.bool true]) ?PN ?PP ?Np ?PQ) (λ_ _ _ _ _ _ _=>(L2.el5 λ_ _ _ _ _=>⟨_,rfl,rfl⟩)),L2.cD ?aof ?aog ?aoh ?aoi ?aoj ?z69,L2.aI KX G ?aok ?aol ?aom ?aon ?z70,L2.aI KX G ?aoo ?aop ?aoq ?aor ?z71,L2.aI KX G ?aos ?aot ?aou ?aov ?z72,L2.aI KX G ?aow ?aox ?aoy ?aoz ?z73,L2.aI KX G ?aoA ?aoB ?aoC ?aoD ?z74,L2.aI KX G ?aoE ?aoF ?aoG ?aoH ?z75,L2.aI KX G ?aoI ?aoJ ?aoK ?aoL ?z76,L2.aI KX G ?aoM ?aoN ?aoO ?aoP ?z77,L2.aI KX G ?aoQ ?aoR ?aoS ?aoT ?z78,L2.aI KX G ?aoU ?aoV ?aoW ?aoX ?z79,L2.aI KX G ?aoY ?aoZ ?ao0 ?ao1 ?z80,L2.aI KX G ?ao2 ?ao3 ?ao4 ?ao5 ?z81,L2.aI KX G ?ao6 ?ao7 ?ao8 ?ao9 ?z82,L2.aI KX G ?ao' ?apa ?apb ?apc ?z83,L2.kK ?apd ?ape ?apf ?z84,L2.cD ?apg ?aph ?api ?apj ?apk ?z85,L2.cD ?apl ?apm ?apn ?apo ?app ?z86,L2.aI KX G ?apq ?apr ?aps ?apt ?z87,L2.aI KX G ?apu ?apv ?apw ?apx ?z88,L2.aI KX G ?apy ?apz ?apA ?apB ?z89,L2.aI KX G ?apC ?apD ?apE ?apF ?z90,L2.aI KX G ?apG ?apH ?apI ?apJ ?z91,L2.aI KX G ?apK ?apL ?apM ?apN ?z92,L2.aI KX G ?apO ?apP ?apQ ?apR ?z93,L2.aI KX G ?apS ?apT ?apU ?apV ?z94,L2.aI KX G ?apW ?apX ?apY ?apZ ?z95,L2.aI KX G ?ap0 ?ap1 ?ap2 ?ap3 ?z96,L2.aI KX G ?ap4 ?ap5 ?ap6 ?ap7 ?z97,L2.aI KX G ?ap8 ?ap9 ?ap' ?aqa ?z98,L2.aI KX G ?aqb ?aqc ?aqd ?aqe ?z99,⟨?aqf,?aqg,?aqh,?aqi⟩,?aqj,?aqk,?aql,⟨?aqm,?aqn,?aqo,?aqp⟩,?aqq,?aqr,⟨?aqs,?aqt,?aqu,?aqv⟩,?aqw,?aqx,?aqy,?aqz,?aqA,?aqB,?aqC,⟨?aqD,?aqE,?aqF,?aqG⟩,?aqH,⟨?aqI,?aqJ,?aqK,?aqL⟩,?aqM,?aqN,⟨?aqO,?aqP,?aqQ,?aqR⟩,?aqS,?aqT,⟨?aqU,?aqV,?aqW,?aqX⟩,?aqY,?aqZ,?aq0,?aq1,⟨?aq2,?aq3,?aq4,?aq5⟩,?aq6,⟨?aq7,?aq8,?aq9,?aq'⟩,?ara,⟨?arb,?arc,?ard,?are,?arf,?arh⟩,?ari,?arj,?ark,lm KX G ?arl,lm KX G ?arm,lm KX G ?arn,lm KX G ?aro,lm KX G ?arp,lm KX G ?arq,lm KX G ?arr,lm KX G ?ars,lm KX G ?art,lm KX G ?aru,lm KX G ?arv,lm KX G ?arw,lm KX G ?arx,lm KX G ?ary,lm KX G ?arz,lm KX G ?arA,L2.i6 (rc KX G ?arB),L2.i6 (rc KX G ?arC),L2.i6 (rc KX G ?arD),L2.DZ (rc KX G ?arE) ?arF ?arG (L2.cX ?arH rfl (L2.cX ?arI rfl L2.qB)),L2.i6 (rc KX G ?arJ),L2.FF (rc KX G ?arK) (.cons L2.Mc (.cons L2.Mc .nil)) (show 2<=PySem.sizeLine by decide) ?arL,L2.i6 (rc KX G ?arM),L2.i6 (rc KX G ?arN),L2.i6 (rc KX G ?arO),L2.DZ (rc KX G ?arP) ?arQ ?arR (L2.cX ?arS rfl (L2.cX ?arT rfl L2.qB)),L2.i6 (rc KX G ?arU),L2.DZ (rc KX G ?arV) ?arW ?arX (L2.cX ?arY rfl (L2.cX ?arZ rfl (L2.cX ?ar0 rfl (L2.cX ?ar1 rfl L2.qB)))),L2.nS (rc KX G ?ar2) ?zz,L2.i6 (rc KX G ?ar3),L2.i6 (rc KX G ?ar4),L2.i6 (rc KX G ?ar5),L2.FF (rc KX G ?ar6) (.cons L2.Mc (.cons L2.Mc (.cons L2.Mc (.cons L2.Mc (.cons L2.Mc (.cons L2.Mc .nil)))))) (show 6<=PySem.sizeLine by decide) ?ar7,L2.i6 (rc KX G ?ar8),λ_ _=>.of_eq rfl,L2.k9 (.cons L2.Mc (.cons L2.Mc (.cons L2.Mc (.cons L2.Mc (.cons L2.Mc (.cons L2.Mc (.cons L2.Mc .nil))))))) (show 7<=PySem.sizeLine by decide) ?ar9,L2.k9 (.cons L2.Mc (.cons L2.Mc .nil)) (show 2<=PySem.sizeLine by decide) ?ar',L2.k9 (.cons L2.Mc (.cons rfl .nil)) (show 2<=PySem.sizeLine by decide) ?asa,L2.k9 (.cons L2.Mc (.cons rfl .nil)) (show 2<=PySem.sizeLine by decide) ?asb,L2.k9 (.cons L2.Mc (.cons rfl .nil)) (show 2<=PySem.sizeLine by decide) ?asc,L2.k9 (.cons L2.Mc (.cons rfl .nil)) (show 2<=PySem.sizeLine by decide) ?asd⟩⟩
   case h0|h1|h2|h3|h4|h5|h6|h7|h8|h9|h10|h11|Vh|h13|h14|h15|h16|h17|h18|h19|h20|h21|h22|h23|h24|h25|h26|h27|h28|h29|h30|h31|h32|h33|h34|h35|h36|h37|h38|h39|h40|h41|h42|h43|h44|h45|h46|h47|h48|h49|h50|h51|h52|h53|h54|h55|h56|h57|h58|h59|h60|h61|h62|h63|h64|h65|h66|h67|h68|h69|h70|h71|h72|h73|h74|h75|h76|h77|h78|h79|h80|h81|h82|h83|h84|h85|h86|h87|h88|h89|h90|h91|h92|h93|h94|h95|h96|h97|h98|h99|akq|akr|aks|akt|aku|akv|akw|akx|aky|akz|akA|akB|akC|akD|akE|akF|akG|akH|akI|akJ|akK|akL|akM|akN|akO|akP|akQ|akR|akS|akT|akU|akV|akW|akX|akY|akZ|ak0|ak1|ak2|ak3|ak4|ak5|ak6|ak7|ak8|ak9|ak'|ala|alb|alc|ald|ale|alf|alg|alh|ali|alj|alk|alm|aln|alo|alp|alq|alr|als|alt|alu|alv|alw|alx|aly|alz|alA|alB|alC|alD|alE|alF|alG|alH|alI|alJ|alK|alL|alM|alN|alO|alP|alQ|alR|alS|alT|alU|alV|alW|alX|alY|alZ|al0|al1|al2|al3|al4|al5|al6|al7|al8|al9|al'|ama|amb|amc|amd|ame|amf|amg|amh|ami|amj|amk|YX|YY|VG|VH|SG|VI|aml|amm|amn|amo|amp|amq|amr|ams|amt|amu|amv|amw|amx|amy|amz|amA|amB|amC|amD|amE|amF|amG|amH|amI|amJ|amK|amL|amM|amN|amO|amP|amQ|amR|amS|amT|amU|amV|amW|amX|amY|amZ|am0|am1|am2|am3|am4|am5|am6|am7|am8|am9|am'|ana|anb|anc|ane|anf|ang|anh|ani|anj|ank|anl|anm|ann|ano|anp|anq|anr|ant|anu|anv|anw|anx|anz|anA|anB|anC|anD|anE|anF|anG|anH|anI|anJ|anK|anL|anM|anN|anO|anP|anQ|anR|anS|anT|anU|anV|anW|anX|anY|anZ|an0|an1|an2|an3|an4|an5|an6|an7|an8|an9|an'|aoa|aob|aoc|aod|aoe|VJ|VL|Q3|Q4|Oh|Q5|UI|UJ|PN|PP|Np|PQ|aof|aog|aoh|aoi|aoj|aok|aol|aom|aon|aoo|aop|aoq|aor|aos|aot|aou|aov|aow|aox|aoy|aoz|aoA|aoB|aoC|aoD|aoE|aoF|aoG|aoH|aoI|aoJ|aoK|aoL|aoM|aoN|aoO|aoP|aoQ|aoR|aoS|aoT|aoU|aoV|aoW|aoX|aoY|aoZ|ao0|ao1|ao2|ao3|ao4|ao5|ao6|ao7|ao8|ao9|ao'|apa|apb|apc|apd|ape|apf|apg|aph|api|apj|apk|apl|apm|apn|apo|app|apq|apr|aps|apt|apu|apv|apw|apx|apy|apz|apA|apB|apC|apD|apE|apF|apG|apH|apI|apJ|apK|apL|apM|apN|apO|apP|apQ|apR|apS|apT|apU|apV|apW|apX|apY|apZ|ap0|ap1|ap2|ap3|ap4|ap5|ap6|ap7|ap8|ap9|ap'|aqa|aqb|aqc|aqd|aqe|aqf|aqg|aqh|aqi|aqj|aqk|aql|aqm|aqn|aqo|aqp|aqq|aqr|aqs|aqt|aqu|aqv|aqw|aqx|aqy|aqz|aqA|aqB|aqC|aqD|aqE|aqF|aqG|aqH|aqI|aqJ|aqK|aqL|aqM|aqN|aqO|aqP|aqQ|aqR|aqS|aqT|aqU|aqV|aqW|aqX|aqY|aqZ|aq0|aq1|aq2|aq3|aq4|aq5|aq6|aq7|aq8|aq9|aq'|ara=>((try dsimp only);show _=_;k_is)
   case arb=>((try dsimp only);show _=_;kernel_rfl)
   case arc|ard|are|arf|arh|ari=>((try dsimp only);show _=_;k_is)
   case arj|ark=>((try dsimp only);show _=_;kernel_rfl)
   case arl|arm|arn|aro|arp|arq|arr|ars|art|aru|arv|arw|arx|ary|arz|arA|arB|arC|arD|arE|arF=>((try dsimp only);show _=_;k_is)
   case arG=>repeat (first | exact L2.JV.nil | refine L2.JV.cons ?_)
   case arH|arI=>rfl
   case arJ|arK|arL|arM|arN|arO|arP|arQ=>((try dsimp only);show _=_;k_is)
   case arR=>repeat (first | exact L2.JV.nil | refine L2.JV.cons ?_)
   case arS|arT=>rfl
   case arU|arV|arW=>((try dsimp only);show _=_;k_is)
   case arX=>repeat (first | exact L2.JV.nil | refine L2.JV.cons ?_)
   case arY|arZ|ar0|ar1=>rfl
   case ar2|ar3|ar4|ar5|ar6|ar7|ar8|ar9|ar'|asa|asb|asc|asd=>((try dsimp only);show _=_;k_is)
   case z1|z2|z3|z4|z5|z7|z8|z9|z12|z13|z18|z19|z20|z21|z23|z25|z26|z28|z34|z36|z38|z42|z45|z46|z47|z49|z50|z55|z63|z70|z71|z72|z73|z74|z82|z84|z89|z90|z91|z92|z95|z99=>exact λ_ _ _ _ _ _=>L2.el1 λ_=>rfl
   case z0|z6|z10|z11|z14|z15|z16|z24|z27|z29|z30|z31|z35|z37|z41|z43|z48|z51|z52|z53|z56|z57|z61|z62|z64|z65|z66|z67|z68|z69|z75|z76|z77|z78|z79|z80|z81|z83|z85|z86|z87|z88|z94|z98=>exact λ_ _ _ _ _ _=>L2.el2 λ_ _=>rfl
   case z17|z22|z39|z40|z54|z58|z59|z93|z96|z97=>exact λ_ _ _ _ _ _=>L2.el3 λ_ _ _=>rfl
   case z44=>exact λ_ _ _ _ _ _=>L2.el4 λ_ _ _ _=>rfl
   case z33|z60=>exact λ_ _ _ _ _ _=>L2.el5 λ_ _ _ _ _=>rfl
   case z32=>exact λ_ _ _ _ _ _=>L2.el7 λ_ _ _ _ _ _ _=>rfl
   case zz=>rfl
  obtain⟨t,T⟩:=T
  have e0:=hmg.symm.trans T.FG.m
  cases e0
  exact⟨_,T.Hc,λbase kb nb=>K84.He T⟩
#print axioms PySem.Challenge.cw_lettercell_k84_letters_at_a_desk_holds
