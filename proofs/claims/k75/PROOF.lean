import PyProof.Rows.All
import OpenK.KLine
import Wide.FinOn
import KE.BitLaws
import KE.IntTextLaws
import KE.KDictList
import KE.KDictOf
import KE.KDictSum
import KE.KEqDict
import KE.KFromBytes
import KE.KIntText
import KE.KIsAll
import KE.KItem
import KE.KPairComp
import KE.KRevIter
import KE.KTryMore
import KE.KxBytes
import KE.LcSums
import OpenK.KRaise
import PyProof.EqAt
import PyProof.EqKinds
import PyProof.TupleCall
import PyProof.StationsW
import PyProof.ExcBaseAll.ValueError
import PyProof.ExcInit
import PyProof.InstStoreFacts
import PyProof.NsDelKeeps
import PyProof.StrLawsReplace
import PyProof.StrLawsTight
import PyProof.StrReplace2
import PyProof.Rows.StrIntSpec
import PyProof.EnumMake
import PyProof.Rows.CallKwBuiltin
import PyProof.TupleIter
import PyProof.P3Eq
import PySem.Challenge.RW_lettercell_k75_deeds_over_rows
set_option compiler.extract_closed false
open Lean in
local macro_rules (kind:=Lean.Parser.Command.declaration) | x=>do
 if x.getPos?.isNone then Macro.throwUnsupported
 return Id.run (x.rewriteBottomUpM λy=>pure (y.setInfo .none))
section
open PySem PySem.W PyProof.Rows
set_option Elab.async false
set_option linter.all false
set_option maxRecDepth 1000000
open Lean in
local macro_rules | `(command| #print $l:str)=>do
 let z::G:=l.getString.splitOn ";" | Macro.throwUnsupported
 let ["shut",n,p]:=z.splitOn " " | Macro.throwUnsupported
 let hs:=(`looseL).hash::((List.range n.toNat!).map λi=>((`hdW).str s!"o_{i}").hash)++(G.flatMap λg=>let w:=g.splitOn " ";w.tail.map λs=>((`hdW).str (w.headD ""++s)).hash)++["pw_","rw_"].map λs=>((`PySem.Challenge).str (s++p)).hash
 let ds<-hs.toArray.mapM λh=>`(Parser.Term.letRecDecl| $(mkIdent (.mkSimple s!"tw{h}")):ident:True:=trivial)
 `(command| theorem $(mkIdent `PySem.W.Fast) :True:=trivial where $[$ds:letRecDecl];*)
#print "shut 2667 lettercell_k75_deeds_over_rows;tree_ 47 77 92 114 136 151 173 195 217 232 254 276 291 313 335 350 372 394 416 464 488 575 668 684 687 753 837 923 979 1008 1113 1196 1222 1355 1439 1486 1620 1705 1710 1776 1797 1867 1868 1941 1942 2020 2043 2111 2112 2363 2444 2536 2621 2666;heap_ 39 46 2667;sts_ 49 78 93 115 137 152 174 196 218 233 255 277 292 314 336 351 373 395 417 465 491 576 669 685 690 754 838 924 980 1009 1200 1223 1443 1487 1709 1711 1777 1798 1868 1870 1942 1944 2021 2044 2112 2114 2540 2622;env_ 41;view_ 39"
open Lean in
local macro_rules | `(panic! $s:str)=>do
 let x<-(s.getString.splitOn " ").toArray.mapM λw=>`(Str.ofString $(quote w))
 `([$x,*])
noncomputable def qL:Program:={PySem.Challenge.pw_lettercell_k75_deeds_over_rows with main:={PySem.Challenge.pw_lettercell_k75_deeds_over_rows.main with body:=PySem.Challenge.pw_lettercell_k75_deeds_over_rows.main.body.drop (PySem.Challenge.pw_lettercell_k75_deeds_over_rows.main.body.length - 1)}}
def looseL:List Str:=panic! "_wall floor_by CellarError BadWord NoSuch Doubled SenderError Fenced Gap TooOld LoanError Late Twice DeedError Busy NoDeed RowError WrongKind Needed Gone Beyond guarded joined sum_of line_of PARTS TEXTS word_text owner_text text_of event_of body_for body_for_shelves hail_happens put_happens begin_happens pledge_happens close_happens drop_happens found_happens enter_happens leave_happens deal_happens aside_happens lend_happens answer_happens back_happens turn_happens attach_happens advance_happens detach_happens away_happens drawn_happens cut_happens HAPPENINGS happen NAME_SIGNS NAME_MOST KEY_MOST WORD_MOST PER_CENT is_text is_sign is_name is_key is_word is_whole spread row_in GREATEST TURNS_MOST LETTERS_MOST TRIES_MOST WIDTH_MOST check_names check_wholes check_letter check_truth check_there check_group check_group_row check_kind asked_row asked_sender asked_reader hail_act put_act begin_act pledge_act close_act drop_act found_act dealt_act enter_act leave_act loan_act pass_act attach_act detach_act advance_act cut_act read_from Book rows_had shares rows_kept dealt moved Dealing Deed Deeds is_beneath row_not_beneath lower lower_once lowered fronts Lending KINDS SHELVES_MOST ROWS_MOST Row is_kind is_shelf are_shelves Shelves SPOTS_KEPT Senders Readers Group State Cellar _law_cell_at _law_mixed _law_sign _law_letter _law_names _law_keys _law_open _law_finished _law_begin _law_put _law_finish _law_hail _law_turns _law_letters _law_whole_or_not _law_stands _law_shown _law_step"
theorem cq{α β γ:Type}{f:α->γ}{g:β->γ}{a:List α}{b:List β}(n:Nat)(h1:(a.take n).map f=(b.take n).map g)(h2:(a.drop n).map f=(b.drop n).map g):a.map f=b.map g:=by
 rw[<-List.take_append_drop n a,<-List.take_append_drop n b,List.map_append,List.map_append,h1,h2]
open Lean in
local macro_rules
 | `(tactic| refine $t:term)=>do
  let a:=t.raw
  unless a.getKind == ``Parser.Term.app do Macro.throwUnsupported
  let g:=a[1].getArgs
  let nO (x:Syntax):Option Name:=if x.getKind == ``Parser.Term.namedArgument then some x[1].getId.eraseMacroScopes else none
  let some i:=g.findIdx? (nO · == some `Yf) | Macro.throwUnsupported
  let some j:=g.findIdx? (nO · == some `Ya) | Macro.throwUnsupported
  let oB:Term:=⟨g[i]![3]⟩
  let H<-match oB with | `(Hook.obs ($f:ident $k $as $e))=>pure (some (k, as, e)) | `($p:ident ($f:ident $k $as $e))=>pure (some (k, as, e)) | _=>pure none
  let some (k, as, e):=H | Macro.throwUnsupported
  let rec mk (d:Nat) (lf:Term->MacroM Term) (x:Term):MacroM Term:=do
   match d with
   | 0=>lf x
   | d + 1 =>
    let n:=Syntax.mkNumLit (toString (16 * 2 ^ d))
    let l<-mk d lf (← `(List.take $n $x))
    let r<-mk d lf (← `(List.drop $n $x))
    `((Prod.mk $l $r))
  let rec pr (d:Nat) (h:Term):MacroM Term:=do
   match d with
   | 0=>pure h
   | d + 1 =>
    let n:=Syntax.mkNumLit (toString (16 * 2 ^ d))
    let l<-pr d (← `(congrArg Prod.fst $h))
    let r<-pr d (← `(congrArg Prod.snd $h))
    `((cq $n $l $r))
  let dep:=7
  let o<-mk dep (λx=>`(List.map (Shared.heap s).get? $x)) as
  let v<-mk dep (λx=>`(List.map (λp=>some (Prod.snd p)) $x)) (← `($k (World.params w)))
  let p<-pr dep (← `(y))
  let yf<-`(λ(s:Shared)=>$o)
  let ya<-`(λ(w:World)=>$v)
  let oT<-`((λw s y=>InK.of $e w s $p))
  let mut ot:=g
  ot:=ot.set! i ((g[i]!).setArg 3 yf)
  ot:=ot.set! j ((g[j]!).setArg 3 ya)
  let iO (x:Syntax):Bool:=match (⟨x⟩:Term) with | `(($p:ident $_h))=>p.getId.eraseMacroScopes.toString.endsWith "Hook.of" | `(($p:ident $_h $_b))=>false | _=>false
  let some iq:=g.findIdx? (nO · == some `q) | Macro.throwError "no q"
  let some il:=g.findIdx? (nO · == some `loose) | Macro.throwError "no loose"
  let qo:=g[iq]![3]
  let lo:=g[il]![3]
  let rp (x:Syntax):Syntax:=Id.run (x.replaceM λy=>pure (if y == qo then some (mkIdent `qL).raw else if y == lo then some (mkIdent `looseL).raw else none))
  ot:=ot.map rp
  let some m:=ot.findIdx? iO | Macro.throwError "no Hook.of"
  ot:=ot.set! m oT
  ot:=ot.set! (ot.size - 1) (mkIdent `hWalk).raw
  let t':Term:=⟨a.setArg 1 (a[1].setArgs ot)⟩
  `(tactic| refine $t')
set_option maxHeartbeats 0 in
noncomputable def hdW:PSigma fun P:Prop=>(P->PySem.Challenge.rw_lettercell_k75_deeds_over_rows.Holds):=⟨_,fun hWalk=>by
 w_on;o_law;k_head;(case hw=>w_witness2)⟩
end
set_option genSizeOf false
set_option bootstrap.genMatcherCode false
set_option Elab.async false
set_option linter.all false
set_option maxHeartbeats 4000000
set_option maxRecDepth 100000
open Lean in
local macro_rules | `(s!$x:interpolatedStr) => do
  let some t := x.raw[0].isInterpolatedStrLit? | Macro.throwUnsupported
  match t with
  | "d" => `(by decide +kernel)
  | "c"=>`(by exact⟨rfl,s!"d",s!"d",s!"d",s!"d",s!"d",s!"d",s!"d",s!"d"⟩)
  | "f" => `(⟨rfl, rfl, rfl, by decide +kernel, rfl, by decide +kernel, by decide +kernel⟩)
  | _ => Macro.throwUnsupported
open Lean in
local macro_rules | `(command| $m:declModifiers def $i:declId $s:optDeclSig $v:declVal) => do
  unless m.raw.getArgs.all (·.isNone) do Macro.throwUnsupported
  let s := s.raw
  return mkNode `Lean.Parser.Command.declaration #[m, mkNode `Lean.Parser.Command.theorem #[mkAtom "theorem", i, mkNode `Lean.Parser.Command.declSig #[s[0], s[1][0]], v]]
open Lean in
local macro_rules | `(command| $m:declModifiers abbrev $i:declId $s:optDeclSig $v:declVal) => do
  unless m.raw.getArgs.all (·.isNone) do Macro.throwUnsupported
  `(command| noncomputable def $i:declId $s:optDeclSig $v:declVal)
open List renaming getElem?_eq_some_iff->Α,mem_append_right->Β,mem_of_getElem?->Δ,getElem?_eq_getElem->Ε,mem_singleton->Ζ,mem_append_left->Η,length_map->Θ,mem_cons->Κ,not_mem_nil->Μ,mem_append->Ξ,getElem?_map->Ρ,length_append->Χ,getD_eq_getElem?_getD->ε,mem_cons_of_mem->θ,length_cons->ς,replicate->τ,nodup_append->υ,mem_map->ω,nodup_cons->ϊ,map_cons->Ϗ,map_append->ϐ,getElem?_set_self->ϑ,getElem?_set_ne->ϔ,length_set->ϗ,size_toArray->Ϙ,getElem?_append_left->ϙ,range->Ϟ,getElem?_of_mem->Ϣ,map_map->ϣ,getElem?_append_right->ϥ,mem_cons_self->ϳ,lookup_cons->ϴ,length_nil->ϸ,take_add_one->Ϲ,take_length->bv,length_take->eF,pairwise_iff_getElem->gl,length_replicate->jp,sum_cons->lm,filterMap_cons->pi,length_range->rc,length_filter_le->sB,getElem?_eq_none->sK,cons_append->u8,range_succ->AT,mem_or_eq_of_mem_set->Ev,length_singleton->EQ,contains_cons->F1,count_append->GT,append_nil->Ix,length->K',filter_append->MA,count_cons->ML,filter_cons_of_neg->MU,count_nil->MV,lookup->M6,mem_replicate->M8,mem_filter->Nh,find?_cons->Ni,Nodup->Nx,length_drop->NF,filter_cons->NG,replicate_succ->NK,map_congr_left->NL,any_cons->NU,nil_append->NZ,filter_cons_of_pos->Od,mem_range->Ow,append_assoc->Oy,take_of_length_le->Oz,getElem_mem->ON,all_eq_true->OO,dropLast_concat_getLast->Pe,perm_iff_count->Pl,map_nil->Po,map->PP,mem_filterMap->PQ,flatten_cons->Qq,foldl_append->Qs,flatMap_cons->Qu,ext_getElem?->Qv,getElem?_replicate->QN,ext_getElem->QP,getElem_map->QR,length_eq_one_iff->Rg,filter_nil->Rr,getElem?_zipWith->Ru,filterMap_append->Rv,mem_of_mem_take->RX,filterMap_nil->SR,getElem?_set->TR,map_set->TU,mem_flatMap->UJ,of_mem_zip->Vn,foldl_cons->Vo,any_append->Vr,all_cons->Xr,sublist_append_left->Xu,getElem?_cons_succ->Ye,drop_of_length_le->Ym,getElem?_modify->Ze,getElem?_range->aal,map_replicate->aaL,any_eq_true->acf,countP_cons->acj,nodup_range->acl,take_succ->aea,nodup_nil->aed,take_nil->afw,zipWith->agp,all_map->agq,foldl->aiY
open PySem renaming Addr->Ι,wpAny_bind->Ν,Value->Υ,Shared->η,wpAny_pure->ύ,Stmt->ϟ,Program->ϯ,Heap->be,wpAny_mono->lw,wpAny_Call_Name_kw->mD,wpAny_field->nH,Expr->tz,wpAny_truthy_bool->ut,boot_len->zn,World->J',FuncData->Mx,wpAny_holding->MC,NameKind->MJ,codeAny_mono->MQ,wpAny_pyIter_list->MR,wpAny_loadPart_at->MS,wpAny_callSpecial?_slot->Nc,tupleKind_room_in1->Nn,wpAny_passesOwn->Nt,PyData->NP,codeAny_call_builtin->NQ,wpAny_seqItems->NR,wpAny_standAt->Ou,wpAny_comprehension_free->Ov,wpAny_execs_nil->Ox,wpAny_setField_rec->OA,sizeLine_eq->OD,wpAny_call->Pg,wpAny_call_entry->Pj,IsPair->Pk,wpAny_isSubtype_exc->P8,Keyword->Qo,call_meetsIn->Qr,Around->QH,Scope->QI,wpAny_setField->QK,wpAny_Call_method->Q8,wpAny_newObj_type->Q9,wpAny_pyIter_enum->Re,wpAny_execs_cons->RL,DictEntry->RM,wpAny_tests_nil->Sn,codeAny_builtin->So,wpAny_attempt->UI,call_meets->Vb,wpAny_assign_Name->Wg,Builtin->Wj,plainObj_wpAny_Assign_Attribute->Wp,wpAny_lookBehind->WV,pastItsLine_dict->WW,codeAny_of_tree->Yc,BindsTo->Yj,wpAny_loadPart->Y3,typeIs_str->Y5,PlainAttrs->Y6,wpAny_letOwnedTupleGo_enum->Y7,ZipApart->Y9,ExceptHandler->aai,wpAny_onRaise->aaj,Model->aaJ,IsZip->aaK,wpAny_nsSet1->abO,Result->abQ,wpAny_Call_method_late->abS,IsEnum->abT,wpAny_isTrue_Compare1->aca,exec_Assign_Name_used->acb,wpAny_loadName_local->adE,seqIndex_of->adI,lookup_relabel_local->adL,GenState->adO,wpAny_updateSeq_pair->adP,wpAny_loadName_cell->ad7,wpAny_Name->afp,typeIs_int->aft,wpAny_pyIter_tuple->afu,wpAny_rule->afz,wpAny_Return_some->agi,wpAny_Assign_Name->agj,slot_list_getitem->agm,OsState->ago,wpAny_getItem_of->aii,wpAny_madeBy_exc->aik,wpAny_isInstance->ain,wpAny_pyIter_zip->aip,wpAny_Compare1->alJ,Operator->alK,IsPart->alN,sliceRange_one->alQ,refuseLoop_ref->alU,Meets->alX,isSubtype_stop->alY,rangeSize_one->amZ,intBits_le_64->am0,call_list_seq->ani,call_range_2->aqz,IsRangeIter->as2,Drawn->as8,wpAny_of_eq->ata,wpAny_letGo->atb,Params->awi,strKind_is->awl,PassesOwn->axZ,small_one->ax0
open PySem.Heap renaming get?_push_of_some->Τ,lt_size->π,get?_push_size->ώ,size_push->bw,get?_update_other->KF,get?_update_self->Nk,SameBut->Pn,get?_update_ne->aah,IsList->ail,ExtBut->aim
open PySem.W renaming Frag->Ψ,findIn->F2,emptyDict->Mz,fnOf->Nu,keepIn->NI,kia_one->NN,callWith_K->PY,instObj->P7,looks_findIn->Qp,codeIn->Rp,takerIn->SO,hideAll_get->TK,looks_clsIn->TM,InstAt->U9,mg_of->Vd,isFn->Wh,hasDictIn->Wo,methodCall_KW->WX,plainGet->Yb,exmOne->Yd,plainGet_of->Y2,Looks->aag,lookIn->abM,set_plain->abN,kitOne->abP,handedIn->adF,any_some->adG,clsIn->aeb,cellsFrom_some->afr,hideAll_none->aie,findObj_own->aiW,callWith_K0->aiX,looks_mroIn->ai2,of_hideAll->alH,mroIn->alL,codeRec_of->alM,check_slot->alV,methodObj->amY,plainOver->am1,kitx_list->am2,kitx_dict->am3,OpenLaw->aqC,hideAll->as1,makesIn->as3,bind_fn->as4,OpenLaw->as7,exm_one->as9,pre_splitW->awh,WalkO->ax5
open Nat renaming le_refl->δ,le_trans->ο,le_succ_of_le->ϋ,lt_of_le_of_lt->ό,zero_le->Ϡ,lt_of_lt_of_le->Ϥ,ne_of_lt->Ϧ,mod_two_eq_zero_or_one->AC,ne_of_gt->K4,lt_succ_self->MX,lt_irrefl->Nj,succ_le_succ->NJ,lt_or_gt_of_ne->Ob,le_succ->Pc,min_eq_left->Ph,div_add_mod->Pi,lt_trans->Rq,zero_add->Rs,le_of_eq->Uq,lt_succ_of_lt->Us,toDigits->Ut,min_le_right->Va,not_lt->WZ,toDigits_of_lt_base->Yn,le_of_lt->Y1,sub_self->Y8,lt_trichotomy->acg,min_eq_right->adK,strongRecOn->aec,add_le_add->afA,sub_le->alO
open Option renaming map_eq_some_iff->ξ,isSome_iff_exists->db,map_some->NO,isSome_map->SQ,bind_some->TQ,none->Ur,map_eq_map->aak,getD_some->aaH,some->afv,getD_none->ax3,isSome_some->ax6,bind_eq_some_iff->ax8
open Bool renaming false_ne_true->ρ,and_eq_true->io,and_eq_false_iff->OL,or_true->Rf,eq_iff_iff->Ro,not_eq_true'->TN,and_false->ad9
open Ne renaming symm->ψ
open PySem.Str renaming ofString->ϒ,empty->U',length->alP,join->aqD
open PySem.PassesOwn renaming never->Ϛ
open Int renaming toNat_natCast->Ϝ,emod_nonneg->A',emod_lt_of_pos->Nb,le_refl->Oe,natCast_nonneg->TB,min_eq_left->Wi,toNat_of_nonneg->aaI,max_eq_right->adJ,ofNat_le->aif,le_trans->aio
open PySem.Value renaming ref->ϫ,none->NY,type->We,bool->aac,int->abK,isStrOf->ad6,isInt->agg,str->aiV
open Option.some renaming inj->Ϭ
open Or renaming inl->ϵ,inr->Vm
open False renaming elim->Ϸ
open PySem.Calls renaming spliced_cons->Ϻ,spliced_nil->pr,callWith_builtin->xL,evalArgs_plain->MK,Constant_str->SN,Name_function_global->Wf
open PySem.NameKind renaming free->ac,cell->Vp
open PyProof.Rows renaming callWith_type1->bn,boot_isinstance->Nw,boot_list->N0,AllBare->Q7,boot_str->RP,callWith_builtin1->RW,boot_all->Wk,IntsAre->Yk,Constant_none->aae,subscriptTail_builtinR->abR,tail_any->adH,boot_range->afq,Subscript_->afs,Call_->agk,setObjOf_fresh->ai1,bitXor_and->ai3,bitAnd_m16->ai4,bitOr_and->ai5,evalArgs_kwB->ai6,boot_enumerate->alS,boot_ord->al0,boot_sum->al1,isTrue_and->awf,isTrue_or->axY
open Sum.inr renaming inj->At
open True renaming intro->FS
open Lean renaming mkIdent->Gc
open Array renaming getElem?_eq_some_iff->Nv,toList->Tz,length_toList->Zc,append_assoc->aad
open PySem.SeqAt renaming shaped->NC,eqv_refl->adM,EqAt->aig
open ForInStep renaming yield->NH
open PySem.Obj renaming data_mapFields->Oc,mapFields->OY,isFreed_of_fields->RN,mapSeq->WY,cls_mapFields->ach
open PySem.Builtin.Str renaming strSliceIndices->OK,occurrences->PM,padded->W0,tooLong->alT
open PySem.Builtin.List renaming listTooLong->Pd,listFitsIndex->aiZ
open Sum renaming inl->PL,inr->Up
open PySem.Code renaming quiet_builtin->PR
open PySem.Builtin.SmallTypes renaming ownedTupleHandOut->PU,nextOf->RO
open PyProof.Rows.F renaming entry_set_update_loop->Qx,plain_set_update_loop->agn
open PySem.W.Looks renaming here->QJ,ld->awm
open PySem.PyData renaming eqv->QO,int->Zd,canLayAll0->aaf,depthAll->abU,canLay0->ace,keyHash->ack,depth->ad'
open PySem.Heap.SameBut renaming update->QQ
open PySem.Builtin.Range renaming rangeSize->TL
open PySem.Builtin renaming bitAnd->U8,bitXor->abL,bitOr->awg
open List.Pairwise renaming filter->Vc,nil->aih,imp->aiq
open Function renaming comp->Vq
open PySem.SeqAt.EqAt renaming int_str->Xp,str_int->Xq,same->am4,none_bool->am5,none_int->am6,none_str->am7,bool_none->am8,bool_bool->am9,bool_int->am',bool_str->ana,int_none->anb,int_bool->anc,int_int->ane,str_none->anf,str_bool->ang,str_str->anh
open List.Nodup renaming sublist->Xt
open Sum.inl renaming inj->Ya
open PySem.Heap.Ns1 renaming of_empty->Y4
open Iff renaming rfl->acd
open PySem.Builtin.Frozenset renaming updateFrom->adN
open PySem.IsRange renaming new->ad8
open PySem.Within renaming cons->afx,nil->ax9
open PySem.Shared renaming heap->afy,TypeIs->ax7
open PySem.CmpOp renaming NotIn->agh,In->alI
open PySem.Heap.IsSliceOf renaming new->agl
open PySem.Walks renaming list->aij
open PySem.W.WData renaming int->ai0
open List.Sublist renaming refl->ai7
open PySem.Heap.DictOf renaming new->alR
open PySem.Sem renaming wp->alW
open PySem.Heap.IsList renaming push->alZ
open PySem.EntryCells renaming newEntry->anj
open PySem.DictEntry renaming refKey->aqA
open PySem.AutoListH renaming list___mul___list_int_3->aqB
open List.cons renaming injEq->aqE
open List.Perm renaming nodup_iff->aqF
open Classical renaming byContradiction->aqG,em->aqH
open PySem.AutoSeq1 renaming list_extend_list_list_0->as5,list_clear_list_0->as6
open Nat.succ renaming inj->as'
open PySem.StrLaws renaming glued_eq_join->awj,join_split->awn,split_free->awo,replace_one->awp
open PySem.BindsTo renaming of_defaults->awk
open PySem.Around renaming under->ax1,frames_deeper->ax2
open PySem.W.WShape renaming arms->ax4
theorem Φ:type_of% @if_neg:=@if_neg
theorem γ:type_of% @if_pos:=@if_pos
theorem χ:type_of% @or_false:=@or_false
theorem ϝ:type_of% @decide_eq_true:=@decide_eq_true
theorem Ϫ:type_of% @decide_eq_false:=@decide_eq_false
theorem f7:type_of% @of_decide_eq_true:=@of_decide_eq_true
theorem Np:type_of% @beq_eq_false_iff_ne:=@beq_eq_false_iff_ne
theorem PZ:type_of% @decide_eq_true_eq:=@decide_eq_true_eq
theorem UH:type_of% @beq_iff_eq:=@beq_iff_eq
theorem Yl:type_of% @not_or:=@not_or
theorem aci:type_of% @decide_eq_false_iff_not:=@decide_eq_false_iff_not
section
section
local macro_rules | `(())=>`(by omega)
variable{a b c d n m k:Nat}
def θa(g:a<b)(h:b=c):a<c:=()
def θb(h:b=c)(g:a<b):a<c:=()
def θc(h:c=b)(g:a<b):a<c:=()
def θd(h:b=a)(g:b<=c):a<=c:=()
def θe(h:a=b)(g:b<=c):a<=c:=()
def θf(h:c=d)(k:b=d)(g:a<b):a<c:=()
def θg(h:a<=b)(g:b<=n)(e:n<=m):a<=m:=()
def θh(h:a<=k+b)(g:b<=n)(e:k+n<=m):a<=m:=()
def θi(n:Nat):((n+1:Nat):Int)=n+1:=rfl
def θj(h:a<=c+1)(g:c<=b):a<=b+1:=()
def θk(h:a<=b)(g:¬a<b):a=b:=()
def θl(h:b<a):a-(b+1)<a-b:=()
def θm(h:a<=k*b):a<=k*(b+1):=Nat.le_trans h (Nat.mul_le_mul_left _ (Nat.le_succ _))
def θn(a:Nat):((a:Int)+1-1).toNat=a:=()
def θo(h:a<=4+b*60)(g:b<=56):a+2<=5000:=()
def θp(h:a<b+1)(g:¬a<b):a=b:=()
def θq(h:a-b=0)(g:¬a<b):a=b:=()
def θr(h:1<=a):(1:Int)<=a:=()
def θs(h:a+2<=m):a+1<=m:=()
def θt(h:a<n)(e:n+1<=m):a+1<m:=()
def θu(h:a<=b):a<=b+1:=()
def θv(h:a<=b):a+1<=b+1:=()
def θw(h:c<=b)(g:d<c)(k:a<=d):a<b:=()
def θx(a:Nat):(1:Int)<=a+1:=()
def θy(h:a=b+1)(g:b<=4+c*60):a<=4+(c+1)*60:=()
def θz(h:a<=3+b):a<=3+(b+1):=()
def θA(h:a<=b+60)(g:b<=4+c*60):a<=4+(c+1)*60:=()
def θB(h:a<b)(g:b<=c)(f:c<=n)(e:n<=m):a<m:=()
def θC {a:Int}{b:Nat}(h:a=b+1):(a-1).toNat=b:=()
def θD (x:Int){k:Int}(e:0<k):0<1+x%k:=by have:=Int.emod_nonneg x (Int.ne_of_gt e);omega
def θE {a k x:Int}(h:1+x%k=a)(e:0<k):0<a:=h▸θD x e
def θF(h:a<=10*b)(g:b<=n)(e:10*n<=m):a<=m:=()
def θG {a:Int}(h:0<=a):a=a.toNat:=()
def θH {a b:Int}(h:¬a<=b):b<a:=()
def θI {a n:Nat}{m:Int}(h:a<=n)(e:(n:Int)<=m):(a:Int)<=m:=()
def θJ {a n:Nat}{m:Int}(h:a<n)(e:(n:Int)<=m):(a:Int)<m:=()
def θK {a n:Nat}{m:Int}(h:a<=n)(e:(n:Int)<m):(a:Int)<m:=()
def θL {x k s:Int}(h:1+x%k=s)(e:0<k):1<=s/\s<=k:=by have:=Int.emod_nonneg x (Int.ne_of_gt e);have:=Int.emod_lt_of_pos x e;omega
def θM {s:Int}{p:Prop}(h:1<=s/\p):s≠0:=()
def θN {s n m:Int}{p:Prop}(h:p/\s<=n)(e:n<m):s<m:=()
def θO {s n m:Int}{p:Prop}(h:n<=s/\p)(e:m<=n):m<=s:=()
def θP {s k:Int}{n:Nat}{p:Prop}(h:p/\s<=k)(e:k.toNat<=n):s.toNat<=n:=()
def θQ {s k:Int}{b n:Nat}{p:Prop}(g:b=s.toNat)(h:p/\s<=k)(e:k.toNat<=n):b<=n:=()
def θR {s a:Int}{b:Nat}(g:b=s.toNat)(h:0<=a/\a<s):a.toNat<b:=()
def θS(g:a<b)(k:b=d)(h:c=d):a<c:=()
def θT(g:a<b)(k:b=d)(h:d=c):a<c:=()
def θU(h:a<=n)(g:b<=k)(e:n+k<m):a+b<m:=()
def θV(h:c=b)(g:b<=a)(k:a<=c):a=b:=()
def θW(h:c=b)(g:b<=a)(k:a<=c):c=a:=()
def θX {a:Int}{b:Nat}(h:0<=a)(g:a<b):a.toNat<b:=()
def θY(h:a<=b):(a:Int)<=b:=()
def θZ(h:a<b):(a:Int)<b:=()
def θ0(a:Nat){k:Int}(e:k<=0):k<=a:=()
def θ1(a:Nat){k:Int}(e:k<0):k<a:=()
def θ2 {p q:Prop}(h:p/\a<=n/\q)(e:n<=m):a<=m:=Nat.le_trans h.2.1 e
end
local macro_rules | `(tactic| show $e)=>`(tactic| refine $e)
open Lean in
local macro_rules | `(tactic| let $d:letDecl)=>`(tactic| have $d:letDecl)
local macro_rules | `(())=>`(by lk)
local macro_rules | `("!")=>`(by decide)
local macro_rules | `(∅)=>`(by simp)
open Lean in
local macro_rules | `(tactic| lk)=>do
 let h<-`(‹_›)
 let d<-`(by decide)
 let u<-`(_)
 let x<-("Nat.le_of_lt h;Int.natCast_nonneg _;Nat.le_trans hd;Nat.lt_of_le_of_lt hd;Nat.lt_trans hd;Nat.le_of_not_lt h;θb hh;θc hh;θa hh;θd hh;θe hh;θf hhh;Nat.le_trans hh;θX hh;θY h;θZ h;θg hhd;θh hhd;θi _;θj hh;θk hh;θl h;θm h;θn _;θo hh;θp hh;θq hh;θr h;θs h;θt hd;θu h;θv h;θw hhh;θx _;θy hh;θz h;θA hh;θB hhhd;θC h;θE hd;θF hhd;θG h;θH h;θI hd;θJ hd;θK hd;Nat.le_add_right __;Nat.le_add_left __;Nat.le_refl _;Nat.succ_pos _;Int.le_of_lt h;θ0 _d;θ1 _d;Int.lt_of_lt_of_le dh;θ2 hd;θL hd;θM h;θN hd;θO hd;θP hd;θQ hhd;θR hh;θS hhh;θT hhh;θU hhd;θV hhh;θW hhh".splitOn ";").foldrM (λw (r:TSyntax `tactic)=>do
  let l:=w.splitOn " "
  let t:=Syntax.mkApp (mkIdent l[0]!.toName) (l[1]!.toList.map λc=>if c='h' then h else if c='d' then d else u).toArray
  `(tactic| first | with_reducible exact $t | $r:tactic)) (<-`(tactic| first | with_reducible assumption | omega))
 return x
open Lean in
local macro_rules | `(command| $m:declModifiers theorem%$k $i:declId $s:declSig $v:declVal)=>do
 unless m.raw.getArgs.all (·.isNone)&&k.getPos?.isSome do Macro.throwUnsupported
 `(command| noncomputable abbrev $i:declId $(⟨mkNode `Lean.Parser.Command.optDeclSig #[s.raw[0], mkNullNode #[s.raw[1]]]⟩):optDeclSig $v:declVal)
local macro_rules | `(~~~$x)=>`(autoParam $x $(Lean.mkIdent `L2.ϩ._auto_1))
local macro_rules | `(tactic| lia)=>`(tactic| walk_at "rf")
local macro_rules | `(tactic| walk1)=>`(tactic| walk_at "rd")
open Lean in
local macro_rules | `($e.$i:fieldIdx)=>do
 let some p:=("length heap.objs.size toNat objs.size heap env toArray cps.toList isSome m.M.ds Nodup env.scope env.locals symm toArray.size last stack isList dx.da.obj units prog len cps.size scope.kind lst toks obj names frames typeIs extBut M.Ms elim toList ok.kind calm rows ok.above params lend rest M.S.sz bare m.xs handled isEmpty base dict data line ok.mod.kin flatten first kp.kd free name env.globals outer kind M.ds endLine cells ob.kp.OH pw.wd.inv.op slots bd.tu OH.l1 params.defaults fresh shl M.xs ce.QL sum m.M depth dx.da gens frame size natAbs.log2 dropLast snd M.S.L loc row.toRowW nm.lv1 nm.nu1 ok.glob cls ob.kp pw.bd ok.mod ok.stk ok.bsz cell atName".splitOn " ")[i.raw.isFieldIdx?.getD 0-4]? | Macro.throwUnsupported
 if i.raw.isFieldIdx?.getD 0<4 then Macro.throwUnsupported
 let mut o:=e
 for f in p.splitOn "." do o<-`($o.$(mkIdent (.mkSimple f)):ident)
 return o
local macro_rules | `(!(($_)))=>Lean.Macro.throwUnsupported | `(!$x)=>`(some $x)
open Lean in
local macro_rules | `(-(($_)))=>Macro.throwUnsupported | `(-$x)=>if x.raw.isOfKind `num then Macro.throwUnsupported else `(List $x)
set_option compiler.extract_closed false
namespace Lake
namespace L2
open PySem
variable {p0 p1 p2 p3 p4:Prop}{t0 t1 t2 t3 t4 t5 κ α β:Type}{u cd doc pm Nd ct oc a0 cls fl:Υ}{a b f dx C r d ea CD bz i1 l1 l2 ev dn:Ι}{w:J'}{x name qual z qn:Str}{e c tg iter value elt:tz}{h2:be}{pins:-(Ι×Obj)}{t' i j n tk tn k0 dd:Nat}{ch fp ts Z Z' MT NS Ds rws:-Ι}{A:QH}{E:Υ->η->Prop}{s':η}{pos pos' p aee apos MP py Yo np:Pos}{op:CmpOp}{rest body:-ϟ}{es ifs elts:-tz}{vs items:Array Υ}{t:Int}{fT ds bm sub:-Υ}{mA mg:Str->Option Υ}{prog:ϯ}{pl:Sem Bool}{kw:-(Str×Υ)}{env:Env}{outer:-Env}{fd:Mx}{kws:-Qo}{sc scope:QI}{an od dc:Option Ι}{T:String}{ns e0 F:-Int}{W1 tsl:Array (Option Υ)}{cells:-(Str×Ι)}{ls:-(-Nat)}{oe:Obj}{ai9 ab:Bool}{sn:-Str}{col:Option Bool}{k1 k2 k3 k5:Option Υ}{wo:Option (-Nat)}{key:-Nat}{lv nb:Str->Option Int}
section
def Nl{G:Prop}(k:p0->p1->G):(p0/\p1)->G:=fun h=>k h.1 h.2
def v0{p0 p1:t0->t1->Prop}{G:Prop}(k:∀x0,∀x1,p0 x0 x1->p1 x0 x1->G):(∃x0 x1,p0 x0 x1/\p1 x0 x1)->G:=fun h=>h.elim fun x0 g0=>g0.elim fun x1 g1=>k x0 x1 g1.1 g1.2
def ϭ{p0 p1:t0->Prop}{G:Prop}(k:∀x0,p0 x0->p1 x0->G):(∃x0,p0 x0/\p1 x0)->G:=fun h=>h.elim fun x0 g0=>k x0 g0.1 g0.2
def N8{G:Prop}(k:p0->p1->p2->G):(p0/\p1/\p2)->G:=fun h=>k h.1 h.2.1 h.2.2
def Rw{p0 p1:t0->t1->t2->Prop}{G:Prop}(k:∀x0,∀x1,∀x2,p0 x0 x1 x2->p1 x0 x1 x2->G):(∃x0 x1 x2,p0 x0 x1 x2/\p1 x0 x1 x2)->G:=fun h=>h.elim fun x0 g0=>g0.elim fun x1 g1=>g1.elim fun x2 g2=>k x0 x1 x2 g2.1 g2.2
def N9{p0 p1:t0->t1->t2->t3->Prop}{G:Prop}(k:∀x0,∀x1,∀x2,∀x3,p0 x0 x1 x2 x3->p1 x0 x1 x2 x3->G):(∃x0 x1 x2 x3,p0 x0 x1 x2 x3/\p1 x0 x1 x2 x3)->G:=fun h=>h.elim fun x0 g0=>g0.elim fun x1 g1=>g1.elim fun x2 g2=>g2.elim fun x3 g3=>k x0 x1 x2 x3 g3.1 g3.2
def Qy{G:Prop}(k:p0->p1->p2->p3->p4->G):(p0/\p1/\p2/\p3/\p4)->G:=fun h=>k h.1 h.2.1 h.2.2.1 h.2.2.2.1 h.2.2.2.2
def SS{p0:t0->t1->t2->Prop}{G:Prop}(k:∀x0,∀x1,∀x2,p0 x0 x1 x2->G):(∃x0 x1 x2,p0 x0 x1 x2)->G:=fun h=>h.elim fun x0 g0=>g0.elim fun x1 g1=>g1.elim fun x2 g2=>k x0 x1 x2 g2
def Rx{p0 p1 p2:t0->t1->t2->Prop}{G:Prop}(k:∀x0,∀x1,∀x2,p0 x0 x1 x2->p1 x0 x1 x2->p2 x0 x1 x2->G):(∃x0 x1 x2,p0 x0 x1 x2/\p1 x0 x1 x2/\p2 x0 x1 x2)->G:=fun h=>h.elim fun x0 g0=>g0.elim fun x1 g1=>g1.elim fun x2 g2=>k x0 x1 x2 g2.1 g2.2.1 g2.2.2
def P9{p0 p1 p2 p3:t0->t1->Prop}{G:Prop}(k:∀x0,∀x1,p0 x0 x1->p1 x0 x1->p2 x0 x1->p3 x0 x1->G):(∃x0 x1,p0 x0 x1/\p1 x0 x1/\p2 x0 x1/\p3 x0 x1)->G:=fun h=>h.elim fun x0 g0=>g0.elim fun x1 g1=>k x0 x1 g1.1 g1.2.1 g1.2.2.1 g1.2.2.2
def Nq{p0 p1 p2:t0->Prop}{G:Prop}(k:∀x0,p0 x0->p1 x0->p2 x0->G):(∃x0,p0 x0/\p1 x0/\p2 x0)->G:=fun h=>h.elim fun x0 g0=>k x0 g0.1 g0.2.1 g0.2.2
def Xv{p0 p1 p2 p3:t0->Prop}{G:Prop}(k:∀x0,p0 x0->p1 x0->p2 x0->p3 x0->G):(∃x0,p0 x0/\p1 x0/\p2 x0/\p3 x0)->G:=fun h=>h.elim fun x0 g0=>k x0 g0.1 g0.2.1 g0.2.2.1 g0.2.2.2
def MM{p0 p1 p2:t0->t1->Prop}{G:Prop}(k:∀x0,∀x1,p0 x0 x1->p1 x0 x1->p2 x0 x1->G):(∃x0 x1,p0 x0 x1/\p1 x0 x1/\p2 x0 x1)->G:=fun h=>h.elim fun x0 g0=>g0.elim fun x1 g1=>k x0 x1 g1.1 g1.2.1 g1.2.2
def Vs{p0 p1 p2 p3 p4 p5:t0->t1->t2->t3->t4->Prop}{G:Prop}(k:∀x0,∀x1,∀x2,∀x3,∀x4,p0 x0 x1 x2 x3 x4->p1 x0 x1 x2 x3 x4->p2 x0 x1 x2 x3 x4->p3 x0 x1 x2 x3 x4->p4 x0 x1 x2 x3 x4->p5 x0 x1 x2 x3 x4->G):(∃x0 x1 x2 x3 x4,p0 x0 x1 x2 x3 x4/\p1 x0 x1 x2 x3 x4/\p2 x0 x1 x2 x3 x4/\p3 x0 x1 x2 x3 x4/\p4 x0 x1 x2 x3 x4/\p5 x0 x1 x2 x3 x4)->G:=fun h=>h.elim fun x0 g0=>g0.elim fun x1 g1=>g1.elim fun x2 g2=>g2.elim fun x3 g3=>g3.elim fun x4 g4=>k x0 x1 x2 x3 x4 g4.1 g4.2.1 g4.2.2.1 g4.2.2.2.1 g4.2.2.2.2.1 g4.2.2.2.2.2
def Sq{p0:t0->Prop}{G:Prop}(k:∀x0,p0 x0->G):(∃x0,p0 x0)->G:=fun h=>h.elim fun x0 g0=>k x0 g0
def QS{p0 p1 p2 p3 p4:t0->t1->t2->Prop}{G:Prop}(k:∀x0,∀x1,∀x2,p0 x0 x1 x2->p1 x0 x1 x2->p2 x0 x1 x2->p3 x0 x1 x2->p4 x0 x1 x2->G):(∃x0 x1 x2,p0 x0 x1 x2/\p1 x0 x1 x2/\p2 x0 x1 x2/\p3 x0 x1 x2/\p4 x0 x1 x2)->G:=fun h=>h.elim fun x0 g0=>g0.elim fun x1 g1=>g1.elim fun x2 g2=>k x0 x1 x2 g2.1 g2.2.1 g2.2.2.1 g2.2.2.2.1 g2.2.2.2.2
def Yp{p0 p1 p2 p3:t0->t1->t2->Prop}{G:Prop}(k:∀x0,∀x1,∀x2,p0 x0 x1 x2->p1 x0 x1 x2->p2 x0 x1 x2->p3 x0 x1 x2->G):(∃x0 x1 x2,p0 x0 x1 x2/\p1 x0 x1 x2/\p2 x0 x1 x2/\p3 x0 x1 x2)->G:=fun h=>h.elim fun x0 g0=>g0.elim fun x1 g1=>g1.elim fun x2 g2=>k x0 x1 x2 g2.1 g2.2.1 g2.2.2.1 g2.2.2.2
def Qz{p0 p1 p2 p3 p4:t0->t1->Prop}{G:Prop}(k:∀x0,∀x1,p0 x0 x1->p1 x0 x1->p2 x0 x1->p3 x0 x1->p4 x0 x1->G):(∃x0 x1,p0 x0 x1/\p1 x0 x1/\p2 x0 x1/\p3 x0 x1/\p4 x0 x1)->G:=fun h=>h.elim fun x0 g0=>g0.elim fun x1 g1=>k x0 x1 g1.1 g1.2.1 g1.2.2.1 g1.2.2.2.1 g1.2.2.2.2
def QT{G:Prop}(k:p0->p1->p2->p3->G):(p0/\p1/\p2/\p3)->G:=fun h=>k h.1 h.2.1 h.2.2.1 h.2.2.2
def RY{G:Prop}(k:p0->p1->p2->p3->p4->p5->G):(p0/\p1/\p2/\p3/\p4/\p5)->G:=fun h=>k h.1 h.2.1 h.2.2.1 h.2.2.2.1 h.2.2.2.2.1 h.2.2.2.2.2
def L6{p0:t0->t1->t2->t3->t4->t5->Prop}{G:Prop}(k:∀x0,∀x1,∀x2,∀x3,∀x4,∀x5,p0 x0 x1 x2 x3 x4 x5->G):(∃x0 x1 x2 x3 x4 x5,p0 x0 x1 x2 x3 x4 x5)->G:=fun h=>h.elim fun x0 g0=>g0.elim fun x1 g1=>g1.elim fun x2 g2=>g2.elim fun x3 g3=>g3.elim fun x4 g4=>g4.elim fun x5 g5=>k x0 x1 x2 x3 x4 x5 g5
def Yq{p0 p1 p2 p3 p4:t0->Prop}{G:Prop}(k:∀x0,p0 x0->p1 x0->p2 x0->p3 x0->p4 x0->G):(∃x0,p0 x0/\p1 x0/\p2 x0/\p3 x0/\p4 x0)->G:=fun h=>h.elim fun x0 g0=>k x0 g0.1 g0.2.1 g0.2.2.1 g0.2.2.2.1 g0.2.2.2.2
def aef{p0 p1 p2 p3 p4 p5 p6:t0->t1->t2->t3->t4->Prop}{G:Prop}(k:∀x0,∀x1,∀x2,∀x3,∀x4,p0 x0 x1 x2 x3 x4->p1 x0 x1 x2 x3 x4->p2 x0 x1 x2 x3 x4->p3 x0 x1 x2 x3 x4->p4 x0 x1 x2 x3 x4->p5 x0 x1 x2 x3 x4->p6 x0 x1 x2 x3 x4->G):(∃x0 x1 x2 x3 x4,p0 x0 x1 x2 x3 x4/\p1 x0 x1 x2 x3 x4/\p2 x0 x1 x2 x3 x4/\p3 x0 x1 x2 x3 x4/\p4 x0 x1 x2 x3 x4/\p5 x0 x1 x2 x3 x4/\p6 x0 x1 x2 x3 x4)->G:=fun h=>h.elim fun x0 g0=>g0.elim fun x1 g1=>g1.elim fun x2 g2=>g2.elim fun x3 g3=>g3.elim fun x4 g4=>k x0 x1 x2 x3 x4 g4.1 g4.2.1 g4.2.2.1 g4.2.2.2.1 g4.2.2.2.2.1 g4.2.2.2.2.2.1 g4.2.2.2.2.2.2
def cr{p0 p1:t0->t1->Prop}(x0:t0)(x1:t1)(h0:p0 x0 x1)(h1:p1 x0 x1):∃x0 x1,p0 x0 x1/\p1 x0 x1:=⟨x0,x1,h0,h1⟩
def Λ{p0 p1:t0->Prop}(x0:t0)(h0:p0 x0)(h1:p1 x0):∃x0,p0 x0/\p1 x0:=⟨x0,h0,h1⟩
def SU{p0 p1:t0->t1->t2->Prop}(x0:t0)(x1:t1)(x2:t2)(h0:p0 x0 x1 x2)(h1:p1 x0 x1 x2):∃x0 x1 x2,p0 x0 x1 x2/\p1 x0 x1 x2:=⟨x0,x1,x2,h0,h1⟩
def Sr{p0 p1:t0->t1->t2->t3->Prop}(x0:t0)(x1:t1)(x2:t2)(x3:t3)(h0:p0 x0 x1 x2 x3)(h1:p1 x0 x1 x2 x3):∃x0 x1 x2 x3,p0 x0 x1 x2 x3/\p1 x0 x1 x2 x3:=⟨x0,x1,x2,x3,h0,h1⟩
def UK{p0:t0->t1->t2->Prop}(x0:t0)(x1:t1)(x2:t2)(h0:p0 x0 x1 x2):∃x0 x1 x2,p0 x0 x1 x2:=⟨x0,x1,x2,h0⟩
def Fk{p0 p1 p2 p3:t0->t1->Prop}(x0:t0)(x1:t1)(h0:p0 x0 x1)(h1:p1 x0 x1)(h2:p2 x0 x1)(h3:p3 x0 x1):∃x0 x1,p0 x0 x1/\p1 x0 x1/\p2 x0 x1/\p3 x0 x1:=⟨x0,x1,h0,h1,h2,h3⟩
def ϕ{p0 p1 p2:t0->t1->Prop}(x0:t0)(x1:t1)(h0:p0 x0 x1)(h1:p1 x0 x1)(h2:p2 x0 x1):∃x0 x1,p0 x0 x1/\p1 x0 x1/\p2 x0 x1:=⟨x0,x1,h0,h1,h2⟩
def ϡ{p0 p1 p2:t0->Prop}(x0:t0)(h0:p0 x0)(h1:p1 x0)(h2:p2 x0):∃x0,p0 x0/\p1 x0/\p2 x0:=⟨x0,h0,h1,h2⟩
def N'{p0:t0->Prop}(x0:t0)(h0:p0 x0):∃x0,p0 x0:=⟨x0,h0⟩
def UL{p0 p1 p2:t0->t1->t2->Prop}(x0:t0)(x1:t1)(x2:t2)(h0:p0 x0 x1 x2)(h1:p1 x0 x1 x2)(h2:p2 x0 x1 x2):∃x0 x1 x2,p0 x0 x1 x2/\p1 x0 x1 x2/\p2 x0 x1 x2:=⟨x0,x1,x2,h0,h1,h2⟩
def TV{p0 p1 p2 p3 p4:t0->t1->Prop}(x0:t0)(x1:t1)(h0:p0 x0 x1)(h1:p1 x0 x1)(h2:p2 x0 x1)(h3:p3 x0 x1)(h4:p4 x0 x1):∃x0 x1,p0 x0 x1/\p1 x0 x1/\p2 x0 x1/\p3 x0 x1/\p4 x0 x1:=⟨x0,x1,h0,h1,h2,h3,h4⟩
def QA{p0 p1 p2 p3 p4 p5:t0->t1->t2->t3->t4->Prop}(x0:t0)(x1:t1)(x2:t2)(x3:t3)(x4:t4)(h0:p0 x0 x1 x2 x3 x4)(h1:p1 x0 x1 x2 x3 x4)(h2:p2 x0 x1 x2 x3 x4)(h3:p3 x0 x1 x2 x3 x4)(h4:p4 x0 x1 x2 x3 x4)(h5:p5 x0 x1 x2 x3 x4):∃x0 x1 x2 x3 x4,p0 x0 x1 x2 x3 x4/\p1 x0 x1 x2 x3 x4/\p2 x0 x1 x2 x3 x4/\p3 x0 x1 x2 x3 x4/\p4 x0 x1 x2 x3 x4/\p5 x0 x1 x2 x3 x4:=⟨x0,x1,x2,x3,x4,h0,h1,h2,h3,h4,h5⟩
def ϰ{p0 p1 p2 p3:t0->t1->t2->Prop}(x0:t0)(x1:t1)(x2:t2)(h0:p0 x0 x1 x2)(h1:p1 x0 x1 x2)(h2:p2 x0 x1 x2)(h3:p3 x0 x1 x2):∃x0 x1 x2,p0 x0 x1 x2/\p1 x0 x1 x2/\p2 x0 x1 x2/\p3 x0 x1 x2:=⟨x0,x1,x2,h0,h1,h2,h3⟩
def MD{p0 p1 p2 p3:t0->Prop}(x0:t0)(h0:p0 x0)(h1:p1 x0)(h2:p2 x0)(h3:p3 x0):∃x0,p0 x0/\p1 x0/\p2 x0/\p3 x0:=⟨x0,h0,h1,h2,h3⟩
def UM{p0 p1 p2 p3 p4:t0->Prop}(x0:t0)(h0:p0 x0)(h1:p1 x0)(h2:p2 x0)(h3:p3 x0)(h4:p4 x0):∃x0,p0 x0/\p1 x0/\p2 x0/\p3 x0/\p4 x0:=⟨x0,h0,h1,h2,h3,h4⟩
def Yr{p0 p1 p2 p3 p4 p5:t0->t1->Prop}(x0:t0)(x1:t1)(h0:p0 x0 x1)(h1:p1 x0 x1)(h2:p2 x0 x1)(h3:p3 x0 x1)(h4:p4 x0 x1)(h5:p5 x0 x1):∃x0 x1,p0 x0 x1/\p1 x0 x1/\p2 x0 x1/\p3 x0 x1/\p4 x0 x1/\p5 x0 x1:=⟨x0,x1,h0,h1,h2,h3,h4,h5⟩
def IB{p0 p1 p2 p3 p4:t0->t1->t2->Prop}(x0:t0)(x1:t1)(x2:t2)(h0:p0 x0 x1 x2)(h1:p1 x0 x1 x2)(h2:p2 x0 x1 x2)(h3:p3 x0 x1 x2)(h4:p4 x0 x1 x2):∃x0 x1 x2,p0 x0 x1 x2/\p1 x0 x1 x2/\p2 x0 x1 x2/\p3 x0 x1 x2/\p4 x0 x1 x2:=⟨x0,x1,x2,h0,h1,h2,h3,h4⟩
def UN{p0 p1 p2 p3 p4 p5:t0->t1->t2->Prop}(x0:t0)(x1:t1)(x2:t2)(h0:p0 x0 x1 x2)(h1:p1 x0 x1 x2)(h2:p2 x0 x1 x2)(h3:p3 x0 x1 x2)(h4:p4 x0 x1 x2)(h5:p5 x0 x1 x2):∃x0 x1 x2,p0 x0 x1 x2/\p1 x0 x1 x2/\p2 x0 x1 x2/\p3 x0 x1 x2/\p4 x0 x1 x2/\p5 x0 x1 x2:=⟨x0,x1,x2,h0,h1,h2,h3,h4,h5⟩
def Ny{p0:t0->t1->Prop}(x0:t0)(x1:t1)(h0:p0 x0 x1):∃x0 x1,p0 x0 x1:=⟨x0,x1,h0⟩
def Da{p0:t0->t1->t2->t3->t4->t5->Prop}(x0:t0)(x1:t1)(x2:t2)(x3:t3)(x4:t4)(x5:t5)(h0:p0 x0 x1 x2 x3 x4 x5):∃x0 x1 x2 x3 x4 x5,p0 x0 x1 x2 x3 x4 x5:=⟨x0,x1,x2,x3,x4,x5,h0⟩
def SV{p0 p1 p2 p3 p4:t0->t1->t2->t3->Prop}(x0:t0)(x1:t1)(x2:t2)(x3:t3)(h0:p0 x0 x1 x2 x3)(h1:p1 x0 x1 x2 x3)(h2:p2 x0 x1 x2 x3)(h3:p3 x0 x1 x2 x3)(h4:p4 x0 x1 x2 x3):∃x0 x1 x2 x3,p0 x0 x1 x2 x3/\p1 x0 x1 x2 x3/\p2 x0 x1 x2 x3/\p3 x0 x1 x2 x3/\p4 x0 x1 x2 x3:=⟨x0,x1,x2,x3,h0,h1,h2,h3,h4⟩
def TW{p0 p1 p2 p3 p4 p5:t0->Prop}(x0:t0)(h0:p0 x0)(h1:p1 x0)(h2:p2 x0)(h3:p3 x0)(h4:p4 x0)(h5:p5 x0):∃x0,p0 x0/\p1 x0/\p2 x0/\p3 x0/\p4 x0/\p5 x0:=⟨x0,h0,h1,h2,h3,h4,h5⟩
def UO{p0 p1 p2 p3:t0->t1->t2->t3->Prop}(x0:t0)(x1:t1)(x2:t2)(x3:t3)(h0:p0 x0 x1 x2 x3)(h1:p1 x0 x1 x2 x3)(h2:p2 x0 x1 x2 x3)(h3:p3 x0 x1 x2 x3):∃x0 x1 x2 x3,p0 x0 x1 x2 x3/\p1 x0 x1 x2 x3/\p2 x0 x1 x2 x3/\p3 x0 x1 x2 x3:=⟨x0,x1,x2,x3,h0,h1,h2,h3⟩
def Wq{p0 p1 p2:t0->t1->t2->t3->t4->Prop}(x0:t0)(x1:t1)(x2:t2)(x3:t3)(x4:t4)(h0:p0 x0 x1 x2 x3 x4)(h1:p1 x0 x1 x2 x3 x4)(h2:p2 x0 x1 x2 x3 x4):∃x0 x1 x2 x3 x4,p0 x0 x1 x2 x3 x4/\p1 x0 x1 x2 x3 x4/\p2 x0 x1 x2 x3 x4:=⟨x0,x1,x2,x3,x4,h0,h1,h2⟩
def Ys{p0 p1 p2 p3 p4 p5 p6:t0->t1->Prop}(x0:t0)(x1:t1)(h0:p0 x0 x1)(h1:p1 x0 x1)(h2:p2 x0 x1)(h3:p3 x0 x1)(h4:p4 x0 x1)(h5:p5 x0 x1)(h6:p6 x0 x1):∃x0 x1,p0 x0 x1/\p1 x0 x1/\p2 x0 x1/\p3 x0 x1/\p4 x0 x1/\p5 x0 x1/\p6 x0 x1:=⟨x0,x1,h0,h1,h2,h3,h4,h5,h6⟩
def Yt{p0:t0->t1->t2->t3->Prop}(x0:t0)(x1:t1)(x2:t2)(x3:t3)(h0:p0 x0 x1 x2 x3):∃x0 x1 x2 x3,p0 x0 x1 x2 x3:=⟨x0,x1,x2,x3,h0⟩
def Vt{p0 p1 p2 p3 p4 p5 p6:t0->t1->t2->Prop}(x0:t0)(x1:t1)(x2:t2)(h0:p0 x0 x1 x2)(h1:p1 x0 x1 x2)(h2:p2 x0 x1 x2)(h3:p3 x0 x1 x2)(h4:p4 x0 x1 x2)(h5:p5 x0 x1 x2)(h6:p6 x0 x1 x2):∃x0 x1 x2,p0 x0 x1 x2/\p1 x0 x1 x2/\p2 x0 x1 x2/\p3 x0 x1 x2/\p4 x0 x1 x2/\p5 x0 x1 x2/\p6 x0 x1 x2:=⟨x0,x1,x2,h0,h1,h2,h3,h4,h5,h6⟩
def ι{p0 p1:t0->Prop}{G:Prop}(h:∃x0,p0 x0/\p1 x0)(k:∀x0,p0 x0->p1 x0->G):G:=h.elim fun x0 g0=>k x0 g0.1 g0.2
def PV{G:Prop}(h:p0/\p1)(k:p0->p1->G):G:=k h.1 h.2
def Rh{p0 p1:t0->t1->Prop}{G:Prop}(h:∃x0 x1,p0 x0 x1/\p1 x0 x1)(k:∀x0,∀x1,p0 x0 x1->p1 x0 x1->G):G:=h.elim fun x0 g0=>g0.elim fun x1 g1=>k x0 x1 g1.1 g1.2
def aaM{G:Prop}(h:p0/\p1/\p2/\p3/\p4)(k:p0->p1->p2->p3->p4->G):G:=k h.1 h.2.1 h.2.2.1 h.2.2.2.1 h.2.2.2.2
def anl{p0 p1:t0->t1->t2->Prop}{G:Prop}(h:∃x0 x1 x2,p0 x0 x1 x2/\p1 x0 x1 x2)(k:∀x0,∀x1,∀x2,p0 x0 x1 x2->p1 x0 x1 x2->G):G:=h.elim fun x0 g0=>g0.elim fun x1 g1=>g1.elim fun x2 g2=>k x0 x1 x2 g2.1 g2.2
def ϱ{p0 p1 p2:t0->Prop}{G:Prop}(h:∃x0,p0 x0/\p1 x0/\p2 x0)(k:∀x0,p0 x0->p1 x0->p2 x0->G):G:=h.elim fun x0 g0=>k x0 g0.1 g0.2.1 g0.2.2
def UP{G:Prop}(h:p0/\p1/\p2/\p3/\p4/\p5)(k:p0->p1->p2->p3->p4->p5->G):G:=k h.1 h.2.1 h.2.2.1 h.2.2.2.1 h.2.2.2.2.1 h.2.2.2.2.2
def acm{G:Prop}(h:p0/\p1/\p2/\p3)(k:p0->p1->p2->p3->G):G:=k h.1 h.2.1 h.2.2.1 h.2.2.2
def Nm{p0 p1 p2:t0->t1->Prop}{G:Prop}(h:∃x0 x1,p0 x0 x1/\p1 x0 x1/\p2 x0 x1)(k:∀x0,∀x1,p0 x0 x1->p1 x0 x1->p2 x0 x1->G):G:=h.elim fun x0 g0=>g0.elim fun x1 g1=>k x0 x1 g1.1 g1.2.1 g1.2.2
def acn{p0:t0->t1->Prop}{G:Prop}(h:∃x0 x1,p0 x0 x1)(k:∀x0,∀x1,p0 x0 x1->G):G:=h.elim fun x0 g0=>g0.elim fun x1 g1=>k x0 x1 g1
def aco{p0 p1 p2:t0->t1->t2->Prop}{G:Prop}(h:∃x0 x1 x2,p0 x0 x1 x2/\p1 x0 x1 x2/\p2 x0 x1 x2)(k:∀x0,∀x1,∀x2,p0 x0 x1 x2->p1 x0 x1 x2->p2 x0 x1 x2->G):G:=h.elim fun x0 g0=>g0.elim fun x1 g1=>g1.elim fun x2 g2=>k x0 x1 x2 g2.1 g2.2.1 g2.2.2
def aaN{p0 p1 p2 p3 p4:t0->Prop}{G:Prop}(h:∃x0,p0 x0/\p1 x0/\p2 x0/\p3 x0/\p4 x0)(k:∀x0,p0 x0->p1 x0->p2 x0->p3 x0->p4 x0->G):G:=h.elim fun x0 g0=>k x0 g0.1 g0.2.1 g0.2.2.1 g0.2.2.2.1 g0.2.2.2.2
def sw{G:Prop}(h:p0/\p1/\p2)(k:p0->p1->p2->G):G:=k h.1 h.2.1 h.2.2
def RA{p0 p1 p2 p3:t0->t1->Prop}{G:Prop}(h:∃x0 x1,p0 x0 x1/\p1 x0 x1/\p2 x0 x1/\p3 x0 x1)(k:∀x0,∀x1,p0 x0 x1->p1 x0 x1->p2 x0 x1->p3 x0 x1->G):G:=h.elim fun x0 g0=>g0.elim fun x1 g1=>k x0 x1 g1.1 g1.2.1 g1.2.2.1 g1.2.2.2
def aeg{p0 p1:t0->t1->t2->t3->Prop}{G:Prop}(h:∃x0 x1 x2 x3,p0 x0 x1 x2 x3/\p1 x0 x1 x2 x3)(k:∀x0,∀x1,∀x2,∀x3,p0 x0 x1 x2 x3->p1 x0 x1 x2 x3->G):G:=h.elim fun x0 g0=>g0.elim fun x1 g1=>g1.elim fun x2 g2=>g2.elim fun x3 g3=>k x0 x1 x2 x3 g3.1 g3.2
def anm{p0 p1 p2 p3 p4:t0->t1->t2->Prop}{G:Prop}(h:∃x0 x1 x2,p0 x0 x1 x2/\p1 x0 x1 x2/\p2 x0 x1 x2/\p3 x0 x1 x2/\p4 x0 x1 x2)(k:∀x0,∀x1,∀x2,p0 x0 x1 x2->p1 x0 x1 x2->p2 x0 x1 x2->p3 x0 x1 x2->p4 x0 x1 x2->G):G:=h.elim fun x0 g0=>g0.elim fun x1 g1=>g1.elim fun x2 g2=>k x0 x1 x2 g2.1 g2.2.1 g2.2.2.1 g2.2.2.2.1 g2.2.2.2.2
def UQ{p0:t0->t1->t2->t3->t4->t5->Prop}{G:Prop}(h:∃x0 x1 x2 x3 x4 x5,p0 x0 x1 x2 x3 x4 x5)(k:∀x0,∀x1,∀x2,∀x3,∀x4,∀x5,p0 x0 x1 x2 x3 x4 x5->G):G:=h.elim fun x0 g0=>g0.elim fun x1 g1=>g1.elim fun x2 g2=>g2.elim fun x3 g3=>g3.elim fun x4 g4=>g4.elim fun x5 g5=>k x0 x1 x2 x3 x4 x5 g5
def TY{p0:t0->t1->t2->Prop}{G:Prop}(h:∃x0 x1 x2,p0 x0 x1 x2)(k:∀x0,∀x1,∀x2,p0 x0 x1 x2->G):G:=h.elim fun x0 g0=>g0.elim fun x1 g1=>g1.elim fun x2 g2=>k x0 x1 x2 g2
def agr{p0 p1 p2 p3:t0->Prop}{G:Prop}(h:∃x0,p0 x0/\p1 x0/\p2 x0/\p3 x0)(k:∀x0,p0 x0->p1 x0->p2 x0->p3 x0->G):G:=h.elim fun x0 g0=>k x0 g0.1 g0.2.1 g0.2.2.1 g0.2.2.2
def Vu{p0 p1 p2 p3:t0->t1->t2->Prop}{G:Prop}(h:∃x0 x1 x2,p0 x0 x1 x2/\p1 x0 x1 x2/\p2 x0 x1 x2/\p3 x0 x1 x2)(k:∀x0,∀x1,∀x2,p0 x0 x1 x2->p1 x0 x1 x2->p2 x0 x1 x2->p3 x0 x1 x2->G):G:=h.elim fun x0 g0=>g0.elim fun x1 g1=>g1.elim fun x2 g2=>k x0 x1 x2 g2.1 g2.2.1 g2.2.2.1 g2.2.2.2
def aeh{p0 p1 p2 p3 p4 p5 p6:t0->t1->t2->t3->t4->Prop}{G:Prop}(h:∃x0 x1 x2 x3 x4,p0 x0 x1 x2 x3 x4/\p1 x0 x1 x2 x3 x4/\p2 x0 x1 x2 x3 x4/\p3 x0 x1 x2 x3 x4/\p4 x0 x1 x2 x3 x4/\p5 x0 x1 x2 x3 x4/\p6 x0 x1 x2 x3 x4)(k:∀x0,∀x1,∀x2,∀x3,∀x4,p0 x0 x1 x2 x3 x4->p1 x0 x1 x2 x3 x4->p2 x0 x1 x2 x3 x4->p3 x0 x1 x2 x3 x4->p4 x0 x1 x2 x3 x4->p5 x0 x1 x2 x3 x4->p6 x0 x1 x2 x3 x4->G):G:=h.elim fun x0 g0=>g0.elim fun x1 g1=>g1.elim fun x2 g2=>g2.elim fun x3 g3=>g3.elim fun x4 g4=>k x0 x1 x2 x3 x4 g4.1 g4.2.1 g4.2.2.1 g4.2.2.2.1 g4.2.2.2.2.1 g4.2.2.2.2.2.1 g4.2.2.2.2.2.2
def ai'{p0 p1 p2 p3 p4:t0->t1->Prop}{G:Prop}(h:∃x0 x1,p0 x0 x1/\p1 x0 x1/\p2 x0 x1/\p3 x0 x1/\p4 x0 x1)(k:∀x0,∀x1,p0 x0 x1->p1 x0 x1->p2 x0 x1->p3 x0 x1->p4 x0 x1->G):G:=h.elim fun x0 g0=>g0.elim fun x1 g1=>k x0 x1 g1.1 g1.2.1 g1.2.2.1 g1.2.2.2.1 g1.2.2.2.2
def ags{p0:t0->Prop}{G:Prop}(h:∃x0,p0 x0)(k:∀x0,p0 x0->G):G:=h.elim fun x0 g0=>k x0 g0
def aaO (h:True:=by first | exact .inl rfl | exact .inr rfl | assumption):True:=h
def M9 (h:True:=by decide):True:=h
def aja (h:True:=by first | exact acp _ (by decide) (by decide) | rfl):True:=h
def ϩ (h:True:=by rfl):True:=h
def Wr (h:True:=by intro _;rfl):True:=h
def ajb (h:True:=by with_unfolding_all rfl):True:=h
def acq (h:True:=by first | exact ϵ rfl | exact Vm (ϵ rfl) | exact Vm (Vm rfl)):True:=h
def ann (h:True:=by exact ϵ rfl):True:=h
def ano (h:True:=by intro _ _;rfl):True:=h
end
section
open PySem PySem.Spec PyProof.Rows
noncomputable abbrev Key:=Sum Int Str
abbrev Uu:Key->Υ->Bool
 | .inl k,v=>agg k v
 | .inr x,v=>ad6 x v
abbrev anp (w:J'):Key->Int
 | .inl k=>hashInt k
 | .inr x=>hashStr w x
def b6:∀{k:Key} {v:Υ},Uu k v=true->(∃i t,k=PL i/\v=abK i t)\/(∃x t,k=Up x/\v=aiV x t)
 | .inl i,v,h=>by
  obtain⟨t,e⟩:=Value.isInt_shape h;show .inl (cr i t rfl e)
 | .inr x,v,h=>by
  obtain⟨t,e⟩:=Value.isStrOf_shape h;show .inr (cr x t rfl e)
def BH (i:Int)(t:Tok):Uu (.inl i) (.int i t)=true:=by simp[Uu,agg]
def BI (x:Str)(t:Tok):Uu (.inr x) (.str x t)=true:=by simp[Uu,ad6]
def Jp (a b:Int):decide ((PL a:Key)=PL b)=(a == b):=by
 by_cases e:a=b
 ·subst e;simp
 ·let h:¬(PL a:Key)=PL b:=λq=>e (Ya q)
  rw[Ϫ h];show(Np.mpr e).17
def Jq (a b:Str):decide ((Up a:Key)=Up b)=decide (a=b):=by
 by_cases e:a=b
 ·subst e;simp
 ·let h:¬(Up a:Key)=Up b:=λq=>e (At q)
  rw[Ϫ h,Ϫ e]
def Jr (a:Int)(b:Str):decide ((PL a:Key)=Up b)=false:=Ϫ (λq=>nomatch q)
def Js (a:Str)(b:Int):decide ((Up a:Key)=PL b)=false:=Ϫ (λq=>nomatch q)
abbrev ww (prog:ϯ)(w:J'):PySem.KeyKind prog w Key where
 is:=Uu
 hash:=anp w
 inj:=λv a b ha hb=>by
  rcases b6 ha with⟨i,t,rfl,rfl⟩ | ⟨x,t,rfl,rfl⟩
  ·rcases b6 hb with⟨j,u,rfl,e⟩ | ⟨y,u,rfl,e⟩
   ·injection e with e1 _;rw[e1]
   ·show nomatch e
  ·rcases b6 hb with⟨j,u,rfl,e⟩ | ⟨y,u,rfl,e⟩
   ·show nomatch e
   ·injection e with e1 _;rw[e1]
 byValue:=λk v h=>by
  rcases b6 h with⟨i,t,rfl,rfl⟩ | ⟨x,t,rfl,rfl⟩<;>rfl
 pyHash:=λhv h=>by
  rcases b6 hv with⟨i,t,rfl,rfl⟩ | ⟨x,t,rfl,rfl⟩
  ·show wpAny_pyHash_int h
  ·show wpAny_pyHash_str h
 eqBool:=λhu hv h=>by
  rcases b6 hu with⟨i,t,rfl,rfl⟩ | ⟨x,t,rfl,rfl⟩
  ·rcases b6 hv with⟨j,u,rfl,rfl⟩ | ⟨y,u,rfl,rfl⟩
   ·rw[Jp] at h;show wpAny_eqBool_int h
   ·rw[Jr] at h;show Xp i t y u _ _ _ _ h
  ·rcases b6 hv with⟨j,u,rfl,rfl⟩ | ⟨y,u,rfl,rfl⟩
   ·rw[Js] at h;show Xq x t j u _ _ _ _ h
   ·rw[Jq] at h;show wpAny_eqBool_str h
 «strs»:=λk x t v h=>by
  rcases b6 h with⟨i,u,rfl,e⟩ | ⟨y,u,rfl,e⟩
  ·show nomatch e
  ·injection e with e1 _
   subst e1;cases v<;>rfl
def wy (prog:ϯ)(w:J')(i:Int)(t:Tok):(ww prog w).is (.inl i) (.int i t)=true:=BH i t
def oP (prog:ϯ)(w:J')(x:Str)(t:Tok):(ww prog w).is (.inr x) (.str x t)=true:=BI x t
inductive V where
 | k4 | bl (b:Bool) | int (i:Int) | str (x:Str) | Y' (b:Array UInt8) | flt (b:UInt64) | ref (a:Ι) | ty (n:String)
 deriving DecidableEq
abbrev RelV:V->Υ->Prop
 | .k4,u=>u=NY
 | .bl b,u=>u=aac b
 | .int i,u=>∃t,u=abK i t
 | .str x,u=>∃t,u=aiV x t
 | .Y' b,u=>∃t,u=Value.bytes b t
 | .flt b,u=>∃t,u=Value.float b t
 | .ref a,u=>u=ϫ a
 | .ty n,u=>u=We n
theorem Vals:-V->-Υ->Prop:=Paired RelV
def Vals.length (r:Vals xs us):xs.4=us.4:=Paired.length r
def Vals.get {xs:-V}{us:-Υ}{i:Nat}{x:V}(r:Vals xs us)(e:xs[i]?=!x):∃u,us[i]?=!u/\RelV x u:=by
 induction r generalizing i with
 | nil=>simp at e
 | cons r t ih=>cases i with
  | zero=>simp at e;subst e;show(Λ _ rfl r)
  | succ i=>simpa using ih (by simpa using e)
def Vals.set {x:V}(r:RelV x u){xs:-V}{us:-Υ}(i:Nat)(q:Vals xs us):Vals (xs.set i x) (us.set i u):=by
 induction q generalizing i with
 | nil=>show .nil
 | cons q t ih=>cases i with
  | zero=>show .cons r t
  | succ i=>show .cons q (ih i)
def Vals.append {xs ys:-V}{us ws:-Υ}(r:Vals xs us)(s:Vals ys ws):Vals (xs++ys) (us++ws):=by
 induction r with
 | nil=>show s
 | cons r t ih=>show .cons r ih
def Vals.take {xs:-V}{us:-Υ}(n:Nat)(r:Vals xs us):Vals (xs.take n) (us.take n):=by
 induction r generalizing n with
 | nil=>cases n<;>show .nil
 | cons r t ih=>cases n with
  | zero=>show .nil
  | succ n=>show .cons r (ih n)
def Vals.drop {xs:-V}{us:-Υ}(n:Nat)(r:Vals xs us):Vals (xs.drop n) (us.drop n):=by
 induction r generalizing n with
 | nil=>cases n<;>show .nil
 | cons r t ih=>cases n with
  | zero=>show .cons r t
  | succ n=>show ih n
abbrev OE:Option V->Option Υ->Prop
 | some v,some u=>RelV v u
 | none,none=>True
 | _,_=>False
abbrev KV:-(κ×V)->-(κ×Υ)->Prop:=Paired λp q=>p.1=q.1/\RelV p.2 q.2
abbrev kV:Key->V
 | .inl i=>.int i
 | .inr x=>.str x
inductive HO where
 | lst (xs:-V)
 | tup (xs:-V)
 | dK (ϓ:-(Key×V)) | dT (ϓ:-(-Key×V))
 | set (S:Int->Bool) (n:Nat)
 | ins (C dx:Ι) (fs:-(Str×V))
 | own (x:Ι)
 | xd (fs:-(Str×V))
 | met (f x:Ι)
 | rng (lo hi:Int)
 | Ve (o:Obj) (u:HO)
 | tbl (ps:Array Υ)
 | ext (φ:be->Prop)
noncomputable abbrev Hp:=Ι->Option HO
abbrev upd (H:Hp)(a:Ι)(o:HO):Hp:=λb=>if b=a then some o else H b
def aa :upd H a o a=!o:=by unfold upd;rw[γ rfl]
def ag (h:b≠a):upd H a o b=H b:=by unfold upd;rw[Φ h]
def AQ {o u:HO}:upd (upd H a o) a u=upd H a u:=by
 funext b;unfold upd;split<;>rfl
def bO {H:Hp}{o u:HO}(h:H a=!o)(h':H b=!u)(d:o≠u):a≠b:=by
 intro e;subst e;rw[h] at h';show d (Ϭ h')
def aq {H:Hp}(h:H a=!o)(h':H b=none):a≠b:=by
 intro e;subst e;rw[h] at h';cases h'
section
variable (P:ϯ) (w:J')
theorem Rgo (lo hi:Int)(t u v:Nat):Obj:={ cls:=.type "range",data:=.fields #[.int lo t,.int hi u,.int 1 v] }
abbrev Na (H:Hp)(h:be)(a:Ι):HO->Prop
 | .lst xs=>xs.4<=sizeLine/\∃(fT:-Υ) (n:Nat),Vals xs fT/\h.get? a=some { cls:=.type "list",data:=.seq fT.10 n }
 | .tup xs=>xs.4<=sizeLine/\∃fT:-Υ,Vals xs fT/\IsTup h a fT.10
 | .dK ϓ=>ϓ.4<=sizeLine/\(a == sysModules)=false/\∃vs,KV ϓ vs/\h.DictOf (ww P w) a vs
 | .dT ϓ=>ϓ.4<=sizeLine/\(a == sysModules)=false/\∃xs:-(-Key×Ι×Υ),
   Paired (λ(p:-Key×V) (q:-Key×Ι×Υ)=>p.1=q.1/\H q.2.1=!.tup (p.1.map kV)/\RelV p.2 q.2.2) ϓ xs/\
   ∃o es ep,h.get? a=!o/\o.ExactDict/\o.52=.dict es ep/\es.37=xs.map (entryOfKey (tupleKind (ww P w)))/\(xs.map (·.1)).14
 | .set S n=>h.SetOf (intKind P w) a S n
 | .ins C dx fs=>H dx=!.own a/\fs.4<=1000/\dx≠a/\h.get? a=!P7 C dx/\
   ∃mA,h.Ns1 dx mA/\(∀f,OE (fs.lookup f) (mA f))/\PySem.Within mA (fs.map (·.1))
 | .own _=>∃o,h.get? a=!o
 | .xd fs=>∃mA,h.Ns1 a mA/\∀f,OE (fs.lookup f) (mA f)
 | .rng lo hi=>∃t u v,h.get? a=!Rgo lo hi t u v
 | .Ve o u=>h.get? a=!o/\Na H h a u
 | .tbl ps=>h.get? a=some { cls:=.none,data:=.fields ps }
 | .met f x=>h.get? a=!amY (.ref f) (.ref x)
 | .ext φ=>φ h/\(∃o,h.get? a=!o)/\∀h1 h2:be,φ h1->(∀o,h1.get? a=!o->h2.get? a=!o)->φ h2
abbrev Rt (H:Hp)(h:be):Prop:=∀a o,H a=!o->Na P w H h a o
end
section
variable {P:ϯ} {H H':Hp} {h h':be} {o:HO}
def Na.lt (x:Na P w H h a o):a < h.7:=by
 cases o with
 | lst xs=>(revert x;show Nl λ_=>v0 λ_ _ _ e=>?_);show π e
 | tup xs=>(revert x;show Nl λ_=>ϭ λ_ _ p=>?_);show p.lt
 | dK ϓ=>(revert x;show N8 λ_ _=>ϭ λ_ _=>Rw λo _ _ e _=>?_);show π e
 | dT ϓ=>(revert x;show N8 λ_ _=>ϭ λ_ _=>Rw λo _ _ e _=>?_);show π e
 | set S n=>(revert x;show N9 λo _ _ _ e _=>?_);show π e
 | ins C dx fs=>(revert x;show Qy λ_ _ _ e _=>?_);show π e
 | own y=>obtain⟨_,e⟩:=x;show π e
 | xd fs=>(revert x;show ϭ λ_ μ _=>?_;obtain ⟨_,_,_,e,_⟩:=μ);show π e
 | rng lo hi=>(revert x;show SS λ_ _ _ e=>?_);show π e
 | Ve ob u=>obtain⟨e,_⟩:=x;show π e
 | tbl ps=>show π (x)
 | met f y=>show π (x)
 | ext φ=>(revert x;show N8 λ_ μ _=>?_;obtain ⟨_,e⟩:=μ);show π e
def Paired.agt {F G:α->β->Prop}{l₁:-α}{l₂:-β}(r:Paired F l₁ l₂)(f:∀a b,F a b->G a b):Paired G l₁ l₂:=by
 induction r with
 | nil=>show .nil
 | cons r t ih=>show .cons (f _ _ r) ih
def Na.Qa (x:Na P w H h a o)(k:∀b u,(b=a\/H b=!.own a)->h.get? b=!u->h'.get? b=!u)
  (ho:∀b,H b=!.own a->H' b=!.own a) (ht:∀b xs,H b=!.tup xs->H' b=!.tup xs):Na P w H' h' a o:=by
 induction o with
 | lst xs=>(revert x;show Nl λz=>v0 λfT n r e=>?_);show⟨z,(cr fT n r (k _ _ (.inl rfl) e))⟩
 | tup xs=>(revert x;show Nl λz=>ϭ λfT r=>ϭ λob e c=>?_);show⟨z,(Λ fT r (Λ ob (k _ _ (.inl rfl) e) c))⟩
 | dK ϓ=>(revert x;show N8 λz y=>ϭ λvs r=>Rw λob es ep e c=>?_);show⟨z,y,(Λ vs r (SU ob es ep (k _ _ (.inl rfl) e) c))⟩
 | dT ϓ=>
  (revert x;show N8 λz y=>ϭ λxs r=>Rw λob es ep e c=>?_);show⟨z,y,(Λ xs (Paired.agt r λp q z=>⟨z.1,ht _ _ z.2.1,z.2.2⟩) (SU ob es ep (k _ _ (.inl rfl) e) c))⟩
 | set S n=>(revert x;show N9 λob es ep t e c=>?_);show(Sr ob es ep t (k _ _ (.inl rfl) e) c)
 | ins C dx fs=>
  (revert x;show Qy λd z ne e=>ϭ λmA μ r=>?_;obtain ⟨od,es,ep,e2,c⟩:=μ);show⟨ho _ d,z,ne,k _ _ (.inl rfl) e,(Λ mA (SU od es ep (k _ _ (.inr d) e2) c) r)⟩
 | own y=>obtain⟨ob,e⟩:=x;show⟨ob,k _ _ (.inl rfl) e⟩
 | xd fs=>(revert x;show ϭ λmA μ r=>?_;obtain ⟨od,es,ep,e,c⟩:=μ);show(Λ mA (SU od es ep (k _ _ (.inl rfl) e) c) r)
 | rng lo hi=>(revert x;show SS λt u v e=>?_);show(UK t u v (k _ _ (.inl rfl) e))
 | Ve ob u ih=>obtain⟨e,q⟩:=x;show⟨k _ _ (.inl rfl) e,ih q⟩
 | tbl ps=>
  let e:=x;change h'.get? a=some { cls:=.none,data:=.fields ps };show k a _ (.inl rfl) e
 | met f y=>
  let e:=x;change h'.get? a=!amY (.ref f) (.ref y);show k a _ (.inl rfl) e
 | ext φ=>(revert x;show N8 λp μ st=>?_;obtain ⟨o,e⟩:=μ);show⟨st _ _ p λo q=>k _ _ (.inl rfl) q,⟨o,k _ _ (.inl rfl) e⟩,st⟩
def Rt.lt (x:Rt P w H h)(e:H a=!o):a < h.7:=(x a o e).lt
def Rt.fresh (x:Rt P w H h)(e:h.7<=a):H a=none:=by
 cases q:H a with
 | none=>rfl
 | some u=>show absurd (Ϥ (x.lt q) e) (Nj _)
def Rt.kept (x:Rt P w H h)(k:∀b u,h.get? b=!u->h'.get? b=!u):Rt P w H h':=λa o e=>
 (x a o e).Qa (λb u _ q=>k b u q) (λ_ q=>q) λ_ _ q=>q
def Rt.laid (x:Rt P w H h)(k:∀b u,h.get? b=!u->h'.get? b=!u)(hp:h.7<=a)(new:Na P w (upd H a o) h' a o):Rt P w (upd H a o) h':=λb u e=>by
 let hn:=x.fresh hp
 by_cases hb:b=a
 ·subst hb;rw[aa] at e;cases e;show new
 ·rw[ag hb] at e
  show(x b u e).Qa (λc v _ q=>k c v q) (λc q=>by rw[ag (aq q hn)];show q) λc xs q=>by rw[ag (aq q hn)];show q
end
abbrev Rd (H:Hp)(a:Ι)(u:HO):Prop:=H a=!u\/∃o,H a=!.Ve o u
def Rd.ok {u:HO}(r:Rd H a u)(x:Rt P w H h):Na P w H h a u:=by
 rcases r with r | ⟨o,r⟩
 ·show x a u r
 ·obtain⟨_,q⟩:=x a _ r
  show q
abbrev Mut:Option HO->Prop
 | some (.lst _)=>True
 | some (.dK _)=>True
 | some (.dT _)=>True
 | some (.set _ _)=>True
 | some (.ins _ _ _)=>True
 | some (.ext _)=>True
 | _=>False
section
variable {P:ϯ} {H:Hp} {h h':be} {x e:Ι} {o':HO}
def Rt.write (ok:Rt P w H h)(mu:Mut (H x))(he:e=x\/H e=!.own x)(k:∀b u,b≠e->h.get? b=!u->h'.get? b=!u)(heo:∃u,h'.get? e=!u)
  (new:Na P w (upd H x o') h' x o'):Rt P w (upd H x o') h':=λb u q=>by
 let acr:∀c y,H c=!.own y->c≠x:=λc y r z=>by subst z;rw[r] at mu;show mu
 let agu:∀c xs,H c=!.tup xs->c≠x:=λc xs r z=>by subst z;rw[r] at mu;show mu
 by_cases hb:b=x
 ·subst hb;rw[aa] at q;cases q;show new
 ·rw[ag hb] at q
  by_cases hbe:b=e
  ·let q':H b=!.own x:=by
    rcases he with z | z
    ·show absurd (hbe.trans z) hb
    ·rw[hbe];show z
   rw[q] at q';cases q';obtain⟨v,hv⟩:=heo;show⟨v,by rw[hbe];show hv⟩
  ·show(ok b u q).Qa (λc v hc r=>k c v ?_ r) (λc r=>by rw[ag (acr c b r)];show r) λc xs r=>by rw[ag (agu c xs r)];show r
   rcases hc with rfl | hc
   ·show hbe
   ·rintro rfl
    rcases he with z | z
    ·show acr c b hc z
    ·rw[hc] at z;cases z;show hb rfl
end
structure Un (fs ex:-Ι)(H H':Hp)(h h':be):Prop where
 keep:∀b o,h.get? b=!o->H b=none->b∉fs->b∉ex->h'.get? b=!o
 slot:∀b o,h.get? b=!o->H b=none->b∈fs->b∉ex->∃sl,h'.get? b=some { o with slots:=sl }
 free:∀b o,h.get? b=!o->H b=none->b∉ex->H' b=none
 there:∀b o,h.get? b=!o->b∉ex->∃o',h'.get? b=!o'
 Ri:∀b xs,H b=!.tup xs->H' b=!.tup xs
 QU:∀b o u,H b=!.Ve o u->H' b=!.Ve o u
 Rj:∀b ps,H b=!.tbl ps->∃more,H' b=!.tbl (ps++more)
section
variable {fs fs' ex ex':-Ι} {H H1 H2:Hp} {h h1 h':be} {x e:Ι} {o:HO}
def Un.any (u:Un fs ex H H1 h h1)(q:h.get? b=!ob)(n:H b=none)(hx:b∉ex):∃sl,h1.get? b=some { ob with slots:=sl }:=by
 by_cases hb:b∈fs
 ·show u.slot b ob q n hb hx
 ·show⟨ob.68,u.keep b ob q n hb hx⟩
def Un.kept (k:∀b u,h.get? b=!u->h'.get? b=!u):Un fs ex H H h h':=
 ⟨λb ob q _ _ _=>k b ob q,λb ob q _ _ _=>⟨ob.68,k b ob q⟩,λ_ _ _ n _=>n,λb ob q _=>⟨ob,k b ob q⟩,λ_ _ q=>q,λ_ _ _ q=>q,λ_ ps q=>⟨#[],by rw[q];simp⟩⟩
def Un.refl:Un fs ex H H h h:=Un.kept λ_ _ q=>q
def Un.laid (k:∀b u,h.get? b=!u->h'.get? b=!u)(hp:h.7<=a)(hn:H a=none):Un fs ex H (upd H a o) h h' where
 keep:=λb u q _ _ _=>k b u q
 slot:=λb u q _ _ _=>⟨u.68,k b u q⟩
 free:=λb u q n _=>by rw[ag (Ϧ (Ϥ (π q) hp))];show n
 there:=λb u q _=>⟨u,k b u q⟩
 Ri:=λb xs q=>by rw[ag (aq q hn)];show q
 QU:=λb u xs q=>by rw[ag (aq q hn)];show q
 Rj:=λb ps q=>⟨#[],by rw[ag (aq q hn),q];simp⟩
def Un.write (mu:Mut (H x))(he:e=x\/H e=!.own x)(k:∀b u,b≠e->h.get? b=!u->h'.get? b=!u)(heo:∃u,h'.get? e=!u):Un fs ex H (upd H x o) h h':=by
 let hx:∀b,H b=none->b≠x:=λb n z=>by subst z;rw[n] at mu;show mu
 let hb:∀b,H b=none->b≠e:=λb n z=>by
  subst z;rcases he with r | r
  ·show hx b n r
  ·rw[n] at r;cases r
 let hm:∀b u,H b=!u->¬Mut (!u)->b≠x:=λb u q nm z=>by subst z;rw[q] at mu;show nm mu
 show⟨λb u q n _ _=>k b u (hb b n) q,λb u q n _ _=>⟨u.68,k b u (hb b n) q⟩,λb u q n _=>by rw[ag (hx b n)];show n,λb u q _=>?_,
  λb xs q=>by rw[ag (hm b _ q λz=>z)];show q,λb u xs q=>by rw[ag (hm b _ q λz=>z)];show q,λb ps q=>⟨#[],by rw[ag (hm b _ q λz=>z),q];simp⟩⟩
 by_cases hbe:b=e
 ·subst hbe;show heo
 ·show⟨u,k b u hbe q⟩
end
abbrev trk (h:be)(H:Hp):-Ι:=(Ϟ h.7).filter λa=>(H a).12
abbrev Yu (h:be)(H:Hp):be:=as1 h (trk h H)
def BJ (h:be)(H:Hp):(Yu h H).7=h.7:=W.hideAll_size _ _
def EK (e:h.get? b=!o)(n:H b=none):(Yu h H).get? b=!o:=
 TK _ e λhm=>by
  let q:=(Nh.mp hm).2;rw[n] at q;simp at q
def G9 (e:(Yu h H).get? b=!o):h.get? b=!o/\H b=none:=by
 let e':=alH (trk h H) e;show⟨e',?_⟩;cases q:H b with
 | none=>rfl
 | some x=>
  let hm:b∈trk h H:=Nh.mpr ⟨Ow.mpr (π e'),by simp[q]⟩;let z:(Yu h H).get? b=none:=aie (trk h H) hm;rw[z] at e;cases e
structure Mod (K:Ψ)(mg:Str->Option Υ)(base:be):Prop where
 kin:K.In base
 glob:base.Ns mainGlobals mg
 blt:∃mb,base.Ns builtinsNs mb/\∀x:Str,x ≠ "__name__" -> mb x=bootBuiltins x
 nolimit:base.NoLimit
set_option genInjectivity false in
structure Cx where
 prog:ϯ
 w:J'
 K:Ψ
 mg:Str->Option Υ
 base:be
 A:QH
 N:-Str
 s₀:η
 H₀:Hp
 env:Env
 outer:-Env
 stack:-Env
 ex:-Ι
 fn:Str->Bool
 calm:Bool
 pn:-(Ι×Obj)
 xe:Υ->η->Prop
abbrev TC (l:-Env):-Ι:=l.filterMap (·.frame)
theorem Cx.fs (X:Cx):-Ι:=TC X.61
abbrev Vis (sc:QI)(x:Str):Prop:=sc.names.lookup x=!.local\/sc.names.lookup x=!.cell\/sc.names.lookup x=!.free
abbrev Loc (sc:QI)(x:Str):Prop:=sc.names.lookup x=!.local\/sc.names.lookup x=!.cell
abbrev Look (env:Env)(h:be)(m:Str->Option Υ)(x:Str)(u:Υ):Prop:=
 (env.kindOf x=!.local/\m x=!u)\/((env.kindOf x=!.cell\/env.kindOf x=!.free)/\∃c,env.cells.lookup x=!c/\h.IsCell c (!u))
structure Cx.Ok (X:Cx):Prop where
 mod:Mod X.K X.mg X.50
 kind:X.env.27=.function
 glob:X.60=mainGlobals
 blt:X.env.builtins=builtinsNs
 above:X.s₀.5<=X.16
 inj:∀x y c,X.env.cells.lookup x=!c->X.env.cells.lookup y=!c->x=y
 has:∀x,(X.env.kindOf x=!.cell\/X.env.kindOf x=!.free)->∃c,X.env.cells.lookup x=!c
 cab:∀x c,X.fn x=true->X.env.cells.lookup x=!c->X.s₀.5<=c
 hd:X.39=true->X.A.48=none
 frames:X.A.32=!X.20
 stk:X.20=X.61\/(X.20=X.9::X.61/\X.env.81=!X.16)
 exf:∀b∈X.ex,b≠X.16/\∀x c,X.env.cells.lookup x=!c->c≠b
 bs:∀b o,X.base.get? b=!o->X.s₀.heap.get? b=!o/\X.H₀ b=none
 bsz:X.base.7<=X.s₀.5
 Yv:∀b o,X.base.get? b=!o->b∉X.ex
 aaP:∀b∈X.ex,b∉X.fs
 Ss:X.s₀.heap.FunFrames X.50 X.61
 frf:∀b∈X.fs,X.H₀ b=none
structure Inv (X:Cx)(pins:-(Ι×Obj))(σ:-(Option V))(H:Hp)(s:η):Prop where
 ok:X.Ok
 os:s.os=X.s₀.os
 bare:Q7 s.80
 base:Un X.fs X.ex X.H₀ H X.s₀.8 s.8
 loc:∃m,s.heap.Ns X.16 m/\∀(i:Nat) (x:Str) (v:V),X.N[i]?=!x->σ[i]?=!some v->Vis X.15 x->∃u,RelV v u/\Look X.9 s.8 m x u
 cell:∀x c,X.env.cells.lookup x=!c->∃v,s.heap.IsCell c v
 free:H X.16=none
 P0:∀x c,X.env.cells.lookup x=!c->H c=none
 pin:∀p∈X.pn++pins,s.heap.get? p.1=!p.2/\H p.1=none/\p.1≠X.16/\p.1∉X.fs/\∀v,p.2.52≠.cell v
 lu:Rt X.24 X.w H s.8
 len:σ.4=X.N.4
section
variable {X:Cx} {σ:-(Option V)} {H H':Hp} {s:η} {h':be}
def Cx.Ok.anq (ok:X.Ok)(e:X.base.get? b=!o):b∉X.fs:=λhb=>by
 have:=(ok.Ss.mem hb).1;rw[e] at this;cases this
def Inv.bs (I:Inv X pins σ H s):∀b o,X.base.get? b=!o->s.heap.get? b=!o/\H b=none:=λb o e=>
 ⟨I.base.keep b o (I.ok.bs b o e).1 (I.ok.bs b o e).2 (I.ok.anq e) (I.ok.Yv b o e),I.base.free b o (I.ok.bs b o e).1 (I.ok.bs b o e).2 (I.ok.Yv b o e)⟩
def Inv.bk (I:Inv X pins σ H s):∀b o,X.base.get? b=!o->s.heap.get? b=!o:=λb o e=>(I.bs b o e).1
def Inv.mod (I:Inv X pins σ H s):Mod X.K X.mg X.50:=I.95
def Inv.QV (I:Inv X pins σ H s):X.K.In s.8:=I.ok.mod.kin.keeps I.bk
def Inv.lt (I:Inv X pins σ H s):X.16 < s.5:=let ⟨_,hn,_⟩:=I.87;hn.lt
def Inv.sz (I:Inv X pins σ H s):X.s₀.5<=s.5:=ο I.41 (Y1 I.lt)
def Inv.anr (I:Inv X pins σ H s)(h:s.5<=a):a∉X.fs:=λhb=>by
 (show PV (I.ok.Ss.mem hb) λ_=>ϭ λo ho _=>?_);show absurd (Ϥ (π ho) (ο I.sz h)) (Nj _)
def Inv.cne (I:Inv X pins σ H s):∀x c,X.env.cells.lookup x=!c->c≠X.16:=λx c e z=>by
 (show Rh (I.cell x c e) λv o ho hd=>?_);(show ι I.87 λm μ _=>?_;obtain ⟨o',es,ep,Zf,Vf,_⟩:=μ);rw[z,Zf] at ho;cases ho;rw[Vf] at hd;cases hd
def Inv.Ss (I:Inv X pins σ H s):s.heap.FunFrames X.50 X.61:=by
 let all:∀l,(∀b∈TC l,b∈X.fs)->X.s₀.heap.FunFrames X.50 l->s.heap.FunFrames X.50 l:=by
  intro l
  induction l with
  | nil=>intro _ _;trivial
  | cons env r ih=>
   intro hs hl;(revert hl;show N8 λhk μ hr=>?_;obtain ⟨L,o,hf,hn,ho,hd⟩:=μ);let hL:=hs L (by unfold TC;rw[pi,hf];show ϳ);obtain⟨sl,e⟩:=I.base.slot L o ho (I.ok.frf L hL) hL λz=>I.ok.aaP L z hL;show⟨hk,(Fk L _ hf hn e hd),ih (λb hb=>hs b (by unfold TC;rw[pi,hf];show θ _ hb)) hr⟩
 show all X.61 (λ_ hb=>hb) I.ok.Ss
def Inv.stack (I:Inv X pins σ H s):s.heap.FunFrames X.50 X.20:=by
 rcases I.96 with e | ⟨e,hf⟩
 ·rw[e];show I.Ss
 ·rw[e]
  (show ι I.87 λm hn _=>?_);show .cons (by rw[I.38];decide) hf hn (Heap.get?_none_of_le (ο I.97 I.41)) I.Ss
def Inv.Vv (I:Inv X pins σ H s):∀b∈TC X.20,b∈X.16::X.fs:=λb hb=>by
 rcases I.96 with e | ⟨e,hf⟩
 ·rw[e] at hb;show θ _ hb
 ·rw[e] at hb
  unfold TC at hb;rw[pi,hf] at hb;show hb
def Inv.Xw (I:Inv X pins σ H s):∀b∈TC X.20,H b=none:=λb hb=>by
 rcases Κ.mp (I.Vv b hb) with e | hb
 ·rw[e];show I.58
 ·(show PV (I.ok.Ss.mem hb) λ_=>ϭ λo ho _=>?_)
  show I.base.free b o ho (I.ok.frf b hb) λz=>I.ok.aaP b z hb
def Inv.step (I:Inv X pins σ H s)
  (hch:∀b∈ch,(b∈X.ex\/X.s₀.5<=b)/\b≠X.16/\(∀x c,X.env.cells.lookup x=!c->c≠b)/\∀p∈X.pn++pins,p.1≠b)
  (keep:∀b o,b≠X.16->b∉X.fs->b∉ch->s.heap.get? b=!o->H b=none->h'.get? b=!o)
  (slot:∀b o,b≠X.16->b∈X.fs->b∉ch->s.heap.get? b=!o->H b=none->∃sl,h'.get? b=some { o with slots:=sl }) (free:∀b o,b∉ch->s.heap.get? b=!o->H b=none->H' b=none)
  (there:∀b o,b∉ch->s.heap.get? b=!o->∃o',h'.get? b=!o')
  (Ri:∀b xs,H b=!.tup xs->H' b=!.tup xs) (QU:∀b o u,H b=!.Ve o u->H' b=!.Ve o u) (Rj:∀b ps,H b=!.tbl ps->∃more,H' b=!.tbl (ps++more))
  (ns:∀m,s.heap.Ns X.16 m->h'.Ns X.16 m) (lu:Rt X.24 X.w H' h') (hg:Q7 g') :
  Inv X pins σ H' { s with heap:=h',gens:=g',drawn:=d',toks:=t' }:=by
 let neL:∀b o,X.s₀.heap.get? b=!o->b≠X.16:=λb o e=>Ϧ (Ϥ (π e) I.41);let neC:∀b o,X.s₀.heap.get? b=!o->b∉X.ex->b∉ch:=λb o e hx hb=>by
  rcases(hch b hb).1 with z | z
  ·show hx z
  ·show absurd (Ϥ (π e) z) (Nj _)
 let cellK:∀x c,X.env.cells.lookup x=!c->∀v,s.heap.IsCell c v->h'.IsCell c v:=λx c e v zz=>ι zz λo ho hd=>by
  let nch:=λz=>(hch c z).2.2.1 x c e rfl
  by_cases hc:c∈X.fs
  ·obtain⟨sl,q⟩:=slot c o (I.cne x c e) hc nch ho (I.P0 x c e)
   show(Λ _ q hd)
  ·show(Λ o (keep c o (I.cne x c e) hc nch ho (I.P0 x c e)) hd)
 show⟨I.ok,I.os,hg,⟨λb o e n hb hx=>?_,λb o e n hb hx=>?_,λb o e n hx=>?_,λb o e hx=>?_,λb xs e=>Ri b xs (I.base.Ri b xs e),λb o xs e=>QU b o xs (I.base.QU b o xs e),λb ps e=>?_⟩,?_,λx c e=>?_,?_,λx c e=>?_,λp hp=>?_,lu,I.25⟩
 ·show keep b o (neL b o e) hb (neC b o e hx) (I.base.keep b o e n hb hx) (I.base.free b o e n hx)
 ·obtain⟨sl,e1⟩:=I.base.slot b o e n hb hx
  obtain⟨sl',e2⟩:=slot b _ (neL b o e) hb (neC b o e hx) e1 (I.base.free b o e n hx);show⟨sl',e2⟩
 ·obtain⟨o',e1⟩:=I.base.there b o e hx
  show free b o' (neC b o e hx) e1 (I.base.free b o e n hx)
 ·obtain⟨o',e1⟩:=I.base.there b o e hx
  show there b o' (neC b o e hx) e1
 ·obtain⟨m1,e1⟩:=I.base.Rj b ps e
  obtain⟨m2,e2⟩:=Rj b _ e1;show⟨m1++m2,by rw[e2,aad]⟩
 ·(show ι I.87 λm hn hl=>?_)
  show(Λ m (ns m hn) (λi x v e1 e2 e3=>?_));(show ι (hl i x v e1 e2 e3) λu r l=>?_);show(Λ u r ?_);rcases l with l | ⟨k,c,e,z⟩
  ·show .inl l
  ·show .inr ⟨k,(Λ c e (cellK x c e _ z))⟩
 ·obtain⟨v,z⟩:=I.cell x c e
  show⟨v,cellK x c e v z⟩
 ·(show ι I.87 λm μ _=>?_;obtain ⟨o,_,_,ho,_⟩:=μ)
  show free _ o (λz=>(hch _ z).2.1 rfl) ho I.58
 ·(show Rh (I.cell x c e) λv o ho hd=>?_)
  show free c o (λz=>(hch c z).2.2.1 x c e rfl) ho (I.P0 x c e)
 ·(show aaM (I.pin p hp) λe n ne nf d=>?_)
  let nch:=λz=>(hch p.1 z).2.2.2 p hp rfl;show⟨keep p.1 p.2 ne nf nch e n,free p.1 p.2 nch e n,ne,nf,d⟩
def Inv.un (I:Inv X pins σ H s)(u:Un X.fs [] H H' s.8 h')(lu:Rt X.24 X.w H' h'):Inv X pins σ H' { s with heap:=h',toks:=t' }:=by
 (show ι (id I.87) λm μ _=>?_;obtain ⟨o,es,ep,ho,r⟩:=μ);obtain⟨sl,hL⟩:=u.any ho I.58 ∅
 show I.step (ch:=[]) (λ_ z=>nomatch z) (λb o _ hb _ e n=>u.keep b o e n hb ∅) (λb o _ hb _ e n=>u.slot b o e n hb ∅) (λb o _ e n=>u.free b o e n ∅) (λb o _ e=>u.there b o e ∅) u.Ri u.QU u.Rj (λm' hm=>by
  (revert hm;show Rw λo' es' ep' Zf r'=>?_);rw[ho] at Zf;cases Zf
  show(SU _ es' ep' hL r')) lu I.46
def Inv.call (I:Inv X pins σ H s)(u:Un (TC X.20) ch H H' s.8 h')(lu:Rt X.24 X.w H' h')(hg:Q7 g')
  (hch:∀b∈ch,(b∈X.ex\/X.s₀.5<=b)/\b≠X.16/\(∀x c,X.env.cells.lookup x=!c->c≠b)/\∀p∈X.pn++pins,p.1≠b) :
  Inv X pins σ H' { s with heap:=h',gens:=g',drawn:=d',toks:=t' }:=by
 (show ι (id I.87) λm μ _=>?_;obtain ⟨o,es,ep,ho,r⟩:=μ);obtain⟨sl,hL⟩:=u.any ho I.58 λz=>(hch _ z).2.1 rfl
 show I.step hch (λb o hL hb hc e n=>u.keep b o e n (λz=>(Κ.mp (I.Vv b z)).elim hL hb) hc) (λb o _ _ hc e n=>u.any e n hc) (λb o hc e n=>u.free b o e n hc) (λb o hc e=>u.there b o e hc) u.Ri u.QU u.Rj (λm' hm=>by
  (revert hm;show Rw λo' es' ep' Zf r'=>?_);rw[ho] at Zf;cases Zf
  show(SU _ es' ep' hL r')) lu hg
def Inv.turned {it:Ι}(I:Inv X pins σ H s)(k:∀b o,b≠it->s.heap.get? b=!o->h'.get? b=!o)(hn:H it=none)(hL:it≠X.16)
  (h1:it∈X.ex\/X.s₀.5<=it) (h2:∀x c,X.env.cells.lookup x=!c->c≠it) (h3:∀p∈X.pn++pins,p.1≠it):Inv X pins σ H { s with heap:=h',toks:=t' }:=by
 let nit:∀b u,H b=!u->b≠it:=λb u e z=>by rw[z,hn] at e;cases e
 show I.step (ch:=[it]) (λb hb=>?_) (λb o _ _ hc e _=>k b o (λz=>hc (by simp[z])) e) (λb o _ _ hc e _=>⟨o.68,k b o (λz=>hc (by simp[z])) e⟩) (λ_ _ _ _ n=>n)
  (λb o hc e=>⟨o,k b o (λz=>hc (by simp[z])) e⟩) (λ_ _ e=>e) (λ_ _ _ e=>e) (λb ps e=>⟨#[],by rw[e];simp⟩) (λm hm=>?_) (λb u e=>?_) I.46
 ·let e:b=it:=by simpa using hb
  subst e;show⟨h1,hL,h2,h3⟩
 ·(revert hm;show Rw λo es ep ho r=>?_)
  show(SU o es ep (k _ o (ψ hL) ho) r)
 ·show(I.lu b u e).Qa (λc v hc q=>k c v ?_ q) (λ_ q=>q) λ_ _ q=>q
  rcases hc with z | z
  ·rw[z];show nit b u e
  ·show nit c _ z
def Inv.tok (I:Inv X pins σ H s)(t:Nat):Inv X pins σ H { s with toks:=t }:=I.un Un.refl I.lu
def Inv.kept (I:Inv X pins σ H s)(k:∀b u,s.heap.get? b=!u->h'.get? b=!u):Inv X pins σ H { s with heap:=h',toks:=t' }:=I.un (Un.kept k) (I.lu.kept k)
def Inv.laid (I:Inv X pins σ H s)(k:∀b u,s.heap.get? b=!u->h'.get? b=!u)(hp:s.5<=a)(new:Na X.24 X.w (upd H a o) h' a o) :
  Inv X pins σ (upd H a o) { s with heap:=h',toks:=t' }:=I.un (Un.laid k hp (I.lu.fresh hp)) (I.lu.laid k hp new)
def Inv.write {x e:Ι}(I:Inv X pins σ H s)(mu:Mut (H x))(he:e=x\/H e=!.own x)(k:∀b u,b≠e->s.heap.get? b=!u->h'.get? b=!u)(heo:∃u,h'.get? e=!u)
  (new:Na X.24 X.w (upd H x o) h' x o):Inv X pins σ (upd H x o) { s with heap:=h',toks:=t' }:=I.un (Un.write mu he k heo) (I.lu.write mu he k heo new)
def Inv.AR (I:Inv X pins σ H s)(h:∀p∈ajg,s.heap.get? p.1=!p.2/\H p.1=none/\p.1≠X.16/\p.1∉X.fs/\∀v,p.2.52≠.cell v):Inv X ajg σ H s:=
 ⟨I.ok,I.os,I.46,I.50,I.87,I.98,I.58,I.P0,λp hp=>(Ξ.mp hp).elim (λz=>I.pin p (Η _ z)) (h p),I.lu,I.25⟩
def qv {N:-Str}(hN:N.14)(a:N[i]?=!x)(b:N[j]?=!x):i=j:=by
 obtain⟨h1,e1⟩:=Α.mp a;obtain⟨h2,e2⟩:=Α.mp b;show(List.getElem_inj hN).mp (e1.trans e2.17)
theorem Cx.fnl (X:Cx)(x:Str):Prop:=X.fn x=true\/X.env.scope.names.lookup x=!.local
def nI (I:Inv X pins σ H s)(hN:X.N.14)(hi:X.N[i]?=!x)(hx:Loc X.15 x)(r:RelV v u)
  (h:∀s',Inv X pins (σ.set i (!v)) H s'->(∃a,Pn a s.8 s'.8/\(a=X.16\/X.env.cells.lookup x=!a))->Q Unit.unit s') (hf:autoParam (X.fnl x) L2.aaO._auto_1):wpAny M A (storeName X.9 x u) Q E s:=by
 (show ι (id I.87) λm hn hl=>?_);let agy:(X.env.27 == .class || (X.env.27 == .module && X.env.locals != X.60))=false:=by rw[I.38];rfl
 let aqJ:i < σ.4:=by rw[I.25];show(Α.mp hi).1
 let cne:=I.cne;let tracked:∀{a:Ι} {h':be},(∃o,s.heap.get? a=!o/\H a=none)->Pn a s.8 h'->Rt X.24 X.w H h':=λ{a h'} ha hs b ob e=>by
  (revert ha;show ϭ λ_ _ Uv=>?_);show(I.lu b ob e).Qa (λc w' hc q=>(hs.2 c ?_).trans q) (λ_ q=>q) λ_ _ q=>q
  rintro rfl
  rcases hc with rfl | hc
  ·rw[Uv] at e;cases e
  ·rw[Uv] at hc;cases hc
 rcases hx with hk | hk
 ·show wpAny_storeName_local hk hn (λh' hn' hs=>?_) agy
  (show anl (id hn) λoL _ _ hoL _=>?_);show h _ ⟨I.ok,I.os,I.46,⟨λb o e n hb hx=>?_,λb o e n hb hx=>?_,I.base.58,λb o e hx=>?_,I.base.Ri,I.base.QU,I.base.Rj⟩,(Λ _ hn' (λj y v' e1 e2 e3=>?_)),λy c e=>?_,I.58,I.P0,λp hp=>?_,tracked (Λ oL hoL I.58) hs,by simpa using I.25⟩ (Λ _ hs (.inl rfl))
  ·show(hs.2 b (Ϧ (Ϥ (π e) I.41))).trans (I.base.keep b o e n hb hx)
  ·obtain⟨sl,e1⟩:=I.base.slot b o e n hb hx
   show⟨sl,(hs.2 b (Ϧ (Ϥ (π e) I.41))).trans e1⟩
  ·obtain⟨o',e1⟩:=I.base.there b o e hx
   show⟨o',(hs.2 b (Ϧ (Ϥ (π e) I.41))).trans e1⟩
  ·by_cases hj:j=i
   ·subst hj
    rw[hi] at e1;cases e1;rw[ϑ aqJ] at e2;cases e2;show(Λ u r (.inl ⟨hk,∅⟩))
   ·rw[ϔ (ψ hj)] at e2
    (show ι (hl j y v' e1 e2 e3) λu' r' q=>?_);show(Λ u' r' ?_);rcases q with⟨k,e⟩ | ⟨k,c,e,z⟩
    ·show .inl ⟨k,?_⟩
     have:y≠x:=λe=>hj (qv hN e1 (e▸hi));simp[this,e]
    ·show .inr ⟨k,(Λ c e (z.sameBut hs (cne y c e)))⟩
  ·obtain⟨w',z⟩:=I.cell y c e
   show⟨w',z.sameBut hs (cne y c e)⟩
  ·(show aaM (I.pin p hp) λe n ne nf d=>?_)
   show⟨(hs.2 p.1 ne).trans e,n,ne,nf,d⟩
 ·let hfn:X.fn x=true:=by
   rcases hf with z | z
   ·show z
   ·rw[z] at hk;cases hk
  obtain⟨c,hc⟩:=I.ok.has x (.inl hk);obtain⟨w',z⟩:=I.cell x c hc;show wpAny_storeName_cell I.38 hk hc z (λh' Yf hs=>?_);(show ι (id z) λoc hoc anv=>?_);show h { s with heap:=h' } ⟨I.ok,I.os,I.46,⟨λb o e n hb hx=>?_,λb o e n hb hx=>?_,I.base.58,λb o e hx=>?_,I.base.Ri,I.base.QU,I.base.Rj⟩,(Λ m (hn.sameBut hs (ψ (cne x c hc))) (λj y v' e1 e2 e3=>?_)),λy c' e=>?_,I.58,I.P0,λp hp=>?_,tracked (Λ oc hoc (I.P0 x c hc)) hs,by simpa using I.25⟩ (Λ c hs (.inr hc))
  ·show(hs.2 b (Ϧ (Ϥ (π e) (I.ok.cab x c hfn hc)))).trans (I.base.keep b o e n hb hx)
  ·obtain⟨sl,e1⟩:=I.base.slot b o e n hb hx
   show⟨sl,(hs.2 b (Ϧ (Ϥ (π e) (I.ok.cab x c hfn hc)))).trans e1⟩
  ·obtain⟨o',e1⟩:=I.base.there b o e hx
   show⟨o',(hs.2 b (Ϧ (Ϥ (π e) (I.ok.cab x c hfn hc)))).trans e1⟩
  ·by_cases hj:j=i
   ·subst hj
    rw[hi] at e1;cases e1;rw[ϑ aqJ] at e2;cases e2;show(Λ u r (.inr ⟨.inl hk,(Λ c hc Yf)⟩))
   ·rw[ϔ (ψ hj)] at e2
    (show ι (hl j y v' e1 e2 e3) λu' r' q=>?_);show(Λ u' r' ?_);rcases q with q | ⟨k,c',e,z'⟩
    ·show .inl q
    ·show .inr ⟨k,(Λ c' e (z'.sameBut hs ?_))⟩
     rintro rfl
     show hj (qv hN e1 (I.ok.inj _ _ _ e hc▸hi))
  ·by_cases hcc:c'=c
   ·subst hcc;show⟨_,Yf⟩
   ·obtain⟨w2,z2⟩:=I.cell y c' e
    show⟨w2,z2.sameBut hs hcc⟩
  ·(show aaM (I.pin p hp) λe n ne nf d=>?_)
   show⟨(hs.2 p.1 ?_).trans e,n,ne,nf,d⟩;intro q;rw[q,hoc] at e;show d w' (by rw[<-(Ϭ e)];show anv)
def me (I:Inv X pins σ H s)(hN:X.N.14)(hi:X.N[i]?=!x)(hx:Loc X.15 x)(r:RelV v u)
  (h:∀s',Inv X pins (σ.set i (!v)) H s'->Q Unit.unit s') (hf:autoParam (X.fnl x) L2.aaO._auto_1):wpAny M A (storeName X.9 x u) Q E s:=
 nI I hN hi hx r (λs' I' _=>h s' I') hf
def Inv.acs (I:Inv X pins σ H s)(ho:s'.os=s.os)(u:Un (TC X.20) ch H H' s.8 s'.8)(lu:Rt X.24 X.w H' s'.8)(hg:Q7 s'.80)
  (hch:∀b∈ch,(b∈X.ex\/X.s₀.5<=b)/\b≠X.16/\(∀x c,X.env.cells.lookup x=!c->c≠b)/\∀p∈X.pn++pins,p.1≠b):Inv X pins σ H' s':=by
 obtain⟨h',g',d',t',o'⟩:=s';let e:=ho;subst e;show I.call u lu hg hch
end
noncomputable abbrev XK:=Υ->Option Ι->Hp->Prop
noncomputable abbrev St:=-(Option V)
noncomputable abbrev VK:=V->Hp->Prop
noncomputable abbrev TE:=St->Hp->VK->Prop
noncomputable abbrev TT:=St->Hp->(Bool->Hp->Prop)->Prop
noncomputable abbrev TA:=St->Hp->(-V->Hp->Prop)->Prop
structure Ends where
 nx:St->Hp->Prop
 rt:VK
 bk:St->Hp->Prop:=λ_ _=>False
 ct:St->Hp->Prop:=λ_ _=>False
noncomputable abbrev TS:=Ends->St->Hp->Prop
abbrev EP (X:Cx)(pins:-(Ι×Obj))(σ:St)(Q:VK)(u:Υ)(s':η):Prop:=∃v H',Inv X pins σ H' s'/\RelV v u/\Q v H'
abbrev TP (X:Cx)(pins:-(Ι×Obj))(σ:St)(Q:Bool->Hp->Prop)(b:Bool)(s':η):Prop:=∃H',Inv X pins σ H' s'/\Q b H'
abbrev AP (X:Cx)(pins:-(Ι×Obj))(σ:St)(Q:-V->Hp->Prop)(us:-Υ)(s':η):Prop:=∃vs H',Inv X pins σ H' s'/\Vals vs us/\Q vs H'
abbrev SP (X:Cx)(pins:-(Ι×Obj))(D:Ends)(f:Flow)(s':η):Prop:=
 match f with
 | .next=>∃σ' H',Inv X pins σ' H' s'/\D.nx σ' H'
 | .brk=>∃σ' H',Inv X pins σ' H' s'/\D.bk σ' H'
 | .cont=>∃σ' H',Inv X pins σ' H' s'/\D.ct σ' H'
 | .ret u=>∃v σ' H',Inv X pins σ' H' s'/\RelV v u/\D.rt v H'
noncomputable abbrev Cx.mo (X:Cx):=model X.24 X.w
abbrev PE (X:Cx)(e:tz)(t:TE):Prop:=
 ∀pins s σ H Q,Inv X pins σ H s->t σ H Q->wpAny X.mo X.A (eval e X.9) (EP X pins σ Q) X.xe s
abbrev PT (X:Cx)(e:tz)(t:TT):Prop:=
 ∀pins s σ H Q,Inv X pins σ H s->t σ H Q->wpAny X.mo X.A (isTrue e X.9 (eval e X.9)) (TP X pins σ Q) X.xe s
abbrev PW (X:Cx)(e:tz)(t:TT):Prop:=
 ∀whole pins s σ H Q,Inv X pins σ H s->t σ H Q->wpAny X.mo X.A (isTrue e X.9 whole) (TP X pins σ Q) X.xe s
def PW.pt {t:TT}(h:PW X e t):PT X e t:=h _
abbrev PA (X:Cx)(es:-tz)(t:TA):Prop:=
 ∀pos pins s σ H Q,Inv X pins σ H s->t σ H Q->wpAny X.mo X.A (spliced (backTo pos (starEach es X.9))) (AP X pins σ Q) X.xe s
abbrev PS (X:Cx)(st:ϟ)(t:TS):Prop:=
 ∀pins s σ H D,Inv X pins σ H s->t D σ H->wpAny X.mo X.A (exec st X.9) (SP X pins D) X.xe s
abbrev W2 (X:Cx)(st:-ϟ)(t:TS):Prop:=
 ∀pins s σ H D,Inv X pins σ H s->t D σ H->wpAny X.mo X.A (execs st X.9) (SP X pins D) X.xe s
def No {t:Sem α}(h:wpAny M A t Q E s)(hQ:∀a s,Q a s->Q' a s):wpAny M A t Q' E s:=lw h hQ λ_ _ x=>x
def L8 {t:Sem Υ}(h:wpAny M A t (EP X pins σ Q) E s)(hQ:∀u s' v H',Inv X pins σ H' s'->RelV v u->Q v H'->Q' u s'):wpAny M A t Q' E s:=lw h (λu s' zz=>Nm zz λv H' I r q=>hQ u s' v H' I r q) λ_ _ x=>x
def UR {t:Sem (-Υ)}(h:wpAny M A t (AP X pins σ Q) E s)(hQ:∀u s' v H',Inv X pins σ H' s'->Vals v u->Q v H'->Q' u s'):wpAny M A t Q' E s:=lw h (λu s' zz=>Nm zz λv H' I r q=>hQ u s' v H' I r q) λ_ _ x=>x
section
variable {X:Cx}
abbrev onR (x:V)(R:Ι->Prop):Prop:=match x with | .ref a=>R a | _=>False
def onRr :onR (.ref a) R=R a:=rfl
def anw {x:V}:onR x R=∃a,x=.ref a/\R a:=by
 cases x<;>simp[onR]
def uZ {x:V}(h:onR x R):∃a,x=.ref a/\R a:=anw▸h
abbrev onB (x:V)(R:Bool->Prop):Prop:=match x with | .bl a=>R a | _=>False
def onBb {a:Bool}:onB (.bl a) R=R a:=rfl
def anx {x:V}:onB x R=∃a,x=.bl a/\R a:=by
 cases x<;>simp[onB]
def qw {x:V}(h:onB x R):∃a,x=.bl a/\R a:=anx▸h
abbrev onI (x:V)(R:Int->Prop):Prop:=match x with | .int a=>R a | _=>False
def onIi {a:Int}{R:Int->Prop}:onI (.int a) R=R a:=rfl
def atf {x:V}:onI x R=∃a,x=.int a/\R a:=by cases x<;>simp[onI]
def fF {x:V}(h:onI x R):∃a,x=.int a/\R a:=by
 match x,h with | .int a,h=>show(Λ a rfl h)
abbrev onS (x:V)(R:Str->Prop):Prop:=match x with | .str a=>R a | _=>False
def onSs {a:Str}:onS (.str a) R=R a:=rfl
def atg {x:V}:onS x R=∃a,x=.str a/\R a:=by cases x<;>simp[onS]
def gP {x:V}(h:onS x R):∃a,x=.str a/\R a:=by
 match x,h with | .str a,h=>show(Λ a rfl h)
def ath {α β:Type _}{f:α->β}{a:α}{l:-α}:PP f (a::l)=f a::PP f l:=rfl
def ati {α β:Type _}{f:α->β}:PP f []=[]:=rfl
abbrev Vw:Nat->St->Hp->VK->Prop
 | 0,some v::_,H,Q=>Q v H
 | 0,none::_,_,_=>False
 | n+1,_::r,H,Q=>Vw n r H Q
 | _,[],_,_=>False
def tV0 {r:St}:Vw 0 (some v::r) H Q=Q v H:=rfl
def tVs {x:Option V}{r:St}:Vw (n+1) (x::r) H Q=Vw n r H Q:=rfl
def AS:∀{i:Nat} {σ:St} {H:Hp} {Q:VK},Vw i σ H Q->∃v,σ[i]?=!some v/\Q v H
 | 0,some v::_,_,_,h=>(Λ v rfl h)
 | 0,none::_,_,_,h=>h.36
 | n+1,_::r,_,_,h=>let ⟨v,e,q⟩:=AS (i:=n) (σ:=r) h;(Λ v (by simpa using e) q)
 | 0,[],_,_,h=>h.36
 | _+1,[],_,_,h=>h.36
abbrev tC (v:V):TE:=λ_ H Q=>Q v H
theorem Ws (x:Str):Prop:=(x == ("__debug__":Str))=false
theorem Cdt (x:Str):Prop:=(x == ("__classdict__":Str))=false
def Jt (hN:X.N[i]?=!x)(hv:Vis X.15 x)(hd:autoParam (Ws x) L2.M9._auto_1)(TD:autoParam (Cdt x) L2.M9._auto_1):PE X (.Name x pos) (Vw i):=by
 intro pins s σ H Q I h;(show ι (AS h) λv e h=>?_);(show ι I.87 λm hn hl=>?_);(show ι (hl i x v hN e hv) λu r l=>?_);let fin:EP X pins σ Q u s:=(ϕ v H I r h)
 rcases l with⟨hk,hm⟩ | ⟨hk,c,hc,W4⟩
 ·show afp (adE I.38 hk hn hm fin) hd
 ·rcases hk with hk | hk
  ·show afp (ad7 I.38 hk hc W4 fin) hd
  ·show afp (wpAny_loadName_free I.38 hk hc W4 fin TD) hd
def ah {i j pos}:PE X (.Constant (.int i) j pos) (tC (.int i)):=λ_ _ _ H _ I h=>wpAny_Constant_int (ϕ (.int i) H (I.tok _) ⟨_,rfl⟩ h)
def cS {b j pos}:PE X (.Constant (.bool b) j pos) (tC (.bl b)):=λ_ _ _ H _ I h=>Constant_bool (ϕ (.bl b) H I rfl h)
def jh {j pos}:PE X (.Constant .none j pos) (tC .k4):=λ_ _ _ H _ I h=>aae (ϕ (.k4) H I rfl h)
def ai {x j pos}:PE X (.Constant (.str x) j pos) (tC (.str x)):=λ_ _ _ H _ I h=>SN (ϕ (.str x) H (I.tok _) ⟨_,rfl⟩ h)
abbrev Gl (X:Cx)(x:Str):Prop:=X.env.kindOf x=!.globalImplicit
def ke (I:Inv X pins σ H s)(hg:Gl X x)(hm:X.mg x=!u)(h:Q u s)
  (hd:autoParam (Ws x) L2.M9._auto_1):wpAny X.mo X.A (eval (.Name x pos) X.9) Q E s:=
 Wf I.38 hg (Calls.loadGlobal_global (by rw[I.91];show I.mod.glob.keeps I.bk) hm h) hd
def eY (I:Inv X pins σ H s)(hg:Gl X x)(hm:X.mg x=none)(hv:bootBuiltins x=!u)(h:Q u s)
  (hn:autoParam (x ≠ "__name__") L2.M9._auto_1) (hd:autoParam (Ws x) L2.M9._auto_1):wpAny X.mo X.A (eval (.Name x pos) X.9) Q E s:=by
 (show ι I.mod.blt λmb h1 h2=>?_);show Wf I.38 hg (Calls.loadGlobal_builtin (by rw[I.91];show I.mod.glob.keeps I.bk) hm (by rw[I.ok.blt];show h1.keeps I.bk) ((h2 x hn).trans hv) h) hd
def u0 (hg:Gl X x)(hm:X.mg x=!u)(r:RelV v u)(hd:autoParam (Ws x) L2.M9._auto_1):PE X (.Name x pos) (tC v):=
 λ_ _ _ H _ I h=>ke I hg hm (ϕ v H I r h) hd
def iy (hg:Gl X x)(hm:X.mg x=none)(hv:bootBuiltins x=!u)(r:RelV v u)(hn:autoParam (x ≠ "__name__") L2.M9._auto_1)(hd:autoParam (Ws x) L2.M9._auto_1):PE X (.Name x pos) (tC v):=
 λ_ _ _ H _ I h=>eY I hg hm hv (ϕ v H I r h) hn hd
variable {a b:tz} {ta tb:TE} 
abbrev PC (X:Cx)(op:CmpOp)(a b:tz)(t:TE):Prop:=
 ∀pins s σ H Q,Inv X pins σ H s->t σ H Q->
  wpAny X.mo X.A (eval a X.9) (λv s₁=>wpAny X.mo X.A (eval b X.9) (λu s₂=>wpAny X.mo X.A (compareOp op v u) (EP X pins σ Q) X.xe s₂) X.xe s₁) X.xe s
def acp (b:tz)(h:op≠.In)(h2:op≠.NotIn):behindInMarks op b=false:=by
 let e1:(op == alI)=false:=by cases op<;>first | rfl | show absurd rfl h
 let e2:(op == agh)=false:=by cases op<;>first | rfl | show absurd rfl h2
 cases b<;>simp[behindInMarks,e1,e2]
abbrev anz (ta:TE):TE:=λσ H Q=>ta σ H λx H1=>Q (.bl (decide (x=.k4))) H1
abbrev aji (ta:TE):TE:=λσ H Q=>ta σ H λx H1=>Q (.bl (!((decide (x=.k4))))) H1
def RelV.wz {x:V}(r:RelV x v):(v == NY)=decide (x=.k4):=by
 cases x with
 | k4=>cases r;rfl
 | bl _=>cases r;rfl
 | int _=>obtain⟨t,rfl⟩:=r;rfl
 | str _=>obtain⟨t,rfl⟩:=r;rfl
 | Y' _=>obtain⟨t,rfl⟩:=r;rfl
 | flt _=>obtain⟨t,rfl⟩:=r;rfl
 | ref _=>cases r;rfl
 | ty _=>cases r;rfl
def EL {j pos'}(ha:PE X a ta):PC X .Is a (.Constant .none j pos') (anz ta):=by
 intro pins s σ H Q I h;show L8 (ha pins s σ H _ I h) λv s1 x H1 I1 r1 q1=>aae (is_none_gen (ϕ (.bl _) H1 I1 (by rw[r1.wz];rfl) q1))
def kf {j pos'}(ha:PE X a ta):PC X .IsNot a (.Constant .none j pos') (aji ta):=by
 intro pins s σ H Q I h;show L8 (ha pins s σ H _ I h) λv s1 x H1 I1 r1 q1=>aae (isnot_none_gen (ϕ (.bl _) H1 I1 (by rw[r1.wz];rfl) q1))
abbrev tB (t:TE):TT:=λσ H Q=>t σ H λx H1=>∃c,x=.bl c/\Q c H1
def Ju {t:TE}(h:PC X op a b t)(h1:autoParam (behindInMarks op b=false) L2.aja._auto_1):PE X (.Compare a [op] [b] pos) t:=λpins s σ H Q I hw=>alJ (h pins s σ H Q I hw) h1
def k6 {t:TE}(h:PC X op a b t)(h1:autoParam (behindInMarks op b=false) L2.aja._auto_1):PT X (.Compare a [op] [b] pos) (tB t):=by
 intro pins s σ H Q I hw;show aca (No (h pins s σ H _ I hw) λv s1 h1=>No h1 λu s2 h2=>No h2 λc s3 zz=>Nm zz λx H1 I1 r1 q1=>?_) h1;(revert q1;show ϭ λd μ q=>?_;subst μ);cases r1;show ut (Λ H1 I1 q)
variable {tA tB':TT} {rest:-tz}
abbrev anA (t u:TT):TT:=λσ H Q=>t σ H λc H1=>if c=true then u σ H1 Q else Q false H1
abbrev tOr (t u:TT):TT:=λσ H Q=>t σ H λc H1=>if c=true then Q true H1 else u σ H1 Q
abbrev anB (t:TT):TT:=λσ H Q=>t σ H λc H1=>Q (!((c))) H1
def fj (ha:PT X a tA):PW X (.BoolOp .And [a] pos) tA:=by
 intro wh pins s σ H Q I h;show awf (No (ha pins s σ H Q I h) λc s1 e=>?_);cases c with
 | true=>show isTrue_and_nil e
 | false=>show e
def k7 (ha:PT X a tA):PW X (.BoolOp .Or [a] pos) tA:=by
 intro wh pins s σ H Q I h;show axY (No (ha pins s σ H Q I h) λc s1 e=>?_);cases c with
 | false=>show isTrue_or_nil e
 | true=>show e
def gQ (ha:PT X a tA)(hb:PW X (.BoolOp .And (b::rest) pos) tB'):PW X (.BoolOp .And (a::b::rest) pos) (anA tA tB'):=by
 intro wh pins s σ H Q I h;show awf (No (ha pins s σ H _ I h) λc s1 zz=>ι zz λH1 I1 q1=>?_);cases c with
 | true=>show hb wh pins s1 σ H1 Q I1 q1
 | false=>show(Λ H1 I1 q1)
def qx (ha:PT X a tA)(hb:PW X (.BoolOp .Or (b::rest) pos) tB'):PW X (.BoolOp .Or (a::b::rest) pos) (tOr tA tB'):=by
 intro wh pins s σ H Q I h;show axY (No (ha pins s σ H _ I h) λc s1 zz=>ι zz λH1 I1 q1=>?_);cases c with
 | true=>show(Λ H1 I1 q1)
 | false=>show hb wh pins s1 σ H1 Q I1 q1
def d8 (ha:PT X a tA):PT X (.UnaryOp .Not a pos) (anB tA):=by
 intro pins s σ H Q I h;show isTrue_not (ha pins s σ H (λc H1=>Q (!((c))) H1) I h)
abbrev ajk (ta tb:TE):TE:=λσ H Q=>ta σ H λx H1=>∃c,x=.bl c/\if c=true then tb σ H1 Q else Q (.bl false) H1
abbrev anC (ta tb:TE):TE:=λσ H Q=>ta σ H λx H1=>∃c,x=.bl c/\if c=true then Q (.bl true) H1 else tb σ H1 Q
abbrev ajl (ta:TE):TE:=λσ H Q=>ta σ H λx H1=>∃c,x=.bl c/\Q (.bl (!((c)))) H1
def fG {op}{t:TE}(h:PE X a t):PE X (.BoolOp op [a] pos) t:=λpins s σ H Q I hw=>BoolOp_one (h pins s σ H Q I hw)
def fH (ha:PE X a ta)(hb:PE X (.BoolOp .And (b::rest) pos) tb):PE X (.BoolOp .And (a::b::rest) pos) (ajk ta tb):=by
 intro pins s σ H Q I h;show BoolOp_and (L8 (ha pins s σ H _ I h) λv s1 x H1 I1 r1 q1=>?_);(revert q1;show ϭ λc μ q1=>?_;subst μ);cases r1;show ut ?_;cases c with
 | true=>show hb pins s1 σ H1 Q I1 q1
 | false=>show(ϕ (.bl false) H1 I1 rfl q1)
def IJ (ha:PE X a ta)(hb:PE X (.BoolOp .Or (b::rest) pos) tb):PE X (.BoolOp .Or (a::b::rest) pos) (anC ta tb):=by
 intro pins s σ H Q I h;show BoolOp_or (L8 (ha pins s σ H _ I h) λv s1 x H1 I1 r1 q1=>?_);(revert q1;show ϭ λc μ q1=>?_;subst μ);cases r1;show ut ?_;cases c with
 | false=>show hb pins s1 σ H1 Q I1 q1
 | true=>show(ϕ (.bl true) H1 I1 rfl q1)
def Jw (ha:PE X a ta):PE X (.UnaryOp .Not a pos) (ajl ta):=by
 intro pins s σ H Q I h;show UnaryOp_ (L8 (ha pins s σ H _ I h) λv s1 x H1 I1 r1 q1=>?_);(revert q1;show ϭ λc μ q1=>?_;subst μ);cases r1;show not_of (ut (ϕ (.bl (!((c)))) H1 I1 rfl q1))
abbrev tIf (t:TT)(ta tb:TE):TE:=λσ H Q=>t σ H λc H1=>if c=true then ta σ H1 Q else tb σ H1 Q
def qy (hc:PT X c tA)(ha:PE X a ta)(hb:PE X b tb):PE X (.IfExp c a b pos) (tIf tA ta tb):=by
 intro pins s σ H Q I h;show wpAny_IfExp (No (hc pins s σ H _ I h) λd s1 zz=>ι zz λH1 I1 q1=>?_);cases d with
 | true=>show ha pins s1 σ H1 Q I1 q1
 | false=>show hb pins s1 σ H1 Q I1 q1
end
abbrev G' (K:Ψ)(H:Hp)(a:Ι)(xs:-V):Prop:=
 Rd H a (.lst xs)\/
  ∃o fT n,K.lookup a=!o/\o.92=.type "list" /\ o.51=none/\o.52=.seq fT n/\fT.82<=sizeLine/\Vals xs fT.37
abbrev Of (K:Ψ)(H:Hp)(a:Ι)(xs:-V):Prop:=
 Rd H a (.tup xs)\/
  ∃o fT n,K.lookup a=!o/\o.92=.type "tuple" /\ o.52=.seq fT n/\fT.82<=sizeLine/\Vals xs fT.37
abbrev anD:Υ->Option V
 | .none=>!.k4
 | .bool b=>!.bl b
 | .int i _=>!.int i
 | .str x _=>!.str x
 | .bytes b _=>!.Y' b
 | .float b _=>!.flt b
 | .ref a=>!.ref a
 | .type n=>!.ty n
 | _=>none
def RelV.abs {x:V}(r:RelV x u):anD u=!x:=by
 cases x with
 | k4=>cases r;rfl
 | bl _=>cases r;rfl
 | int _=>obtain⟨t,rfl⟩:=r;rfl
 | str _=>obtain⟨t,rfl⟩:=r;rfl
 | Y' _=>obtain⟨t,rfl⟩:=r;rfl
 | flt _=>obtain⟨t,rfl⟩:=r;rfl
 | ref _=>cases r;rfl
 | ty _=>cases r;rfl
def RelV.inj {x y:V}(r:RelV x u)(q:RelV y u):x=y:=Ϭ (r.abs.symm.trans q.abs)
def Vals.inj {xs ys:-V}{us:-Υ}(r:Vals xs us)(q:Vals ys us):xs=ys:=by
 induction r generalizing ys with
 | nil=>cases q;rfl
 | cons r t ih=>cases q with | cons r' t'=>rw[r.inj r',ih t']
section
variable {X:Cx} {σ:St} {H:Hp} {s:η} {xs ys:-V}
def Of.of {K:Ψ}(h:H a=!.tup xs):Of K H a xs:=.inl (.inl h)
def Inv.list (I:Inv X pins σ H s)(h:G' X.K H a xs):∃fT,Vals xs fT/\PlainL s.8 a fT.10/\xs.4<=sizeLine:=by
 rcases h with h | ⟨o,fT,n,hk,hc,hd,hs,hz,r⟩
 ·(show PV (h.ok I.lu) λz=>v0 λfT n r e=>?_)
  show(ϡ fT r (Fk _ n e rfl rfl rfl) z)
 ·show(ϡ fT.37 r (Fk o n (I.QV a o hk) hc hd (by simpa using hs)) ?_)
  let e:=r.4;simp only[Zc] at e;lk
def Inv.tuple (I:Inv X pins σ H s)(h:Of X.K H a xs):∃fT,Vals xs fT/\IsTup s.8 a fT.10/\xs.4<=sizeLine:=by
 rcases h with h | ⟨o,fT,n,hk,hc,hs,hz,r⟩
 ·(show PV (h.ok I.lu) λz=>ϭ λfT r p=>?_)
  show(ϡ fT r p z)
 ·show(ϡ fT.37 r (ϡ o (I.QV a o hk) hc (N' n (by simpa using hs))) ?_)
  let e:=r.4;simp only[Zc] at e;lk
def Inv.mf (I:Inv X pins σ H s)(h:G' X.K H a xs)(h':G' X.K H a ys):xs=ys:=by
 (show ϱ (I.list h) λfT r μ _=>?_;obtain ⟨o,n,e,_,_,d⟩:=μ);(show ϱ (I.list h') λTZ r' μ _=>?_;obtain ⟨o',n',e',_,_,d'⟩:=μ);rw[e] at e';cases e';rw[d] at d';injection d' with d1 _;have:fT=TZ:=by simpa using congrArg Tz d1
 subst this;show r.inj r'
def Inv.tL (I:Inv X pins σ H s)(h:Of X.K H a xs)(h':Of X.K H a ys):xs=ys:=by
 (show ϱ (I.tuple h) λfT r μ _=>?_;obtain ⟨o,e,_,n,d⟩:=μ);(show ϱ (I.tuple h') λTZ r' μ _=>?_;obtain ⟨o',e',_,n',d'⟩:=μ);rw[e] at e';cases e';rw[d] at d';injection d' with d1 _;have:fT=TZ:=by simpa using congrArg Tz d1
 subst this;show r.inj r'
end
theorem Cx.RZ (X:Cx)(E:Υ->η->Prop):Cx:={ X with xe:=E }
theorem Cx.SW (X:Cx):Cx:=X.RZ λ_ _=>False
def Cx.Ok.RZ {X:Cx}(ok:X.Ok)(E:Υ->η->Prop):(X.RZ E).Ok:=
 ⟨ok.mod,ok.62,ok.glob,ok.blt,ok.above,ok.inj,ok.has,ok.cab,ok.hd,ok.32,ok.stk,ok.exf,ok.bs,ok.bsz,ok.Yv,ok.aaP,ok.Ss,ok.frf⟩
def Cx.Ok.ME {X:Cx}(ok:(X.RZ E).Ok):X.Ok:=
 ⟨ok.mod,ok.62,ok.glob,ok.blt,ok.above,ok.inj,ok.has,ok.cab,ok.hd,ok.32,ok.stk,ok.exf,ok.bs,ok.bsz,ok.Yv,ok.aaP,ok.Ss,ok.frf⟩
section
variable {X:Cx} {σ:St} {H:Hp} {s:η} 
def Inv.RZ (I:Inv X pins σ H s)(E:Υ->η->Prop):Inv (X.RZ E) pins σ H s:=⟨I.ok.RZ E,I.os,I.46,I.50,I.87,I.98,I.58,I.P0,I.pin,I.lu,I.25⟩
def Inv.ME (I:Inv (X.RZ E) pins σ H s):Inv X pins σ H s:=⟨I.ok.ME,I.os,I.46,I.50,I.87,I.98,I.58,I.P0,I.pin,I.lu,I.25⟩
def SP.ME {f:Flow}(h:SP (X.RZ E) pins D f s'):SP X pins D f s':=by
 cases f with
 | next=>(revert h;show v0 λσ' H' I q=>?_);show(cr σ' H' I.ME q)
 | brk=>(revert h;show v0 λσ' H' I q=>?_);show(cr σ' H' I.ME q)
 | cont=>(revert h;show v0 λσ' H' I q=>?_);show(cr σ' H' I.ME q)
 | ret u=>(revert h;show Rx λv σ' H' I r q=>?_);show(UL v σ' H' I.ME r q)
def PT.SW {t:TT}(h:PT X.SW e t):PT X e t:=λpins s σ H Q I hw=>
 lw (h pins s σ H Q (I.RZ _) hw) (λ_ _ zz=>ι zz λH' I' q=>(Λ H' I'.ME q)) λ_ _ z=>Ϸ z
def W2.SW {st:-ϟ}{t:TS}(h:W2 X.SW st t):W2 X st t:=λpins s σ H D I hw=>
 lw (h pins s σ H D (I.RZ _) hw) (λ_ _ q=>q.ME) λ_ _ z=>Ϸ z
end
section
variable {X:Cx} {st:ϟ} {t u:TS} {te:TE} 
abbrev ajm:TS:=λD σ H=>D.nx σ H
abbrev OF (t u:TS):TS:=λD σ H=>t { D with nx:=u D } σ H
def au:W2 X [] ajm:=λ_ _ σ H _ I h=>Ox (cr σ H I h)
def ae (h1:PS X st t)(h2:W2 X rest u):W2 X (st::rest) (OF t u):=by
 intro pins s σ H D I h;show RL (No (h1 pins s σ H { D with nx:=u D } I h) λf s1 q=>?_);cases f with
 | next=>
  (revert q;show v0 λσ' H' I' q=>?_);show h2 pins s1 σ' H' D I' q
 | ret v=>show q
 | brk=>show q
 | cont=>show q
def af (h1:PS X st t):W2 X [st] t:=by
 intro pins s σ H D I h;show RL (No (h1 pins s σ H D I h) λf s1 q=>?_);cases f with
 | next=>show Ox q
 | ret v=>show q
 | brk=>show q
 | cont=>show q
abbrev agA:TS:=λD σ H=>D.bk σ H
abbrev aqL:TS:=λD σ H=>D.ct σ H
def EM:PS X (.Break pos) agA:=λ_ _ σ H _ I h=>wpAny_Break (cr σ H I h)
def Inv.quiet (I:Inv X pins σ H s):interactive X.9=false:=by simp[interactive,I.38]
abbrev ajn (te:TE):TS:=λD σ H=>te σ H λ_ H1=>D.nx σ H1
def av (he:PE X e te)(hs: ~~~(swapsWith e none pos.53 X.9=pure false)):PS X (.Expr e pos) (ajn te):=by
 intro pins s σ H D I h;show wpAny_Expr_any (L8 (he pins s σ H _ I h) λv s1 x H1 I1 r1 q1=>(cr σ H1 I1 q1)) I.quiet hs
abbrev ajo (te:TE):TS:=λD σ H=>te σ H D.rt
def ao (he:PE X e te):PS X (.Return (!e) pos) (ajo te):=by
 intro pins s σ H D I h;show agi (L8 (he pins s σ H _ I h) λv s1 x H1 I1 r1 q1=>(UL x σ H1 I1 r1 q1))
abbrev aqM:TS:=λD _ H=>D.rt .k4 H
abbrev agB (c:TT)(t u:TS):TS:=λD σ H=>c σ H λb H1=>if b=true then t D σ H1 else u D σ H1
def aQ {a b:-ϟ}(hc:PT X c tc)(ha:W2 X a t)(hb:W2 X b u):PS X (.If c a b pos) (agB tc t u):=by
 intro pins s σ H D I h;show wpAny_If (No (hc pins s σ H _ I h) λd s1 zz=>ι zz λH1 I1 q1=>?_);cases d with
 | true=>show ha pins s1 σ H1 D I1 q1
 | false=>show hb pins s1 σ H1 D I1 q1
abbrev acu:TS:=λ_ _ _=>False
def dS:PS X st acu:=λ_ _ _ _ _ _ h=>h.36
def dO :W2 X sts acu:=λ_ _ _ _ _ _ h=>h.36
end
noncomputable abbrev TG:=V->St->Hp->(St->Hp->Prop)->Prop
noncomputable abbrev TGs:=-V->St->Hp->(St->Hp->Prop)->Prop
abbrev PG (X:Cx)(target:tz)(t:TG):Prop:=
 ∀pins s σ H v u Q,Inv X pins σ H s->RelV v u->t v σ H Q->
  wpAny X.mo X.A (assign target X.9 u) (λ_ s'=>∃σ' H',Inv X pins σ' H' s'/\Q σ' H') X.xe s
abbrev PGs (X:Cx)(ts:-tz)(t:TGs):Prop:=
 ∀pins s σ H vs us Q,Inv X pins σ H s->Vals vs us->t vs σ H Q->
  wpAny X.mo X.A (assignInOrder ((assignEach ts X.9).map (·.2)) us) (λ_ s'=>∃σ' H',Inv X pins σ' H' s'/\Q σ' H') X.xe s
noncomputable abbrev agC:=V->V->V->Hp->(Hp->Prop)->Prop
abbrev agD (X:Cx)(t:agC):Prop:=
 ∀pins s σ H o i v ov iv u Q,Inv X pins σ H s->RelV o ov->RelV i iv->RelV v u->t o i v H Q->
  wpAny X.mo X.A (setItem ov iv u) (λ_ s'=>∃H',Inv X pins σ H' s'/\Q H') X.xe s
noncomputable abbrev TIp:=V->V->Hp->VK->Prop
abbrev PIp (X:Cx)(op:alK)(t:TIp):Prop:=
 ∀pins s σ H x y v u Q,Inv X pins σ H s->RelV x v->RelV y u->t x y H Q->
  wpAny X.mo X.A (inplaceOp op v u) (EP X pins σ Q) X.xe s
section
variable {X:Cx} 
abbrev Vx (i:Nat):TG:=λv σ H Q=>Q (σ.set i (!v)) H
def aE (hN:X.N.14)(hi:X.N[i]?=!x)(hx:Loc X.15 x)(hf:autoParam (X.fnl x) L2.aaO._auto_1):PG X (.Name x pos) (Vx i):=by
 intro pins s σ H v u Q I r h;show Wg (me I hN hi hx r (λs' I'=>(cr _ H I' h)) hf)
abbrev anE:TGs:=λvs σ H Q=>vs=[]/\Q σ H
abbrev ajp (t:TG)(u:TGs):TGs:=λvs σ H Q=>∃v r,vs=v::r/\t v σ H λσ' H'=>u r σ' H' Q
def b9:PGs X [] anE:=by
 intro pins s σ H vs us Q I r h;obtain⟨e,h⟩:=h;subst e;cases r;show assignInOrder_nil (cr σ H I h)
def aH {t:TG}{u:TGs}(h1:PG X e t)(h2:PGs X es u)
  (hs: ~~~((assignEach (e::es) X.9).map (·.2)=assign e X.9::(assignEach es X.9).map (·.2))):PGs X (e::es) (ajp t u):=by
 intro pins s σ H vs us Q I r h;(revert h;show v0 λv vr e1 h=>?_);subst e1;cases r with
 | cons r rr=>
  rw[hs];show assignInOrder_cons (No (h1 pins s σ H _ _ _ I r h) λ_ s1 zz=>Rh zz λσ1 H1 I1 q1=>h2 pins s1 σ1 H1 _ _ Q I1 rr q1)
abbrev ajq (K:Ψ)(n:Nat)(t:TGs):TG:=λv σ H Q=>∃a xs,v=.ref a/\Of K H a xs/\xs.4=n/\t xs σ H Q
def Jx {t:TGs}(hc:X.39=true)(h:PGs X es t)
  (hn: ~~~((assignEach es X.9).4=n)) (MZ: ~~~((assignEach es X.9).findIdx? (·.1)=none)):PG X (.Tuple es k pos) (ajq X.K n t):=by
 intro pins s σ H v u Q I r hw;(revert hw;show P9 λa xs e1 hq hl hw=>?_);subst e1;cases r;(show ϱ (I.tuple hq) λfT rv ht hz=>?_);show assign_Tuple_tuple (I.ok.hd hc) ht (by simp[hn,<-hl,rv.4]) MZ λh' hx=>h pins _ σ H xs _ Q (I.kept λb o e=>hx b o (Ϧ (π e)) e) (by simpa using rv) hw
abbrev anF (to ti:TE)(t:agC):TG:=λv σ H Q=>to σ H λo H1=>ti σ H1 λi H2=>t o i v H2 λH3=>Q σ H3
def cM {o i:tz}{t:agC}(ho:PE X o to)(hi:PE X i ti)(hs:agD X t)
  (ha:autoParam (∀v,assign (.Subscript o i pos) X.9 v=(do
   let ov <-holding [v] (eval o X.9)
   let iv <-holding [v,ov] (eval i X.9)
   standAt pos
   holding [v,ov,iv] (setItem ov iv v)
   release [v,ov,iv] [])) L2.Wr._auto_1):PG X (.Subscript o i pos) (anF to ti t):=by
 intro pins s σ H v u Q I r h;show Ν (MC (L8 (ho pins s σ H _ I h) λov s1 x H1 I1 r1 q1=>Ν (MC (L8 (hi pins s1 σ H1 _ I1 q1) λiv s2 y H2 I2 r2 q2=>?_))));show Ν (Ou (Ν (MC (No (hs pins s2 σ H2 x y v ov iv u _ I2 r1 r2 r q2) λ_ s3 zz=>ι zz λH3 I3 q3=>wpAny_release (cr σ H3 I3 q3)))))
abbrev Zg (te:TE)(g:TG):TS:=λD σ H=>te σ H λx H1=>g x σ H1 D.nx
def cz (he:PE X e te)(hg:PG X tg g)(hs: ~~~(swapsWithSole [tg] e pos.53 X.9=pure false))(hw: ~~~(swappedStores [tg] e X.9=pure none))
  (h1: ~~~((assignEach [tg] X.9).map (·.2)=[assign tg X.9])):PS X (.Assign [tg] e pos) (Zg te g):=by
 intro pins s σ H D I h;show wpAny_Assign_stores (L8 (he pins s σ H _ I h) λv s1 x H1 I1 r1 q1=>?_) hs hw;rw[h1];show No (hg pins s1 σ H1 x v _ I1 r1 q1) λ_ s2 q=>q
def Jy (hN:X.N.14)(hi:X.N[i]?=!x)(hx:Loc X.15 x)(he:PE X e te)(hs: ~~~(swapsWith e (!.Name x pos') pos.53 X.9=pure false))(hf:autoParam (X.fnl x) L2.aaO._auto_1) :
  PS X (.Assign [.Name x pos'] e pos) (Zg te (Vx i)):=by
 intro pins s σ H D I h;show agj (L8 (he pins s σ H _ I h) λv s1 y H1 I1 r1 q1=>me I1 hN hi hx r1 (λs2 I2=>(cr _ H1 I2 q1)) hf) hs
abbrev anG (i:Nat)(te:TE)(ti:TIp):TS:=λD σ H=>∃x,σ[i]?=!some x/\te σ H λy H1=>ti x y H1 λz H2=>D.nx (σ.set i (!z)) H2
def EN {op:alK}(hN:X.N.14)(hi:X.N[i]?=!x)(hx:Loc X.15 x)(he:PE X e te)(ho:PIp X op ti)(hf:autoParam (X.fnl x) L2.aaO._auto_1) :
  PS X (.AugAssign (.Name x pos') op e pos) (anG i te ti):=by
 intro pins s σ H D I h;(revert h;show ϭ λv e1 h=>?_);(show ι I.87 λm hn hl=>?_);let vis:Vis X.15 x:=by rcases hx with k | k;show .inl k;show .inr (.inl k)
 (show ι (hl i x v hi e1 vis) λu r l=>?_);show wpAny_AugAssign_Name ?_;let go:wpAny X.mo X.A (eval e X.9) (λw s₂=>wpAny X.mo X.A (inplaceOp op u w) (λr s₃=>wpAny X.mo X.A (storeName X.9 x r) (λ_=>SP X pins D .next) X.xe s₃) X.xe s₂) X.xe s:=by
  show L8 (he pins s σ H _ I h) λw s1 y H1 I1 r1 q1=>L8 (ho pins s1 σ H1 v y u w _ I1 r r1 q1) λz s2 zv H2 I2 r2 q2=>?_;show me I2 hN hi hx r2 (λs3 I3=>(cr _ H2 I3 q2)) hf
 rcases l with⟨hk,hm⟩ | ⟨hk,c,hc,W4⟩
 ·show adE I.38 hk hn hm go
 ·rcases hk with hk | hk
  ·show ad7 I.38 hk hc W4 go
  ·rcases hx with k | k
   ·have:X.env.scope.names.lookup x=!.free:=hk
    rw[k] at this;cases this
   ·have:X.env.scope.names.lookup x=!.free:=hk
    rw[k] at this;cases this
end
section
variable {X:Cx} 
abbrev agE (c:TT)(tb:TS):TS:=λD σ H=>∃W:Nat->St->Hp->Prop,(∃m,W m σ H)/\∀m σ H,W m σ H->
 c σ H λb H1=>if b=true then ∃N,(∀σ' H',N σ' H'->∃m',m' < m/\W m' σ' H')/\tb { D with nx:=N,ct:=N,bk:=D.nx } σ H1 else D.nx σ H1
def EO (hp:axZ X.mo X.A X.9 X.xe)(hc:PT X c tc)(hb:W2 X body tb):PS X (.While c body [] pos) (agE tc tb):=by
 intro pins s σ H D I h;(revert h;show ϭ λW μ turn=>?_;obtain ⟨m0,w0⟩:=μ);show wpAny_While (codeAny_whileLoop (λn s'=>∃σ' H',Inv X pins σ' H' s'/\W n σ' H') ?_ m0 (cr σ H I w0))
 rintro n s1 ⟨σ1,H1,I1,w1⟩
 show Nt hp (No (hc pins s1 σ1 H1 _ I1 (turn n σ1 H1 w1)) λb s2 zz=>ι zz λH2 I2 q2=>?_);cases b with
 | true=>
  (revert q2;show ϭ λN hN q2=>?_);show Nt hp (No (hb pins s2 σ1 H2 _ I2 q2) λf s3 q3=>?_);cases f with
  | next=>
   (revert q3;show v0 λσ3 H3 I3 n3=>?_);(show ι (hN σ3 H3 n3) λm' hm w3=>?_);show(Λ m' hm (cr σ3 H3 I3 w3))
  | cont=>
   (revert q3;show v0 λσ3 H3 I3 n3=>?_);(show ι (hN σ3 H3 n3) λm' hm w3=>?_);show(Λ m' hm (cr σ3 H3 I3 w3))
  | brk=>show q3
  | ret v=>show q3
 | false=>
  show Ox (cr σ1 H2 I2 q2)
end
structure It where
 go:Nat->Hp->Prop
 Zh:Nat->Hp->V->Hp->Prop
 stop:Nat->Hp->Prop
abbrev Rk (X:Cx)(pins:-(Ι×Obj))(H:Hp)(b:Ι):Prop:=
 H b=none/\b≠X.16/\b∉X.fs/\(b∈X.ex\/X.s₀.5<=b)/\(∀x c,X.env.cells.lookup x=!c->c≠b)/\∀p∈X.pn++pins,p.1≠b
def Inv.Xx (I:Inv X pins σ H s)(hb:s.5<=b)(hn:H' b=none):Rk X pins H' b:=by
 show⟨hn,K4 (Ϥ I.lt hb),I.anr hb,.inr (ο I.sz hb),λx c e z=>?_,λp hp z=>?_⟩
 ·obtain⟨v,q⟩:=I.cell x c e
  show absurd (Ϥ q.lt (by rw[z];show hb)) (Nj _)
 ·show absurd (Ϥ (π (I.pin p hp).1) (by rw[z];show hb)) (Nj _)
structure Turn (P:ϯ)(w:J')(K:Ψ)(tg:tz)(J:It)(fp:-Ι)(it:Ι)(tn:Nat->be->Prop):Prop where
 mem:it∈fp
 obj:∀i h,tn i h->∀b∈fp,∃o,h.get? b=!o/\∀v,o.52≠.cell v
 keep:∀i h h',tn i h->(∀b∈fp,∀o,h.get? b=!o->h'.get? b=!o)->tn i h'
 item:∀(X:Cx),X.24=P->X.w=w->X.K=K->X.39=true->∀(i:Nat) (pins:-(Ι×Obj)) (s:η) (σ:St) (H:Hp) (E:Υ->η->Prop),Inv X pins σ H s->(∀b∈fp,Rk X pins H b)->tn i s.8->J.go i H->
  wpAny (model P w) X.A (pyNext (.ref it)) (λr s1=>∃u,r=!u/\
   wpAny (model P w) X.A (letOwnedTupleGo tg (.ref it) u) (λ_ s2=>∃x H',Inv X pins σ H' s2/\RelV x u/\J.Zh i H x H'/\tn (i+1) s2.8/\∀b∈fp,H' b=none) E s1) E s
 done:∀(X:Cx),X.24=P->X.w=w->X.K=K->X.39=true->∀(i:Nat) (pins:-(Ι×Obj)) (s:η) (σ:St) (H:Hp) (E:Υ->η->Prop),Inv X pins σ H s->(∀b∈fp,Rk X pins H b)->tn i s.8->J.stop i H->
  wpAny (model P w) X.A (pyNext (.ref it)) (λr s1=>r=none/\Inv X pins σ H s1) E s
 self:∀(A:QH) (i:Nat) (s:η) (Q:Υ->η->Prop) (E:Υ->η->Prop),tn i s.8->Q (.ref it) s->wpAny (model P w) A (pyIter (.ref it)) Q E s
noncomputable abbrev TI:=St->Hp->(It->Hp->Prop)->Prop
abbrev PIE (X:Cx)(pins:-(Ι×Obj))(σ:St)(tg:tz)(R:It->Hp->Prop)(itv:Υ)(s2:η):Prop:=
 ∃it fp tn J H',itv=.ref it/\Inv X pins σ H' s2/\Turn X.24 X.w X.K tg J fp it tn/\tn 0 s2.8/\(∀b∈fp,Rk X pins H' b)/\R J H'
abbrev PI (X:Cx)(tg iter:tz)(wi:TI):Prop:=
 ∀pins s σ H R,Inv X pins σ H s->wi σ H R->
  wpAny X.mo X.A (eval iter X.9) (λv s1=>wpAny X.mo X.A (pyIter v) (PIE X pins σ tg R) X.xe s1) X.xe s
def AU {it:Ι}{n:String}{Q:Unit->η->Prop}(ho:s.heap.get? it=!o)(hc:o.92=.type n)(hd:o.52=.fields vs)
  (hn:["enumerate","zip","dict_itemiterator","dict_reverseitemiterator","odict_iterator","itertools.zip_longest","itertools.pairwise"].contains n=false) (hQ:Q Unit.unit s):wpAny M A (letOwnedTupleGo tg (.ref it) u) Q E s:=by
 cases tg<;>first
  | show ύ hQ
  | (cases u<;>first
    | show ύ hQ
    | (show Ν (wpAny_load ho ?_)
       rw[hc,hd];change wpAny M A (if (["enumerate","zip","dict_itemiterator","dict_reverseitemiterator","odict_iterator","itertools.zip_longest","itertools.pairwise"].contains n && vs[0]? == some (rawInt _))=true then _ else _) Q E s;rw[Φ (by intro h;rw[hn,Bool.false_and] at h;cases h)]
       show ύ hQ))
abbrev Itl (K:Ψ)(a:Ι):It:=
 ⟨λi H=>∃xs x,G' K H a xs/\xs[i]?=!x,λi H x H'=>H'=H/\∀xs,G' K H a xs->xs[i]?=!x,λi H=>∃xs,G' K H a xs/\xs.4<=i⟩
abbrev Itt (K:Ψ)(a:Ι):It:=
 ⟨λi H=>∃xs x,Of K H a xs/\xs[i]?=!x,λi H x H'=>H'=H/\∀xs,Of K H a xs->xs[i]?=!x,λi H=>∃xs,Of K H a xs/\xs.4<=i⟩
abbrev Itr (lo:Int)(n:Nat):It:=⟨λi _=>i < n,λi H x H'=>H'=H/\x=.int (lo+i),λi _=>n<=i⟩
def BK {P:ϯ}{K:Ψ}(a it:Ι):Turn P w K tg (Itl K a) [it] it (λi h=>h.IsListIter it a i) where
 mem:=by simp
 obj:=λi h st b hb=>by
  let e:b=it:=by simpa using hb
  subst e;(revert st;show Nq λo e c d=>?_);show(Λ o e (λv z=>by rw[d] at z;cases z))
 keep:=λi h h' st k=>st.at λo e=>k it ∅ o e
 item:=by
  intro X hP hw hK hc i pins s σ H E I hf st hg;subst hP hw hK;(revert hg;show v0 λxs x hq hx=>?_);(show ϱ (I.list hq) λfT rv p hz=>?_);(show ι (rv.get hx) λu hu ru=>?_);(show UP (hf it ∅) λf0 f1 f2 f3 f4 f5=>?_);show wpAny_pyNext_list_item st p.21 (by simpa using hu) λh' Zi sb=>?_;(show ϱ (id Zi) λo e c d=>?_);show(Λ u rfl (AU e c d "!" (TV x H (I.turned (λb o hb e=>(sb.2 b hb).trans e) f0 f1 f3 f4 f5) ru ⟨rfl,λys hy=>by rw[I.mf hy hq];show hx⟩ Zi (λb hb=>(hf b hb).1))))
 done:=by
  intro X hP hw hK hc i pins s σ H E I hf st hg;subst hP hw hK;(revert hg;show ϭ λxs hq hx=>?_);(show ϱ (I.list hq) λfT rv p hz=>?_);(show UP (hf it ∅) λf0 f1 f2 f3 f4 f5=>?_);let hl:=rv.4;show wpAny_pyNext_list_end (I.ok.hd hc) st p.21 (by simp;lk) λh' eb=>⟨rfl,I.turned (λb o hb e=>eb b o hb e) f0 f1 f3 f4 f5⟩
 self:=λ_ _ _ _ _ st h=>wpAny_pyIter_listiter st h
def yG {P:ϯ}{K:Ψ}(a it:Ι):Turn P w K tg (Itt K a) [it] it (λi h=>h.IsTupleIter it a i) where
 mem:=by simp
 obj:=λi h st b hb=>by
  let e:b=it:=by simpa using hb
  subst e;(revert st;show Nq λo e c d=>?_);show(Λ o e (λv z=>by rw[d] at z;cases z))
 keep:=λi h h' st k=>st.at λo e=>k it ∅ o e
 item:=by
  intro X hP hw hK hc i pins s σ H E I hf st hg;subst hP hw hK;(revert hg;show v0 λxs x hq hx=>?_);(show ϱ (I.tuple hq) λfT rv p hz=>?_);(show ι (rv.get hx) λu hu ru=>?_);(show UP (hf it ∅) λf0 f1 f2 f3 f4 f5=>?_);show wpAny_pyNext_tuple_item st (p) (by simpa using hu) λh' Zi sb=>?_;(show ϱ (id Zi) λo e c d=>?_);show(Λ u rfl (AU e c d "!" (TV x H (I.turned (λb o hb e=>(sb.2 b hb).trans e) f0 f1 f3 f4 f5) ru ⟨rfl,λys hy=>by rw[I.tL hy hq];show hx⟩ Zi (λb hb=>(hf b hb).1))))
 done:=by
  intro X hP hw hK hc i pins s σ H E I hf st hg;subst hP hw hK;(revert hg;show ϭ λxs hq hx=>?_);(show ϱ (I.tuple hq) λfT rv p hz=>?_);(show UP (hf it ∅) λf0 f1 f2 f3 f4 f5=>?_);let hl:=rv.4;show wpAny_pyNext_tuple_end (I.ok.hd hc) st (p) (by simp;lk) λh' eb=>⟨rfl,I.turned (λb o hb e=>eb b o hb e) f0 f1 f3 f4 f5⟩
 self:=λ_ _ _ _ _ st h=>wpAny_pyIter_tupleiter st h
def yH {P:ϯ}{K:Ψ}(it:Ι)(lo:Int)(n:Nat):Turn P w K tg (Itr lo n) [it] it (λi h=>as2 h it (lo+(i:Nat) * 1) ((n:Int) - (i:Nat)) 1) where
 mem:=by simp
 obj:=λi h st b hb=>by
  let e:b=it:=by simpa using hb
  subst e
  show(Λ _ st (λv z=>by
   let z':=z
   cases z'))
 keep:=λi h h' st k=>k it ∅ _ st
 item:=by
  intro X hP hw hK hc i pins s σ H E I hf st hg;(show UP (hf it ∅) λf0 f1 f2 f3 f4 f5=>?_);show (Walks.range (I.ok.hd hc) it lo 1 n).item i s _ _ hg st λv h' tk hv Zi kk=>?_;obtain⟨t,rfl⟩:=hv;let I1:Inv X pins σ H { s with heap:=h',toks:=tk }:=I.turned (λb o hb e=>kk b o (by simpa using hb) e) f0 f1 f3 f4 f5;show(Λ _ rfl (AU Zi rfl rfl "!" (TV (.int (lo+i)) H I1 ⟨t,?_⟩ ⟨rfl,rfl⟩ Zi (λb hb=>(hf b hb).1))));rw[Int.mul_one]
 done:=by
  intro X hP hw hK hc i pins s σ H E I hf st hg;(show UP (hf it ∅) λf0 f1 f2 f3 f4 f5=>?_);show wpAny_pyNext_range_end (I.ok.hd hc) st (by have:n<=i:=hg;lk) λh' eb=>⟨rfl,I.turned (λb o hb e=>eb b o hb e) f0 f1 f3 f4 f5⟩
 self:=λ_ _ _ _ _ st h=>wpAny_pyIter_rangeiter st h
section
variable {X:Cx} 
def wA {lo hi:Int}{t u v:Tok}(I:Inv X pins σ H s)(h1:-(((2 ^ 62)))<=lo)(h2:lo < 2 ^ 62)(h3:-(((2 ^ 62)))<=hi)(h4:hi < 2 ^ 62)
  (q:R (Itr lo (hi - lo).6) H):wpAny X.mo X.A (pyIter (.ref s.5)) (PIE X pins σ tg R) E { s with heap:=s.heap.push (Rgo lo hi t u v),toks:=tk }:=by
 show wpAny_pyIter_range (ad8 ..) (ax0 h1 h2 h3 h4) ?_;let I1:Inv X pins σ H { s with heap:=s.heap.push (Rgo lo hi t u v),toks:=tk }:=I.kept λb o e=>Τ _ e
 show(QA ((s.heap.push (Rgo lo hi t u v)).7) ([(s.heap.push (Rgo lo hi t u v)).7]) _ _ H rfl 
  (I1.kept λb o e=>Τ _ e) (yH _ lo (hi - lo).6) ?_ (λb hb=>?_) q)
 ·let e1:lo+(0:Int) * 1=lo:=by simp
  let e2:(((hi - lo).6):Int) - ((0:Nat))=TL lo hi 1:=by rw[amZ];split<;>lk
  change as2 _ _ (lo+(0:Int) * 1) ((((hi - lo).6:Nat)) - ((0:Nat))) 1;rw[e1,e2];show ώ _ rfl
 ·let e:b=(s.heap.push (Rgo lo hi t u v)).7:=by simpa using hb
  subst e;show I1.Xx (δ _) (I1.lu.fresh (δ _))
abbrev ajs (ta:TA):TI:=λσ H R=>ta σ H λvs H1=>∃j,vs=[.int j]/\-(((2 ^ 62)))<=j/\j < 2 ^ 62/\R (Itr 0 j.6) H1
abbrev ajt (ta:TA):TI:=λσ H R=>ta σ H λvs H1=>∃i j,vs=[.int i,.int j]/\(-(((2 ^ 62)))<=i/\i < 2 ^ 62/\-(((2 ^ 62)))<=j/\j < 2 ^ 62)/\R (Itr i (j - i).6) H1
def d9 {a:tz}(hg:Gl X "range")(hm:X.mg "range"=none)(ha:PA X [a] ta)(hs: ~~~(starEach [a] X.9=[(false,eval a X.9)])):PI X tg (.Call (.Name "range" p) [a] [] pos) (ajs ta):=by
 intro pins s σ H R I h;show agk (eY I hg hm afq (bn (UR (ha pos pins s σ H _ I h) λus s1 vs H1 I1 r1 q1=>?_) hs rfl));(revert q1;show Xv λj e q1 q2 q=>?_);subst e;cases r1 with
 | cons r rr=>
  cases rr;obtain⟨t,rfl⟩:=r;show call_range_1 (wA I1 () () q1 q2 (by simpa using q))
def BL {a b:tz}(hg:Gl X "range")(hm:X.mg "range"=none)(ha:PA X [a,b] ta)(hs: ~~~(starEach [a,b] X.9=[(false,eval a X.9),(false,eval b X.9)]))(hs2: ~~~(starEach [b] X.9=[(false,eval b X.9)])) :
  PI X tg (.Call (.Name "range" p) [a,b] [] pos) (ajt ta):=by
 intro pins s σ H R I h;show agk (eY I hg hm afq (bn (UR (ha pos pins s σ H _ I h) λus s1 vs H1 I1 r1 q1=>?_) (by rw[hs,hs2]) (by rw[hs2];rfl)));(revert q1;show MM λi j e μ q=>?_;obtain ⟨q1,q2,q3,q4⟩:=μ);subst e;cases r1 with
 | cons r rr=>
  cases rr with
  | cons r' rr=>
   cases rr;obtain⟨t,rfl⟩:=r;obtain⟨t',rfl⟩:=r';show aqz (wA I1 q1 q2 q3 q4 q)
abbrev aju (wi:TI)(g:TG)(tb:TS):TS:=λD σ H=>wi σ H λJ H1=>∃W:Nat->Nat->St->Hp->Prop,(∃m,W 0 m σ H1)/\∀i m σ H,W i m σ H->
 (J.stop i H/\D.nx σ H)\/(J.go i H/\∃N,(∀σ' H',N σ' H'->∃m',m' < m/\W (i+1) m' σ' H')/\∀x H',J.Zh i H x H'->g x σ H' λσ2 H2=>tb { D with nx:=N,ct:=N,bk:=D.nx } σ2 H2)
abbrev Vy (fp:-Ι)(h:be):-(Ι×Obj):=fp.filterMap λb=>(h.get? b).map λo=>(b,o)
def iz (hb:b∈fp)(e:h.get? b=!o):(b,o)∈Vy fp h:=PQ.mpr (Λ b hb (by rw[e];rfl))
def BM {p:Ι×Obj}(hp:p∈Vy fp h):p.1∈fp/\h.get? p.1=!p.2:=by
 (show ι (PQ.mp hp) λb hb e=>?_);cases q:h.get? b with
 | none=>rw[q] at e;cases e
 | some o=>
  rw[q] at e;let e':=Ϭ e;subst e';show⟨hb,q⟩
def Inv.pinned (I:Inv X pins σ H s)(hf:∀b∈fp,Rk X pins H b)(ho:∀b∈fp,∃o,s.heap.get? b=!o/\∀v,o.52≠.cell v):Inv X (pins++Vy fp s.8) σ H s:=
 I.AR λp hp=>(Ξ.mp hp).elim (λz=>I.pin p (Β _ z)) λz=>by
  obtain⟨hb,e⟩:=BM z;(show acm (hf p.1 hb) λf0 f1 f2 _=>?_);(show ι (ho p.1 hb) λo e' d=>?_);rw[e] at e';cases e';show⟨e,f0,f1,f2,d⟩
def Inv.SX {pl:-(Ι×Obj)}(I:Inv X (pins++pl) σ H s):Inv X pins σ H s:=I.AR λp hp=>I.pin p (Β _ (Η _ hp))
theorem FsI (X:Cx)(iter:tz):Prop:=∀x,foldedSetIterable iter X.9 x=pure x
def bE (hp:axZ X.mo X.A X.9 X.xe)(hc:X.39=true)(hi:PI X tg iter wi)(hg:PG X tg g)(hb:W2 X body tb)
  (hs:autoParam (FsI X iter) L2.Wr._auto_1):PS X (.For tg iter body [] pos) (aju wi g tb):=by
 intro pins s σ H D I h;show wpAny_For (No (hi pins s σ H _ I h) λv s1 h1=>No h1 λitv s2 h2=>?_) hs;(revert h2;show Vs λit fp tn J H2 e I2 T st2 f2=>ϭ λW μ turn=>?_;obtain ⟨m0,w0⟩:=μ);subst e;let Zj:∀{H':Hp},(∀b∈fp,H' b=none)->∀b∈fp,Rk X pins H' b:=λhn b hb=>⟨hn b hb,(f2 b hb).2⟩
 show codeAny_forLoop_any (λn s'=>∃i σ' H',Inv X pins σ' H' s'/\tn i s'.8/\(∀b∈fp,H' b=none)/\W i n σ' H') ?_ m0 (ϰ 0 σ H2 I2 st2 (λb hb=>(f2 b hb).1) w0)
 rintro n s3 ⟨i,σ3,H3,I3,st3,fr3,w3⟩
 rcases turn i n σ3 H3 w3 with⟨stop,qn⟩ | ⟨go,N,hN,step⟩
 ·show Nt hp (No (T.done X rfl rfl rfl hc i pins s3 σ3 H3 X.xe I3 (Zj fr3) st3 stop) λr s4 zz=>PV zz λhr I4=>?_)
  subst hr;show Ox (cr σ3 H3 I4 qn)
 ·show Nt hp (No (T.item X rfl rfl rfl hc i pins s3 σ3 H3 X.xe I3 (Zj fr3) st3 go) λr s4 zz=>ι zz λu hr h4=>?_)
  subst hr;show Nt hp (No h4 λ_ s5 zz=>ai' zz λx H5 I5 r5 y5 st5 fr5=>Nt hp (No (hg _ s5 σ3 H5 x u _ (I5.pinned (Zj fr5) (T.obj _ _ st5)) r5 (step x H5 y5)) λ_ s6 zz=>Rh zz λσ6 H6 I6 q6=>?_));show Nt hp (No (hb _ s6 σ6 H6 _ I6 q6) λf s7 q7=>?_);let again:∀{σ7:St} {H7:Hp},Inv X (pins++Vy fp s5.8) σ7 H7 s7->N σ7 H7->∃m,m < n/\∃i σ' H',Inv X pins σ' H' s7/\tn i s7.8/\(∀b∈fp,H' b=none)/\W i m σ' H':=λ{σ7 H7} I7 n7=>by
   (show ι (hN σ7 H7 n7) λm' hm w7=>?_);show(Λ m' hm (ϰ (i+1) σ7 H7 I7.SX (T.keep _ _ _ st5 λb hb o e=>(I7.pin (b,o) (Β _ (Β _ (iz hb e)))).1) (λb hb=>?_) w7));(show ι (T.obj _ _ st5 b hb) λo e d=>?_);show(I7.pin (b,o) (Β _ (Β _ (iz hb e)))).2.1
  cases f with
  | next=>(revert q7;show v0 λσ7 H7 I7 n7=>?_);show again I7 n7
  | cont=>(revert q7;show v0 λσ7 H7 I7 n7=>?_);show again I7 n7
  | brk=>(revert q7;show v0 λσ7 H7 I7 q7=>?_);show(cr σ7 H7 I7.SX q7)
  | ret v=>(revert q7;show Rx λx7 σ7 H7 I7 r7 q7=>?_);show(UL x7 σ7 H7 I7.SX r7 q7)
end
def ER {K:Ψ}{g:TG}{tb:TS}{D:Ends}(Pv:Nat->St->Hp->Prop)(h0:Pv 0 σ H)(hl:∀i σ H,i<=xs.4->Pv i σ H->G' K H a xs)
  (hs:∀i x σ H,xs[i]?=!x->Pv i σ H->g x σ H λσ2 H2=>tb { D with nx:=Pv (i+1),ct:=Pv (i+1),bk:=D.nx } σ2 H2) (hd:∀σ H,Pv xs.4 σ H->D.nx σ H) :
  ∃W:Nat->Nat->St->Hp->Prop,(∃m,W 0 m σ H)/\∀i m σ H,W i m σ H->
   ((Itl K a).stop i H/\D.nx σ H)\/((Itl K a).go i H/\∃N:St->Hp->Prop,(∀σ' H',N σ' H'->∃m',m' < m/\W (i+1) m' σ' H')/\∀x H',(Itl K a).Zh i H x H'->g x σ H' λσ2 H2=>tb { D with nx:=N,ct:=N,bk:=D.nx } σ2 H2):=by
 show(Λ (λi m σ H=>m=xs.4 - i/\i<=xs.4/\Pv i σ H) (ϡ xs.4 ∅ (Ϡ _) h0) ?_)
 rintro i m σ H ⟨rfl,hi,p⟩
 let q:=hl i σ H hi p
 by_cases OM:i < xs.4
 ·show .inr ⟨(cr xs (xs[i]) q (by simp[OM])),(Λ (Pv (i+1)) (λσ' H' p'=>(MD (xs.4 - (i+1)) () rfl OM p')) (λx H' y=>?_))⟩
  obtain⟨e,y⟩:=y;subst e;show hs i x σ _ (y xs q) p
 ·let e:i=xs.4:=by lk
  subst e;show .inl ⟨(Λ xs q (δ _)),hd σ H p⟩
def BN {lo:Int}{g:TG}{tb:TS}{D:Ends}(Pv:Nat->St->Hp->Prop)(h0:Pv 0 σ H)
  (hs:∀i σ H,i < n->Pv i σ H->g (.int (lo+i)) σ H λσ2 H2=>tb { D with nx:=Pv (i+1),ct:=Pv (i+1),bk:=D.nx } σ2 H2) (hd:∀σ H,Pv n σ H->D.nx σ H) :
  ∃W:Nat->Nat->St->Hp->Prop,(∃m,W 0 m σ H)/\∀i m σ H,W i m σ H->
   ((Itr lo n).stop i H/\D.nx σ H)\/((Itr lo n).go i H/\∃N:St->Hp->Prop,(∀σ' H',N σ' H'->∃m',m' < m/\W (i+1) m' σ' H')/\∀x H',(Itr lo n).Zh i H x H'->g x σ H' λσ2 H2=>tb { D with nx:=N,ct:=N,bk:=D.nx } σ2 H2):=by
 show(Λ (λi m σ H=>m=n - i/\i<=n/\Pv i σ H) (ϡ n ∅ (Ϡ _) h0) ?_)
 rintro i m σ H ⟨rfl,hi,p⟩
 by_cases OM:i < n
 ·show .inr ⟨OM,(Λ (Pv (i+1)) (λσ' H' p'=>(MD (n - (i+1)) () rfl OM p')) (λx H' y=>?_))⟩
  obtain⟨e,y⟩:=y;subst e y;show hs i σ _ OM p
 ·let e:i=n:=by lk
  subst e;show .inl ⟨δ _,hd σ H p⟩
noncomputable abbrev R2:=V->V->Hp->VK->Prop
abbrev M7 (X:Cx)(f:Υ->Υ->Sem Υ)(r:R2):Prop:=
 ∀pins s σ H x y v u Q,Inv X pins σ H s->RelV x v->RelV y u->r x y H Q->
  wpAny X.mo X.A (f v u) (EP X pins σ Q) X.xe s
abbrev UnR (X:Cx)(f:Υ->Sem Υ)(r:V->Hp->VK->Prop):Prop:=
 ∀pins s σ H x v Q,Inv X pins σ H s->RelV x v->r x H Q->
  wpAny X.mo X.A (f v) (EP X pins σ Q) X.xe s
abbrev MF (X:Cx)(f:Υ)(r:-V->Hp->VK->Prop):Prop:=
 ∀pins s σ H xs us Q,Inv X pins σ H s->Vals xs us->r xs H Q->
  wpAny X.mo X.A (call f us) (EP X pins σ Q) X.xe s
abbrev anI (X:Cx)(r:V->Hp->(Bool->Hp->Prop)->Prop):Prop:=
 ∀pins s σ H x v Q,Inv X pins σ H s->RelV x v->r x H Q->
  wpAny X.mo X.A (truthy v) (TP X pins σ Q) X.xe s
abbrev tOp (r:R2)(ta tb:TE):TE:=λσ H Q=>ta σ H λx H1=>tb σ H1 λy H2=>r x y H2 Q
abbrev tUn (r:V->Hp->VK->Prop)(ta:TE):TE:=λσ H Q=>ta σ H λx H1=>r x H1 Q
abbrev rI (C:Int->Int->Prop)(g:Int->Int->V):R2:=λx y H Q=>onI x λi=>onI y λj=>C i j/\Q (g i j) H
abbrev T0 (g:Int->Int->V):R2:=λx y H Q=>onI x λi=>onI y λj=>Q (g i j) H
abbrev rU (g:Int->V):V->Hp->VK->Prop:=λx H Q=>onI x λi=>Q (g i) H
section
variable {X:Cx} {a b:tz} {ta tb tc:TE} 
def aen (ha:PE X a ta)(hb:PE X b tb){R:V->V->Hp->Prop}(I:Inv X pins σ H s)
  (h:ta σ H λx H1=>tb σ H1 λy H2=>R x y H2)  {f:Υ->Υ->Sem Υ}
  (hf:∀v u s2 x y H2,Inv X pins σ H2 s2->RelV x v->RelV y u->R x y H2->wpAny X.mo X.A (f v u) Q X.xe s2) :
  wpAny X.mo X.A (eval a X.9) (λv s₁=>wpAny X.mo X.A (eval b X.9) (λu s₂=>wpAny X.mo X.A (f v u) Q X.xe s₂) X.xe s₁) X.xe s:=by
 show L8 (ha pins s σ H _ I h) λv s1 x H1 I1 r1 q1=>L8 (hb pins s1 σ H1 _ I1 q1) λu s2 y H2 I2 r2 q2=>?_;show hf v u s2 x y H2 I2 r1 r2 q2
def aM {op:alK}{r:R2}(ho:M7 X (binaryOp op) r)(ha:PE X a ta)(hb:PE X b tb):PE X (.BinOp a op b pos) (tOp r ta tb):=by
 intro pins s σ H Q I h;show wpAny_BinOp (aen ha hb I h λv u s2 x y H2 I2 rx ry q=>ho pins s2 σ H2 x y v u Q I2 rx ry q)
def IK {op:UnaryOp}{r:V->Hp->VK->Prop}(ho:UnR X (unaryOp op) r)(ha:PE X a ta):PE X (.UnaryOp op a pos) (tUn r ta):=by
 intro pins s σ H Q I h;show UnaryOp_ (L8 (ha pins s σ H _ I h) λv s1 x H1 I1 r1 q1=>ho pins s1 σ H1 x v Q I1 r1 q1)
def opI {f:Υ->Υ->Sem Υ}{C:Int->Int->Prop}{g:Int->Int->Int}
  (rule:∀i j t u s Q E,C i j->Q (.int (g i j) s.29) { s with toks:=s.29+1 }->wpAny X.mo X.A (f (.int i t) (.int j u)) Q E s) :
  M7 X f (rI C λi j=>.int (g i j)):=by
 intro pins s σ H x y v u Q I rx ry h;(show ι (fF h) λi μ h2=>?_;subst μ);(show ϱ (fF h2) λj μ hc q=>?_;subst μ);obtain⟨t,rfl⟩:=rx;obtain⟨t',rfl⟩:=ry;show rule i j t t' s _ _ hc (ϕ (.int (g i j)) H (I.tok _) ⟨_,rfl⟩ q)
def aaS {f:Υ->Υ->Sem Υ}{g:Int->Int->Int}
  (rule:∀i j t u s Q E,Q (.int (g i j) s.29) { s with toks:=s.29+1 }->wpAny X.mo X.A (f (.int i t) (.int j u)) Q E s) :
  M7 X f (T0 λi j=>.int (g i j)):=by
 intro pins s σ H x y v u Q I rx ry h;(show ι (fF h) λi μ h2=>?_;subst μ);(show ι (fF h2) λj μ q=>?_;subst μ);obtain⟨t,rfl⟩:=rx;obtain⟨t',rfl⟩:=ry;show rule i j t t' s _ _ (ϕ (.int (g i j)) H (I.tok _) ⟨_,rfl⟩ q)
def aeo {f:Υ->Υ->Sem Υ}{g:Int->Int->Bool}
  (rule:∀i j t u s Q E,Q (.bool (g i j)) s->wpAny X.mo X.A (f (.int i t) (.int j u)) Q E s) :
  M7 X f (T0 λi j=>.bl (g i j)):=by
 intro pins s σ H x y v u Q I rx ry h;(show ι (fF h) λi μ h2=>?_;subst μ);(show ι (fF h2) λj μ q=>?_;subst μ);obtain⟨t,rfl⟩:=rx;obtain⟨t',rfl⟩:=ry;show rule i j t t' s _ _ (ϕ (.bl (g i j)) H I rfl q)
abbrev atn (i j:Int):Prop:=0 < j/\j < 1073741824
abbrev anJ (i j:Int):Prop:=0<=j/\j<=1000000/\i.natAbs < 2 ^ 64
abbrev acv (i j:Int):Prop:=(-(((2 ^ 64))) < i/\i < 2 ^ 64)\/(-(((2 ^ 64))) < j/\j < 2 ^ 64)
def acv.ok {i j:Int}(h:acv i j):IntMulOk i j:=by
 rcases h with⟨h1,h2⟩ | ⟨h1,h2⟩
 ·show .of_left (am0 h1 h2)
 ·show .of_right (am0 h1 h2)
def yI (k:Nat):(0:Int)<=2 ^ k:=by
 show TB _
def Jz:M7 X (binaryOp .Add) (T0 λi j=>.int (i+j)):=aaS λ_ _ _ _ _ _ _ q=>add_int q
def nJ:M7 X (binaryOp .Sub) (T0 λi j=>.int (i - j)):=aaS λ_ _ _ _ _ _ _ q=>sub_int q
def JA:M7 X (binaryOp .Mult) (rI acv λi j=>.int (i * j)):=opI λ_ _ _ _ _ _ _ hc q=>mul_int q hc.ok
def bX:M7 X (binaryOp .Mod) (rI (λ_ j=>0 < j) λi j=>.int (i % j)):=opI λi j _ _ _ _ _ hc q=>by
 let h1:=hc;show mod_int' () (by rw[Int.fmod_eq_emod_of_nonneg i ()];show q)
def JB:M7 X (binaryOp .LShift) (rI anJ λi j=>.int (i * 2 ^ j.6)):=opI λ_ _ _ _ _ _ _ hc q=>lshift_int_small hc.1 hc.2.1 hc.2.2 q
def ES:M7 X (binaryOp .RShift) (rI (λ_ j=>0<=j) λi j=>.int (i / 2 ^ j.6)):=opI λi j _ _ _ _ _ hc q=>
 rshift_int hc (by rw[Int.fdiv_eq_ediv_of_nonneg i (yI _)];show q)
def ET:M7 X (binaryOp .BitAnd) (T0 λi j=>.int (U8 i j)):=aaS λ_ _ _ _ _ _ _ q=>and_int q
def Ln:M7 X (binaryOp .BitOr) (T0 λi j=>.int (awg i j)):=aaS λ_ _ _ _ _ _ _ q=>or_int q
def EU:M7 X (binaryOp .BitXor) (T0 λi j=>.int (abL i j)):=aaS λ_ _ _ _ _ _ _ q=>xor_int q
def Ha:M7 X (inplaceOp .Add) (T0 λi j=>.int (i+j)):=aaS λ_ _ _ _ _ _ _ q=>iadd_int q
def unI {f:Υ->Sem Υ}{g:Int->Int}
  (rule:∀i t s Q E,Q (.int (g i) s.29) { s with toks:=s.29+1 }->wpAny X.mo X.A (f (.int i t)) Q E s) :
  UnR X f (rU λi=>.int (g i)):=by
 intro pins s σ H x v Q I rx h;(show ι (fF h) λi μ q=>?_;subst μ);obtain⟨t,rfl⟩:=rx;show rule i t s _ _ (ϕ (.int (g i)) H (I.tok _) ⟨_,rfl⟩ q)
def EV:UnR X (unaryOp .USub) (rU λi=>.int (-((i)))):=unI λ_ _ _ _ _ q=>neg_int q
end
abbrev ajx:V->V->Bool
 | .k4,.k4=>true | .k4,.int _=>true | .int _,.k4=>true | .k4,.bl _=>true | .bl _,.k4=>true | .k4,.str _=>true | .str _,.k4=>true
 | .int _,.int _=>true | .bl _,.bl _=>true | .str _,.str _=>true | .Y' _,.Y' _=>true
 | .int _,.str _=>true | .str _,.int _=>true | .bl _,.str _=>true | .str _,.bl _=>true
 | _,_=>false
abbrev rEq:R2:=λx y H Q=>ajx x y=true/\Q (.bl (decide (x=y))) H
abbrev rNe:R2:=λx y H Q=>ajx x y=true/\Q (.bl (!((decide (x=y))))) H
def AV {i j:Int}:decide (V.int i=V.int j)=(i == j):=by
 rw[Ro];simp
def EW {i j:Bool}:decide (V.bl i=V.bl j)=(i == j):=by
 rw[Ro];simp
def AW {i j:Str}:decide (V.str i=V.str j)=(i == j):=by
 rw[Ro];simp
def AX {i j:Array UInt8}:decide (V.Y' i=V.Y' j)=(i.37 == j.37):=by
 rw[Ro];cases i;cases j;simp
section
variable {X:Cx} {a b:tz} {ta tb tc:TE} 
def bq (I:Inv X pins σ H s)(q:Q (.bl k) H)(e:k=k'):EP X pins σ Q (.bool k') s:=by
 subst e;show(ϕ (.bl k) H I rfl q)
def EX:M7 X (compareOp .Eq) rEq:=by
 intro pins s σ H x y v u Q I rx ry h;obtain⟨hs,q⟩:=h;cases x with
 | k4=>
  cases rx;cases y with
  | k4=>cases ry;show PySem.EqNone.eq_none_none (bq I q ∅)
  | bl j=>cases ry;show PySem.EqNone.eq_none_bool (bq I q ∅)
  | int j=>obtain⟨t',rfl⟩:=ry;show PySem.EqNone.eq_none_int (bq I q ∅)
  | str j=>obtain⟨t',rfl⟩:=ry;show PySem.EqNone.eq_none_str (bq I q ∅)
  | _=>show absurd (hs) ρ
 | bl i=>
  cases rx;cases y with
  | k4=>cases ry;show PySem.EqNone.eq_bool_none (bq I q ∅)
  | bl j=>cases ry;show eq_bool (bq I q EW)
  | str j=>obtain⟨t',rfl⟩:=ry;show PySem.EqMixed.eq_bool_str (bq I q ∅)
  | _=>show absurd (hs) ρ
 | int i=>
  obtain⟨t,rfl⟩:=rx;cases y with
  | k4=>cases ry;show PySem.EqNone.eq_int_none (bq I q ∅)
  | int j=>obtain⟨t',rfl⟩:=ry;show eq_int (bq I q AV)
  | str j=>obtain⟨t',rfl⟩:=ry;show PySem.EqMixed.eq_int_str (bq I q ∅)
  | _=>show absurd (hs) ρ
 | str i=>
  obtain⟨t,rfl⟩:=rx;cases y with
  | k4=>cases ry;show PySem.EqNone.eq_str_none (bq I q ∅)
  | bl j=>cases ry;show PySem.EqMixed.eq_str_bool (bq I q ∅)
  | int j=>obtain⟨t',rfl⟩:=ry;show PySem.EqMixed.eq_str_int (bq I q ∅)
  | str j=>obtain⟨t',rfl⟩:=ry;show eq_str (bq I q AW)
  | _=>show absurd (hs) ρ
 | Y' i=>
  obtain⟨t,rfl⟩:=rx;cases y with
  | Y' j=>obtain⟨t',rfl⟩:=ry;show W.eq_bytes (bq I q AX)
  | _=>show absurd (hs) ρ
 | _=>cases y<;>show absurd (hs) ρ
def EY:M7 X (compareOp .NotEq) rNe:=by
 intro pins s σ H x y v u Q I rx ry h;obtain⟨hs,q⟩:=h;cases x with
 | k4=>
  cases rx;cases y with
  | k4=>cases ry;show PySem.EqNone.ne_none_none (bq I q ∅)
  | bl j=>cases ry;show PySem.EqNone.ne_none_bool (bq I q ∅)
  | int j=>obtain⟨t',rfl⟩:=ry;show PySem.EqNone.ne_none_int (bq I q ∅)
  | str j=>obtain⟨t',rfl⟩:=ry;show PySem.EqNone.ne_none_str (bq I q ∅)
  | _=>show absurd (hs) ρ
 | bl i=>
  cases rx;cases y with
  | k4=>cases ry;show PySem.EqNone.ne_bool_none (bq I q ∅)
  | bl j=>cases ry;show ne_bool (bq I q (congrArg not EW))
  | str j=>obtain⟨t',rfl⟩:=ry;show PySem.EqMixed.ne_bool_str (bq I q ∅)
  | _=>show absurd (hs) ρ
 | int i=>
  obtain⟨t,rfl⟩:=rx;cases y with
  | k4=>cases ry;show PySem.EqNone.ne_int_none (bq I q ∅)
  | int j=>obtain⟨t',rfl⟩:=ry;show ne_int (bq I q (congrArg not AV))
  | str j=>obtain⟨t',rfl⟩:=ry;show PySem.EqMixed.ne_int_str (bq I q ∅)
  | _=>show absurd (hs) ρ
 | str i=>
  obtain⟨t,rfl⟩:=rx;cases y with
  | k4=>cases ry;show PySem.EqNone.ne_str_none (bq I q ∅)
  | bl j=>cases ry;show PySem.EqMixed.ne_str_bool (bq I q ∅)
  | int j=>obtain⟨t',rfl⟩:=ry;show PySem.EqMixed.ne_str_int (bq I q ∅)
  | str j=>obtain⟨t',rfl⟩:=ry;show ne_str (bq I q (congrArg not AW))
  | _=>show absurd (hs) ρ
 | Y' i=>
  obtain⟨t,rfl⟩:=rx;cases y with
  | Y' j=>obtain⟨t',rfl⟩:=ry;show W.ne_bytes (bq I q (congrArg not AX))
  | _=>show absurd (hs) ρ
 | _=>cases y<;>show absurd (hs) ρ
def Lo:M7 X (compareOp .Lt) (T0 λi j=>.bl (decide (i < j))):=aeo λ_ _ _ _ _ _ _ q=>lt_int q
def Lp:M7 X (compareOp .LtE) (T0 λi j=>.bl (decide (i<=j))):=aeo λ_ _ _ _ _ _ _ q=>le_int q
def Lq:M7 X (compareOp .Gt) (T0 λi j=>.bl (decide (j < i))):=aeo λ_ _ _ _ _ _ _ q=>gt_int q
def Lr:M7 X (compareOp .GtE) (T0 λi j=>.bl (decide (j<=i))):=aeo λ_ _ _ _ _ _ _ q=>ge_int q
def BO:M7 X (compareOp .In) (λx y H Q=>∃i j,x=.str i/\y=.str j/\Q (.bl (!(((PM j i 0 j.4 1).49)))) H):=by
 intro pins s σ H x y v u Q I rx ry h;(revert h;show MM λi j μ M0 q=>?_;subst μ;subst M0);obtain⟨t,rfl⟩:=rx;obtain⟨t',rfl⟩:=ry;show in_str (bq I q rfl)
abbrev SY (r r':R2):R2:=λx y H Q=>match x,y with | .int _,.int _=>r x y H Q | _,_=>r' x y H Q
abbrev Xy (r r':R2):R2:=λx y H Q=>match x,y with | .str _,.str _=>r x y H Q | _,_=>r' x y H Q
def M7.i2 {f:Υ->Υ->Sem Υ}{r r':R2}(h:M7 X f r)(h':M7 X f r'):M7 X f (SY r r'):=by
 intro pins s σ H x y v u Q I rx ry q;unfold SY at q
 split at q
 ·show h pins s σ H _ _ v u Q I rx ry q
 ·show h' pins s σ H _ _ v u Q I rx ry q
def M7.s2 {f:Υ->Υ->Sem Υ}{r r':R2}(h:M7 X f r)(h':M7 X f r'):M7 X f (Xy r r'):=by
 intro pins s σ H x y v u Q I rx ry q;unfold Xy at q
 split at q
 ·show h pins s σ H _ _ v u Q I rx ry q
 ·show h' pins s σ H _ _ v u Q I rx ry q
def M7.or {f:Υ->Υ->Sem Υ}{r r':R2}(h:M7 X f r)(h':M7 X f r'):M7 X f (λx y H Q=>r x y H Q\/r' x y H Q):=by
 intro pins s σ H x y v u Q I rx ry q;rcases q with q | q
 ·show h pins s σ H x y v u Q I rx ry q
 ·show h' pins s σ H x y v u Q I rx ry q
def ϧ (b:tz)(h:autoParam (op≠.In) L2.M9._auto_1)(h2:autoParam (op≠.NotIn) L2.M9._auto_1):behindInMarks op b=false:=by
 let e1:(op == alI)=false:=by cases op<;>first | rfl | show absurd rfl h
 let e2:(op == agh)=false:=by cases op<;>first | rfl | show absurd rfl h2
 cases b<;>simp[behindInMarks,e1,e2]
def cq {r:R2}(ho:M7 X (compareOp op) r)(ha:PE X a ta)(hb:PE X b tb)(hm:behindInMarks op b=false):PE X (.Compare a [op] [b] pos) (tOp r ta tb):=by
 intro pins s σ H Q I h;show alJ (aen ha hb I h λv u s2 x y H2 I2 rx ry q=>ho pins s2 σ H2 x y v u Q I2 rx ry q) hm
abbrev afE (t:TE):TT:=λσ H Q=>t σ H λx H'=>onB x λk=>Q k H'
def aw {r:R2}(ho:M7 X (compareOp op) r)(ha:PE X a ta)(hb:PE X b tb)(hm:behindInMarks op b=false):PT X (.Compare a [op] [b] pos) (afE (tOp r ta tb)):=by
 intro pins s σ H Q I h
 show aca (L8 (ha pins s σ H _ I h) λv s1 x H1 I1 r1 q1=>L8 (hb pins s1 σ H1 _ I1 q1) λu s2 y H2 I2 r2 q2=>
  L8 (ho pins s2 σ H2 x y v u _ I2 r1 r2 q2) λc s3 z H3 I3 r3 q0=>?_) hm
 (show ι (qw q0) λk e q3=>?_);subst e;cases r3;show ut (Λ H3 I3 q3)
abbrev acw (r r':R2)(ta tb tc:TE):TE:=λσ H Q=>ta σ H λx H1=>tb σ H1 λy H2=>r x y H2 λz H3=>onB z λk=>
 (if k=true then tc σ H3 λw' H4=>r' y w' H4 Q else Q (.bl false) H3)
def qA {r r':R2}(ho:M7 X (compareOp op) r)(Zf:M7 X (compareOp op') r')(ha:PE X a ta)(hb:PE X b tb)(hc:PE X c tc)
  (hm:autoParam (lastMarks [op,op'] [b,c]=false) L2.ajb._auto_1):PE X (.Compare a [op,op'] [b,c] pos) (acw r r' ta tb tc):=by
 intro pins s σ H Q I h
 show Compare_chain (L8 (ha pins s σ H _ I h) λv s1 x H1 I1 r1 q1=>chain_link (L8 (hb pins s1 σ H1 _ I1 q1) λu s2 y H2 I2 r2 q2=>
  L8 (ho pins s2 σ H2 x y v u _ I2 r1 r2 q2) λd s3 z H3 I3 r3 q0=>?_)) hm
 (show ι (qw q0) λk e q3=>?_);subst e;cases r3;show ut ?_;cases k with
 | false=>show ite_ff (ϕ (.bl false) H3 I3 rfl q3)
 | true=>show ite_tt (chain_last (L8 (hc pins s3 σ H3 _ I3 q3) λw' s4 z' H4 I4 r4 q4=>Zf pins s4 σ H4 y z' u w' Q I4 r2 r4 q4))
def wB {r r':R2}(ho:M7 X (compareOp op) r)(Zf:M7 X (compareOp op') r')(ha:PE X a ta)(hb:PE X b tb)(hc:PE X c tc)
  (hm:autoParam (lastMarks [op,op'] [b,c]=false) L2.ajb._auto_1):PT X (.Compare a [op,op'] [b,c] pos) (afE (acw r r' ta tb tc)):=by
 intro pins s σ H Q I h
 show isTrue_chain (L8 (ha pins s σ H _ I h) λv s1 x H1 I1 r1 q1=>test_link (L8 (hb pins s1 σ H1 _ I1 q1) λu s2 y H2 I2 r2 q2=>
  L8 (ho pins s2 σ H2 x y v u _ I2 r1 r2 q2) λd s3 z H3 I3 r3 q0=>?_)) hm
 (show ι (qw q0) λk e q3=>?_);subst e;cases r3;show ut ?_;cases k with
 | false=>
  (show ι (qw (x:=.bl false) (R:=λk=>Q k H3) q3) λk' e' q'=>?_);cases e';show ite_ff (Λ H3 I3 q')
 | true=>
  show ite_tt (test_last (L8 (hc pins s3 σ H3 _ I3 q3) λw' s4 z' H4 I4 r4 q4=>L8 (Zf pins s4 σ H4 y z' u w' _ I4 r2 r4 q4) λd' s5 z2 H5 I5 r5 q0=>?_));(show ι (qw q0) λk2 e2 q5=>?_);subst e2;cases r5;show ut (Λ H5 I5 q5)
abbrev Wt (K:Ψ)(x:V)(H:Hp)(k:Bool):Prop:=
 match x with
 | .k4=>k=false
 | .bl b=>k=b
 | .int i=>k=(i != 0)
 | .str y=>y.4<=sizeLine/\k=((y.4:Int) != 0)
 | .Y' y=>y.82<=sizeLine/\k=((y.82:Int) != 0)
 | .ref p=>(∃xs,G' K H p xs/\k=!((xs.isEmpty)))\/(∃xs,Of K H p xs/\k=!((xs.isEmpty)))\/∃ϓ,H p=!.dK ϓ/\k=!((ϓ.isEmpty))
 | _=>False
def yJ {vs:-(κ×Υ)}(r:KV ϓ vs):(!((vs.isEmpty)))=!((ϓ.isEmpty)):=by
 cases r<;>rfl
def qB (r:Vals xs fT):(!((fT.toArray.isEmpty)))=!((xs.isEmpty)):=by
 cases r<;>simp
def T1:(sizeLine:Nat) < 2 ^ 63:=by rw[OD];decide
def JC:anI X (λx H Q=>∃k,Wt X.K x H k/\Q k H):=by
 intro pins s σ H x v Q I rx h;(revert h;show ϭ λk e q=>?_);let hs:=OD;cases x with
 | k4=>
  cases rx;let e':=e;subst e';show truthy_none (Λ H I q)
 | bl b=>
  cases rx;let e':=e;subst e';show ut (Λ H I q)
 | int i=>
  obtain⟨t,rfl⟩:=rx;let e':=e;subst e';show PySem.P.truthy_int (Λ H I q)
 | str y=>
  obtain⟨t,rfl⟩:=rx;obtain⟨hy,e'⟩:y.4<=sizeLine/\k=((y.4:Int) != 0):=e;subst e';show PySem.P.truthy_str () (Λ H (I.tok _) q)
 | Y' y=>
  obtain⟨t,rfl⟩:=rx;obtain⟨hy,e'⟩:y.82<=sizeLine/\k=((y.82:Int) != 0):=e;subst e';show W.truthy_bytes () (Λ H (I.tok _) q)
 | ref p=>
  cases rx;let e':=e;rcases e' with⟨xs,hx,e'⟩ | ⟨xs,hx,e'⟩ | ⟨ϓ,hx,e'⟩
  ·subst e'
   (show ϱ (I.list hx) λfT r pl hz=>?_);let hlen:=r.4;show wpAny_truthy_list pl.21 (by simp only[Ϙ];lk) (Λ H (I.tok _) (by rw[qB r];show q))
  ·subst e'
   (show ϱ (I.tuple hx) λfT r pl hz=>?_);let hlen:=r.4;show truthy_tuple pl (by simp only[Ϙ];lk) (Λ H (I.tok _) (by rw[qB r];show q))
  ·subst e'
   obtain⟨hz,hS,vs,r,m⟩:ϓ.4<=sizeLine/\(p == sysModules)=false/\∃vs,KV ϓ vs/\s.heap.DictOf (ww X.24 X.w) p vs:=I.lu p _ hx;let hlen:=Paired.length r;show wpAny_truthy_dict hS m () (Λ H (I.tok _) (by rw[yJ r];show q))
 | _=>show(e).36
def EZ (ha:PE X a ta)(he:∀whole,isTrue a X.9 whole=(do let v <-whole;standAt a.pos;holding [v] (truthy v))) :
  PT X a (λσ H Q=>ta σ H λx H'=>∃k,Wt X.K x H' k/\Q k H'):=by
 intro pins s σ H Q I h;show isTrue_plain (L8 (ha pins s σ H _ I h) λv s1 x H1 I1 r1 q1=>JC pins s1 σ H1 x v Q I1 r1 q1) (he _)
def yK:M7 X (binaryOp .Add) (λx y H Q=>∃i j,x=.str i/\y=.str j/\i.4+j.4<=sizeLine/\Q (.str (i++j)) H):=by
 intro pins s σ H x y v u Q I rx ry h;(revert h;show P9 λi j μ M0 hz q=>?_;subst μ;subst M0);obtain⟨t,rfl⟩:=rx;obtain⟨t',rfl⟩:=ry;show add_str (λt' tk=>(ϕ (.str (i++j)) H (I.tok _) ⟨_,rfl⟩ q)) hz
def vals1 {x:V}(r:Vals [x] us):∃u,us=[u]/\RelV x u:=by
 cases r with
 | cons r1 r2=>cases r2;show(Λ _ rfl r1)
def vals2 {x y:V}(r:Vals [x,y] us):∃u w',us=[u,w']/\RelV x u/\RelV y w':=by
 cases r with
 | cons r1 r2=>
  cases r2 with
  | cons r3 r4=>cases r4;show(ϕ _ _ rfl r1 r3)
def BP (hc:X.39=true):MF X (.builtin "max") (λxs H Q=>∃i j,xs=[.int i,.int j]/\Q (.int (if j > i then j else i)) H):=by
 intro pins s σ H xs us Q I r h;(revert h;show v0 λi j μ q=>?_;subst μ);(show Nm (vals2 r) λu w' μ M0 zz3=>?_;subst μ;obtain ⟨t,rfl⟩:=M0;obtain ⟨t',rfl⟩:=zz3);show max_two_ints (I.ok.hd hc) λh' tk k=>(ϕ _ H (I.kept k) ?_ q)
 by_cases hj:j > i
 ·rw[γ hj,γ hj];show⟨_,rfl⟩
 ·rw[Φ hj,Φ hj];show⟨_,rfl⟩
def BQ (hc:X.39=true):MF X (.builtin "min") (λxs H Q=>∃i j,xs=[.int i,.int j]/\Q (.int (if j < i then j else i)) H):=by
 intro pins s σ H xs us Q I r h;(revert h;show v0 λi j μ q=>?_;subst μ);(show Nm (vals2 r) λu w' μ M0 zz3=>?_;subst μ;obtain ⟨t,rfl⟩:=M0;obtain ⟨t',rfl⟩:=zz3);show min_two_ints (I.ok.hd hc) λh' tk k=>(ϕ _ H (I.kept k) ?_ q)
 by_cases hj:j < i
 ·rw[γ hj,γ hj];show⟨_,rfl⟩
 ·rw[Φ hj,Φ hj];show⟨_,rfl⟩
def u6:MF X (.type "str") (λxs H Q=>∃i,xs=[.int i]/\i.83 < 1920/\Q (.str (toString i)) H):=by
 intro pins s σ H xs us Q I r h;(revert h;show Nq λi μ hz q=>?_;subst μ);(show ι (vals1 r) λu μ=>Sq λt M0=>?_;subst μ;subst M0);show PySem.P.str_of_int hz (ϕ (.str _) H (I.tok _) ⟨_,rfl⟩ q)
def E1:MF X (.builtin "ord") (λxs H Q=>∃x,xs=[.str x]/\x.4=1/\Q (.int (x.cps.getD 0 0:Nat)) H):=by
 intro pins s σ H xs us Q I r h;(revert h;show Nq λx μ hz q=>?_;subst μ);(show ι (vals1 r) λu μ=>Sq λt M0=>?_;subst μ;subst M0);show ord_of_one hz (ϕ (.int _) H (I.tok _) ⟨_,rfl⟩ q)
end
structure Zk (h:be)(x dx C:Ι)(mA:Str->Option Υ):Prop where
 obj:h.get? x=!P7 C dx
 ns:h.Ns1 dx mA
 ne:dx≠x
def nK {h:be}(n:h.Ns1 dx mA):∃od,h.get? dx=!od/\∀name,abM name od=!mA name:=by
 (revert n;show QS λo es ep ho hd hk _ hm=>?_);show(Λ o ho (λname=>?_));let e:=hm name;unfold nsFind findBy at e;rw[<-Array.find?_toList] at e;unfold abM;rw[hd];dsimp only
 split
 ·rename_i y q
  rw[q] at e;show congrArg some e
 ·rename_i q
  rw[q] at e;let a:es.toList.any (·.refKey)=false:=by
   rw[List.any_eq_false];intro y hy;(show acn (hk y (Array.mem_toList_iff.mp hy)) λz t aep=>?_);simp[aqA,aep]
  let a':¬es.toList.any (·.refKey)=true:=by rw[a];show ρ
  rw[Φ a'];show congrArg some e
def Zk.look {x:Ι}(I:Zk h x dx C mA):∃od,U9 h x (P7 C dx) C (!od)/\∀name,abM name od=!mA name:=
 let ⟨od,ho,hl⟩:=nK I.ns
 (Λ od ⟨I.30,rfl,rfl,ho⟩ hl)
section
variable {s:η} {K:Ψ} {x:Ι} {v:Υ}
def get_map (X:K.In s.8)(I:Zk s.8 x dx C mA)(hg:Yb K C name=true)(hh:Wo K C=true)
  (ha:F2 K (.ref C) name=!none) (hv:mA name=!v) (hv':adF v=true) (h:Q v { s with toks:=s.29+1 }) :
  wpAny (model prog w) A (getAttr (.ref x) name expr) Q E s:=by
 (show ι I.look λod J hl=>?_);show W.get_value X J (Y2 hg).1 (aiW hh ha rfl (by rw[hl,hv])) hv' h
def E2 (X:K.In s.8)(I:Zk s.8 x dx C mA)(hg:Yb K C name=true)
  (hf:F2 K (.ref C) name=!some (.ref f)) (ht:Wh K (.ref f)=true) (hv:mA name=none) (h:Q (.ref f,[.ref x]) s) :
  wpAny (model prog w) A (getMethod (.ref x) name pl) Q E s:=by
 (show ι I.look λod J hl=>?_);show W.method_fn X J (Y2 hg).1 (Y2 hg).2 hf (UH.mp ht) (by show(abM name od).map (·.isSome)=!false;rw[hl,hv];rfl) h
def Hb {ns:-Str}(X:K.In s.8)(I:Zk s.8 x dx C mA)
  (hs:F2 K (.ref C) "__setattr__"=!some (.builtin "object.__setattr__")) (hp:am1 K C=true) (ht:SO K C name=!none) (hh:Wo K C=true)
  (hw:PySem.Within mA ns) (W5:ns.4<=sizeLine)
  (h:∀h',Zk h' x dx C (λy=>if y=name then some v else mA y)->Pn dx s.8 h'->Q Unit.unit { s with heap:=h',toks:=s.29+2 }) :
  wpAny (model prog w) A (setAttr (.ref x) name v) Q E s:=by
 (show ι I.look λod J hl=>?_);show abN X J hs (W.osa_open X J hp ht λb=>?_);(show ι (adG hh) λcd hc Vf=>?_);show Ν (ύ (Ν (Ν (Y3 I.30 (Ν (QJ (TM X hc) ?_))))));rw[Vf];show ύ (Ν (ύ (Ν (abO I.ns λh' hn2 hs2=>?_))));(show aco (hn2.count (PySem.Within.cons name v hw)) λoD esD epD hoD hdD hcD=>?_);show Ν (WV hoD (by rw[hdD];show WW (ο hcD (by rw[ς];lk))) (ύ (h _ ⟨(hs2.2 _ (ψ I.ne)).trans I.30,hn2,I.ne⟩ hs2)))
def E3 {vs:-Υ}(X:K.In s.8)(hm:as3 K C=true)
  (hi:F2 K (.ref C) "__init__"=!some (.ref f)) (hf:W.typeIn K (.ref f)=!.type "function")
  (h:codeAny (model prog w) (A.under (.builtin "type.__call__" ⟨.ref C::vs,kw⟩)) (.call (.ref f) ⟨.ref (s.5+1)::vs,kw⟩) (W.InitBack (s.5+1) R)
   { s with heap:=(s.heap.push Mz).push (P7 C s.5) }) :
  codeAny (model prog w) A (.call (.ref C) ⟨vs,kw⟩) R s:=by
 obtain⟨hh,g,d,t,os⟩:=s;show W.make_core (W.makes_of X hm) (Qp X hi) (λself=>as4 X self hf) (.inl rfl) h
end
abbrev QB (f:Str)(v:V):-(Str×V)->-(Str×V)
 | []=>[(f,v)]
 | (g,x)::r=>if g=f then(g,v)::r else(g,x)::QB f v r
def ji (f g:Str)(v:V):∀fs:-(Str×V),(QB f v fs).lookup g=if g=f then some v else fs.lookup g
 | []=>by
  change M6 g [(f,v)]=_
  by_cases h:g=f
  ·let hb:(g == f)=true:=UH.mpr h
   simp only[M6,hb,γ h]
  ·let hb:(g == f)=false:=Np.mpr h
   simp only[M6,hb,Φ h]
 | (k,x)::r=>by
  let ih:=ji f g v r;rw[show QB f v ((k,x)::r)=(if k=f then(k,v)::r else(k,x)::QB f v r) from rfl]
  by_cases hk:k=f
  ·rw[γ hk]
   by_cases h:g=k
   ·let hb:(g == k)=true:=UH.mpr h
    simp only[M6,hb,γ (h.trans hk)]
   ·let hb:(g == k)=false:=Np.mpr h
    simp only[M6,hb,Φ (λe:g=f=>h (e.trans hk.17))]
  ·rw[Φ hk]
   by_cases h:g=k
   ·let hb:(g == k)=true:=UH.mpr h
    simp only[M6,hb,Φ (λe:g=f=>hk (h.symm.trans e))]
   ·let hb:(g == k)=false:=Np.mpr h
    simp only[M6,hb];show ih
def nM (f:Str)(v:V):∀fs:-(Str×V),f∈(QB f v fs).map (·.1)/\∀g,g∈fs.map (·.1)->g∈(QB f v fs).map (·.1)
 | []=>⟨by simp[QB],λg h=>by simp at h⟩
 | (k,x)::r=>by
  obtain⟨i1,i2⟩:=nM f v r;rw[show QB f v ((k,x)::r)=(if k=f then(k,v)::r else(k,x)::QB f v r) from rfl]
  by_cases hk:k=f
  ·rw[γ hk]
   subst hk;show⟨∅,λg h=>by simpa using h⟩
  ·rw[Φ hk]
   show⟨?_,λg h=>?_⟩
   ·rw[Ϗ]
    show θ _ i1
   ·rw[Ϗ] at h ⊢
    rcases Κ.mp h with e | e
    ·show Κ.mpr (.inl e)
    ·show θ _ (i2 g e)
def oQ (f:Str)(v:V):∀fs:-(Str×V),(QB f v fs).4<=fs.4+1
 | []=>by simp[QB]
 | (k,x)::r=>by
  let ih:=oQ f v r;rw[show QB f v ((k,x)::r)=(if k=f then(k,v)::r else(k,x)::QB f v r) from rfl]
  by_cases hk:k=f
  ·rw[γ hk,ς,ς];lk
  ·rw[Φ hk,ς,ς];lk
def OE.mh (r:OE (!v) o):∃u,o=!u/\RelV v u:=by
 cases o with
 | none=>show(r).36
 | some u=>show(Λ u rfl r)
def OE.none_of (r:OE none o):o=none:=by
 cases o with
 | none=>rfl
 | some u=>show(r).36
def tM (r:RelV v u):adF u=true:=by
 cases v with
 | k4=>cases (r);rfl
 | bl b=>cases (r);rfl
 | int i=>obtain⟨t,e⟩:=(r);cases e;rfl
 | str x=>obtain⟨t,e⟩:=(r);cases e;rfl
 | Y' b=>obtain⟨t,e⟩:=(r);cases e;rfl
 | flt b=>obtain⟨t,e⟩:=(r);cases e;rfl
 | ref a=>cases (r);rfl
 | ty n=>cases (r);rfl
section
variable {P:ϯ} {H H':Hp} {h h':be} {fs fs':-(Str×V)}
def qg (lu:Rt P w H h)(e:H a=!.ins C dx fs):∃mA,Zk h a dx C mA/\(∀f,OE (fs.lookup f) (mA f))/\PySem.Within mA (fs.map (·.1))/\fs.4<=1000/\H dx=!.own a:=by
 (show aaM (lu a _ e) λd z ne ob=>Nq λmA n r q=>?_);show(UM mA ⟨ob,n,ne⟩ r q z d)
end
structure Wu (K:Ψ)(C:Ι):Prop where
 pg:Yb K C U'=true
 hd:Wo K C=true
 po:am1 K C=true
 sa:F2 K (.ref C) "__setattr__"=!some (.builtin "object.__setattr__")
def Wu.get {K:Ψ}(c:Wu K C)(f:Str):Yb K C f=true:=c.pg
abbrev i' (K:Ψ)(C:Ι)(f:Str):Prop:=F2 K (.ref C) f=!none
def i'.acx {K:Ψ}{f:Str}(n:i' K C f):SO K C f=!none:=by
 unfold SO;rw[show F2 K (.ref C) f=!none from n];rfl
structure Xz (K:Ψ)(C:Ι)(m:Str)(f:Ι):Prop where
 at_:F2 K (.ref C) m=!some (.ref f)
 fn:Wh K (.ref f)=true
 kp:NI K (.ref f)=true
section
variable {X:Cx} {σ:St} {H:Hp} {s:η} {fs:-(Str×V)} {f:Str} {v:V}  
def yL {b:Bool}(I:Inv X pins σ H s)(e:H a=!.ins C dx fs)(c:Wu X.K C)(n:i' X.K C f)(l:fs.lookup f=!v)
  (h:∀u s',Inv X pins σ H s'->RelV v u->Q u s'):wpAny X.mo A (getAttr (.ref a) f b) Q E s:=by
 (show aaN (qg I.lu e) λmA O r _ _ _=>?_);(show ι (OE.mh (by rw[<-l];show r f)) λu hu ru=>?_);show get_map I.QV O (c.get f) c.hd n hu (tM ru) (h u _ (I.tok _) ru)
def k8 (I:Inv X pins σ H s)(e:H a=!.ins C dx fs)(c:Wu X.K C)(k:Xz X.K C m g)(l:fs.lookup m=none)
  (h:Q (.ref g,[.ref a]) s):wpAny X.mo A (getMethod (.ref a) m pl) Q E s:=by
 (show aaN (qg I.lu e) λmA O r _ _ _=>?_);show E2 I.QV O (c.get m) k.at_ k.fn (OE.none_of (by rw[<-l];show r m)) h
def yM (I:Inv X pins σ H s)(e:H a=!.ins C dx fs)(c:Wu X.K C)(n:i' X.K C f)(hl:fs.4 < 1000)(ry:RelV y u)
  (h:∀s',Inv X pins σ (upd H a (.ins C dx (QB f y fs))) s'->Q Unit.unit s'):wpAny X.mo A (setAttr (.ref a) f u) Q E s:=by
 (show aaN (qg I.lu e) λmA O r wi _ ho=>?_);let hz:(fs.map (·.1)).4<=sizeLine:=by rw[Θ,OD];lk
 show Hb I.QV O c.sa c.po n.acx c.hd wi hz λh' O' sb=>h _ ?_;let hd:∃o,h'.get? dx=!o:=let ⟨o,_,_,e',_⟩:=O'.ns;⟨o,e'⟩;show I.write (by rw[e];show FS) (.inr ho) (λb q hb z=>(sb.2 b hb).trans z) hd ⟨by rw[ag O.ne];show ho,?_,O.ne,O'.30,(ϡ _ O'.ns (λg=>?_) (λg hg=>?_))⟩
 ·have:=oQ f y fs;lk
 ·change OE ((QB f y fs).lookup g) (if g=f then some u else mA g)
  rw[ji]
  by_cases q:g=f
  ·rw[γ q,γ q];show ry
  ·rw[Φ q,Φ q];show r g
 ·by_cases q:g=f
  ·rw[q];show(nM f y fs).1
  ·show(nM f y fs).2 g (wi g λz=>hg ?_)
   rw[Φ q];show z
def Inv.made (I:Inv X pins σ H s):Inv X pins σ (upd (upd H s.5 (.own (s.5+1))) (s.5+1) (.ins C s.5 []))
  { s with heap:=(s.heap.push Mz).push (P7 C s.5) }:=by
 let e1:(s.heap.push Mz).get? s.5=!Mz:=ώ s.8 rfl;let e2:((s.heap.push Mz).push (P7 C s.5)).get? (s.5+1)=!P7 C s.5:=by
  have:=ώ (s.heap.push Mz) (o:=P7 C s.5) rfl
  rwa [bw] at this
 let e3:(s.heap.push Mz).Ns s.5 (λ_=>none):=(ϰ Mz (#[]) _ e1 rfl (λe he=>absurd he ∅) (λ_=>rfl))
 show (I.laid (o:=.own (s.5+1)) (t':=s.29) (λb u q=>Τ _ q) (δ _) ⟨_,e1⟩).laid (λb u q=>Τ _ q) (Uq (bw _ _)) ?_;let ne:s.5≠s.5+1:=Ϧ (MX _);show⟨by rw[ag ne,aa],Ϡ _,ne,e2,(ϡ (λ_=>none) ((Y4 e3).at λo q=>Τ _ q) (λ_=>FS) (λy hy=>absurd rfl hy))⟩
def AY (hb:attributeBase e f env (eval e env)=eval e env)
  (h:wpAny (model prog w) A (eval e env) (λo s₁=>wpAny (model prog w) A (getAttr o f true) Q E s₁) E s):wpAny (model prog w) A (eval (.Attribute e f pos) env) Q E s:=
 Attribute_any_ h (by rw[arm_eval_Attribute,hb])
end
abbrev agG (K:Ψ)(ta:TE)(f:Str):TE:=λσ H Q=>ta σ H λx H1=>onR x λa=>∃C dx fs,H1 a=!.ins C dx fs/\Wu K C/\i' K C f/\∃v,fs.lookup f=!v/\Q v H1
abbrev anM (K:Ψ)(ta tv:TE)(f:Str):TS:=λD σ H=>tv σ H λy H1=>ta σ H1 λx H2=>onR x λa=>∃C dx fs,H2 a=!.ins C dx fs/\Wu K C/\i' K C f/\fs.4 < 1000/\
 D.nx σ (upd H2 a (.ins C dx (QB f y fs)))
section
variable {X:Cx} {o:tz} {f:Str} {ta tv:TE}
def JD (he:PE X e ta)(hb:attributeBase e f X.9 (eval e X.9)=eval e X.9):PE X (.Attribute e f pos) (agG X.K ta f):=by
 intro pins s σ H Q I h;show AY hb (L8 (he pins s σ H _ I h) λu s1 x H1 I1 rx q0=>?_);(show ι (uZ q0) λa ex=>Yp λC dx fs ea c n=>ϭ λv l q=>?_);subst ex;obtain rfl:u=ϫ a:=rx;show yL I1 ea c n l λu' s2 I2 ru=>(ϕ v H1 I2 ru q)
def bu (ha:PE X o ta)(hv:PE X value tv)(hs:swapsWith value (!.Attribute o f pos') pos.53 X.9=pure false):PS X (.Assign [.Attribute o f pos'] value pos) (anM X.K ta tv f):=by
 intro pins s σ H D I h;show Wp (L8 (hv pins s σ H _ I h) λu s1 y H1 I1 ry q=>L8 (ha pins s1 σ H1 _ I1 q) λov s2 x H2 I2 rx q0=>?_) hs;(show ι (uZ q0) λa ex=>QS λC dx fs ea c n l q2=>?_);subst ex;obtain rfl:ov=ϫ a:=rx;show yM I2 ea c n l ry λs3 I3=>(cr σ _ I3 q2)
end
section
variable {X:Cx} {σ:St} {H:Hp} {s:η} {Q:Υ->η->Prop} {c:Υ} {b:Bool}
inductive Qb (K:Ψ) (H:Hp):V->Υ->Prop where
 | k4:Qb K H .k4 (.type "NoneType")
 | bl (x:Bool):Qb K H (.bl x) (.type "bool")
 | int (i:Int):Qb K H (.int i) (.type "int")
 | str (x:Str):Qb K H (.str x) (.type "str")
 | flt (x:UInt64):Qb K H (.flt x) (.type "float")
 | lst {a:Ι} {xs:-V} (e:H a=!.lst xs):Qb K H (.ref a) (.type "list")
 | Ve {a:Ι} {o:Obj} {xs:-V} (e:H a=!.Ve o (.lst xs)):Qb K H (.ref a) (.type "list")
 | tup {a:Ι} {xs:-V} (e:H a=!.tup xs):Qb K H (.ref a) (.type "tuple")
 | dK {a:Ι} {ϓ:-(Key×V)} (e:H a=!.dK ϓ):Qb K H (.ref a) (.type "dict")
 | dT {a:Ι} {ϓ:-(-Key×V)} (e:H a=!.dT ϓ):Qb K H (.ref a) (.type "dict")
 | ins {a C dx:Ι} {fs:-(Str×V)} (e:H a=!.ins C dx fs) (cl:Wu K C) (ha:F2 K (.ref C) "__class__"=!some (.builtin "object.__class__"))
   (hn:W.specialIn K (.builtin "object.__class__") "__get__"=!some (.builtin "getset_descriptor.__get__")) (XA:W.takesIn K (.builtin "object.__class__")=!true)
   (hm:alL K C (.type "object")=!true):Qb K H (.ref a) (.ref C)
def tN {x:V}{t:Υ}(I:Inv X pins σ H s)(rx:RelV x u)(ty:Qb X.K H x t)(e:abP X.K t c=!b)(h:∀tk,Q (.bool b) { s with toks:=tk }) :
  wpAny X.mo A (call (.builtin "isinstance") [u,c]) Q E s:=by
 cases ty with
 | k4=>cases (rx);show NN W.kitx_none I.QV FS e (λz=>nomatch z) h
 | bl y=>cases (rx);show NN W.kitx_bool I.QV FS e (λz=>nomatch z) h
 | int i=>obtain⟨t,q⟩:=(rx);cases q;show NN W.kitx_int I.QV FS e (λz=>nomatch z) h
 | str y=>obtain⟨t,q⟩:=(rx);cases q;show NN W.kitx_str I.QV FS e (λz=>nomatch z) h
 | flt y=>obtain⟨t,q⟩:=(rx);cases q;show NN W.kitx_float I.QV FS e (λz=>nomatch z) h
 | @lst a xs ea=>
  cases (rx);(show PV (I.lu a _ ea) λ_=>v0 λ_ n _ h1=>?_);show NN am2 I.QV (Λ _ h1 rfl) e (λz=>nomatch z) h
 | @Ve a ob xs ea=>
  cases (rx);(show sw (I.lu a _ ea) λ_ _=>v0 λ_ n _ h1=>?_);show NN am2 I.QV (Λ _ h1 rfl) e (λz=>nomatch z) h
 | @tup a xs ea=>
  cases (rx);(show PV (I.lu a _ ea) λ_=>ϭ λ_ _ p=>?_);(revert p;show Nq λo h1 h2 _=>?_);show NN W.kitx_tuple I.QV (Λ o h1 h2) e (λz=>nomatch z) h
 | @dK a ϓ ea=>
  cases (rx);(show sw (I.lu a _ ea) λ_ _=>ϭ λvs _ p=>?_);(revert p;show Rx λo es ep h1 h2 _=>?_);show NN am3 I.QV (Λ o h1 h2.1) e (λz=>nomatch z) h
 | @dT a ϓ ea=>
  cases (rx);(show sw (I.lu a _ ea) λ_ _=>ϭ λxs _=>Rx λo es ep h1 h2 _=>?_);show NN am3 I.QV (Λ o h1 h2.1) e (λz=>nomatch z) h
 | @ins a C dx fs ea cl ha hn XA hm=>
  cases (rx);(show ι (qg I.lu ea) λmA O _=>?_);(show ι O.look λod J _=>?_);show NN (W.kitx_own (cl.get _) cl.hd ha hn XA hm) I.QV J e (λz=>nomatch z) h
end
structure MW (k:Nat)(A:QH):Prop where
 hd:A.48=none
 dp:A.78+3 * k+5 < recursionLimit
 un:A.23+16 * k+200 < cLine
def MW.mono (r:MW k A)(h:j<=k):MW j A:=⟨r.hd,by have:=r.dp;lk,by have:=r.un;lk⟩
def MW.deeper (r:MW (k+1) A)(env:Env):MW k (A.deeper env):=
 ⟨r.hd,by have:=r.dp;change A.78+1+3 * k+5 < _;lk,by have:=r.un;change A.23+3+16 * k+200 < _;lk⟩
def yN :(A.under (.builtin "type.__call__" ⟨.ref C::us,kw⟩)).78=A.78+1:=by
 first | rfl | simp[Code.weight]
def yO :(A.under (.builtin "type.__call__" ⟨.ref C::us,kw⟩)).23=A.23+1:=by
 first | rfl | simp[Code.cUnits]
def MW.make (r:MW (k+1) A)(C:Ι)(us:-Υ)(kw:-(Str×Υ)):MW k (A.under (.builtin "type.__call__" ⟨.ref C::us,kw⟩)):=
 ⟨r.hd,by have:=r.dp;rw[yN];lk,by have:=r.un;rw[yO];lk⟩
def MW.depth (r:MW k A):A.78 < recursionLimit:=by have:=r.dp;lk
def MW.units (r:MW k A):A.23+64 < cLine:=by have:=r.un;lk
abbrev acy:TA:=λ_ H Q=>Q [] H
abbrev aao (ta:TE)(tr:TA):TA:=λσ H Q=>ta σ H λx H1=>tr σ H1 λxs H2=>Q (x::xs) H2
section
variable {X:Cx} {te:TE} {t:TA} 
def cX:PA X [] acy:=λ_ _ _ _ H Q I h=>pr (ϕ ([]) H I (.nil) h)
theorem StE (X:Cx)(e:tz)(es:-tz):Prop:=starEach (e::es) X.9=(false,eval e X.9)::starEach es X.9
def aj (ha:PE X e te)(hr:PA X es t)(hs: ~~~(StE X e es)):PA X (e::es) (aao te t):=by
 intro pos pins s σ H Q I h;rw[hs];show Ϻ (L8 (ha pins s σ H _ I h) λu s1 x H1 I1 r1 q1=>UR (hr pos pins s1 σ H1 _ I1 q1) λus s2 xs H2 I2 r2 q2=>(ϕ (x::xs) H2 I2 (.cons r1 r2) q2))
abbrev anN (t:TA):TE:=λσ H Q=>t σ H λxs H1=>xs.4<=sizeLine/\∀p,H1 p=none->Q (.ref p) (upd H1 p (.tup xs))
abbrev anO (t:TA):TE:=λσ H Q=>t σ H λxs H1=>xs.4<=sizeLine/\∀p,H1 p=none->Q (.ref p) (upd H1 p (.lst xs))
def bf {x1}(h:PA X es t):PE X (.Tuple es x1 pos) (anN t):=by
 intro pins s σ H Q I hq;show wpAny_Tuple_spliced (No (h pos pins s σ H _ I hq) λus s1 zz=>RA zz λxs H1 I1 r z q=>⟨by rw[<-r.4];show z,?_⟩);show(ϕ (.ref s1.5) (upd H1 s1.5 (.tup xs)) (I1.laid (λb u e=>Τ _ e) (δ _) ?_) rfl (q _ (I1.lu.fresh (δ _))));show⟨z,(Λ us r (ϡ _ (ώ _ rfl) rfl (N' _ rfl)))⟩
def aU (h:PA X es t):PE X (.List es pos) (anO t):=by
 intro pins s σ H Q I hq;show wpAny_List_spliced (No (h pos pins s σ H _ I hq) λus s1 zz=>RA zz λxs H1 I1 r z q=>⟨by rw[<-r.4];show z,?_⟩);show(ϕ (.ref s1.5) (upd H1 s1.5 (.lst xs)) (I1.laid (λb u e=>Τ _ e) (δ _) ?_) rfl (q _ (I1.lu.fresh (δ _))));show⟨z,(cr us 0 r (ώ _ rfl))⟩
end
noncomputable abbrev Sp:=-V->Hp->VK->XK->Prop
noncomputable abbrev CXT:=-Env->Hp->η->XK->Υ->η->Prop
structure Zl (P:ϯ)(w:J')(K:Ψ)(mg:Str->Option Υ)(base:be)(A:QH)(outer:-Env)(s:η)(H:Hp):Prop where
 frames:A.32=!outer
 mod:Mod K mg base
 bs:∀b o,base.get? b=!o->s.heap.get? b=!o/\H b=none
 bsz:base.7<=s.5
 Ss:s.heap.FunFrames base outer
 frf:∀b∈TC outer,H b=none
 lu:Rt P w H s.8
 bare:Q7 s.80
abbrev CE (outer:-Env)(P:ϯ)(w:J')(H:Hp)(s:η)(Q:VK)(u:Υ)(s':η):Prop:=
 ∃v H',s'.os=s.os/\Q7 s'.80/\Un (TC outer) [] H H' s.8 s'.8/\Rt P w H' s'.8/\RelV v u/\Q v H'
abbrev CR (CX:CXT)(outer:-Env)(P:ϯ)(w:J')(H:Hp)(s:η)(Q:VK)(E:XK)(r:abQ)(s':η):Prop:=
 match r with
 | .ok (.ret u)=>CE outer P w H s Q u s'
 | .ok _=>False
 | .error e=>CX outer H s E e s'
structure OZ (P:ϯ)(w:J')(K:Ψ)(mg:Str->Option Υ)(base:be)(CX:CXT)(k:Nat)(f:Ι)(fd:Mx)(ps:-Str)(sp:Sp):Prop where
 len:∀vs H Q E,sp vs H Q E->vs.4=ps.4
 run:∀(A:QH) (outer:-Env) (s:η) (H:Hp) (args:Args) (us:-Υ) (vs:-V) (Q:VK) (E:XK),MW k A->Zl P w K mg base A outer s H->Yj s fd args (ps.zip us)->Vals vs us->sp vs H Q E->
  codeAny (model P w) A (.call (.ref f) args) (CR CX outer P w H s Q E) s
def Zl.make {K:Ψ}(e:Zl P w K mg base A outer s H)(C:Ι)(us:-Υ)(kw:-(Str×Υ)) :
  Zl P w K mg base (A.under (.builtin "type.__call__" ⟨.ref C::us,kw⟩)) outer s H:=⟨by first | show e.32 | (simpa [ax1,Code.envs,Code.isFrame,pushEnvs] using e.32),e.mod,e.bs,e.bsz,e.Ss,e.frf,e.lu,e.46⟩
section
variable {X:Cx} {σ:St} {H:Hp} {s:η}
def Inv.aeq (I:Inv X pins σ H s):Zl X.24 X.w X.K X.mg X.50 X.A X.20 s H:=
 ⟨I.ok.32,I.95,I.bs,ο I.97 I.sz,I.20,I.Xw,I.lu,I.46⟩
def Inv.after (I:Inv X pins σ H s)(h:CE X.20 X.24 X.w H s Q u s'):EP X pins σ Q u s':=by
 (revert h;show Qz λv H' os bare un lu=>Nl λr q=>?_);obtain⟨hh,g,d,t,os'⟩:=s';obtain rfl:os'=s.os:=os;show(ϕ v H' (I.call un lu bare (λb z=>absurd z ∅)) r q)
end
abbrev afF (sp:Sp)(RQ:-V)(E:XK)(t:TA):TE:=λσ H Q=>t σ H λvs H1=>sp (vs++RQ) H1 Q E
abbrev acz (C:Ι)(m:Str)(sp:Sp)(RQ:-V)(E:XK)(ta:TE)(t:TA):TE:=λσ H Q=>ta σ H λx H1=>onR x λa=>∃dx fs,H1 a=!.ins C dx fs/\fs.lookup m=none/\
 t σ H1 λvs H2=>sp (x::(vs++RQ)) H2 Q E
abbrev afG (C:Ι)(sp:Sp)(RQ:-V)(E:XK)(t:TA):TE:=λσ H Q=>t σ H λvs H1=>∀x dx,H1 x=none->H1 dx=none->dx≠x->
 sp (.ref x::(vs++RQ)) (upd (upd H1 dx (.own x)) x (.ins C dx [])) (λv H2=>v=.k4/\Q (.ref x) H2) E
abbrev Binds (K:Ψ)(fd:Mx)(ps:-Str)(ds:-Υ):Prop:=
 ∀s us,K.In s.8->(us++ds).4=ps.4->Yj s fd ⟨us,[]⟩ (ps.zip (us++ds))
def Binds.all {K:Ψ}(h:∀us:-Υ,us.4=ps.4->bindArgs fd ⟨us,[]⟩=pure (ps.zip us)):Binds K fd ps []:=λs us _ hl=>by
 rw[Ix] at hl ⊢;show .of_eq (h us hl)
abbrev Passes (CX:CXT)(X:Cx)(E:XK):Prop:=∀pins σ H s e s',Inv X pins σ H s->CX X.20 H s E e s'->X.xe e s'
section
variable {X:Cx} {CX:CXT} {k:Nat} {ps:-Str} {sp:Sp} {RQ:-V} {E:XK} {m:Str} {o:tz} {ta:TE} {t:TA}
noncomputable abbrev Cx.Fo (X:Cx):=OZ X.24 X.w X.K X.mg X.50
def u7 {vs:-V}(F:X.Fo CX k f fd ps sp)(hr:MW k X.A)(hb:Binds X.K fd ps ds)(hd:Vals RQ ds)(hx:Passes CX X E)
  (I:Inv X pins σ H s) (r:Vals vs us) (h:sp (vs++RQ) H Q E):wpAny X.mo X.A (call (.ref f) us) (EP X pins σ Q) X.xe s:=by
 let r2:=r.append hd;let hl:(us++ds).4=ps.4:=by rw[<-r2.4];show F.len _ _ _ _ h
 show Pg (MQ (F.run X.A X.20 s H ⟨us,[]⟩ (us++ds) (vs++RQ) Q E hr I.aeq (hb s us I.QV hl) r2 h) λr s' hq=>?_);cases r with
 | error e=>show hx pins σ H s e s' I hq
 | ok fl=>
  cases fl with
  | ret u=>show I.after hq
  | next=>show Ϸ hq
  | brk=>show Ϸ hq
  | cont=>show Ϸ hq
theorem BkA (X:Cx)(pos:Pos)(es:-tz):Prop:=(backTo pos (starEach es X.9)).any (·.1)=false
def Hc (F:X.Fo CX k f fd ps sp)(hr:MW k X.A)(hg:Gl X x)(hm:X.mg x=!.ref f)(hk:NI X.K (.ref f)=true)(hb:Binds X.K fd ps ds)(hd:Vals RQ ds)(hx:Passes CX X E)
  (ha:PA X (e::es) t) (Zm:autoParam (Ws x) L2.M9._auto_1) (he: ~~~(StE X e es)) (Pm: ~~~(BkA X pos es)) :
  PE X (.Call (.Name x p) (e::es) [] pos) (afF sp RQ E t):=by
 intro pins s σ H Q I h;show mD (ke I hg hm (PY I.54 hk (UR (ha pos pins s σ H _ I h) λus s1 vs H1 I1 r q=>⟨I1.QV,?_⟩) he Pm) Zm);show u7 F hr hb hd hx I1 r q
def iA (he:PE X o ta)(c:Wu X.K C)(hm:Xz X.K C m f)(F:X.Fo CX k f fd ps sp)(hr:MW k X.A)(hb:Binds X.K fd ps ds)(hd:Vals RQ ds)(hx:Passes CX X E)(ha:PA X (e::es) t)
  (MZ: ~~~(StE X e es)) (Pm: ~~~(BkA X pos es))
  (ht:autoParam (eval (.Call (.Attribute o m apos) (e::es) [] pos) X.9=(do
   let ov <-eval o X.9
   standAt apos.99
   let (f,first) <-holding [ov] (getMethod ov m pl)
   callWith pos f first (backTo pos (starEach (e::es) X.9)) (backToKw pos (keywordEach [] X.9)))) L2.ϩ._auto_1) :
  PE X (.Call (.Attribute o m apos) (e::es) [] pos) (acz C m sp RQ E ta t):=by
 intro pins s σ H Q I h;show WX (L8 (he pins s σ H _ I h) λu s1 x H1 I1 rx q0=>?_) ht;(show ι (uZ q0) λa ex=>MM λdx fs ea l q=>?_);subst ex;obtain rfl:u=ϫ a:=rx;show k8 I1 ea c hm l (PY I.54 hm.kp (UR (ha pos pins s1 σ H1 _ I1 q) λus s2 vs H2 I2 r q2=>⟨I2.QV,?_⟩) MZ Pm);show u7 (vs:=.ref a::vs) F hr hb hd hx I2 (.cons rfl r) q2
def jj (he:PE X o ta)(c:Wu X.K C)(hm:Xz X.K C m f)(F:X.Fo CX k f fd ps sp)(hr:MW k X.A)(hb:Binds X.K fd ps ds)(hd:Vals RQ ds)(hx:Passes CX X E)
  (ht:autoParam (eval (.Call (.Attribute o m apos) [] [] pos) X.9=(do
   let ov <-eval o X.9
   standAt apos.99
   let (f,first) <-holding [ov] (getMethod ov m pl)
   callWith pos f first (backTo pos (starEach [] X.9)) (backToKw pos (keywordEach [] X.9)))) L2.ϩ._auto_1) :
  PE X (.Call (.Attribute o m apos) [] [] pos) (acz C m sp RQ E ta acy):=by
 intro pins s σ H Q I h;show WX (L8 (he pins s σ H _ I h) λu s1 x H1 I1 rx q0=>?_) ht;(show ι (uZ q0) λa ex=>MM λdx fs ea l q=>?_);subst ex;obtain rfl:u=ϫ a:=rx;show k8 I1 ea c hm l (aiX I1.QV hm.kp (u7 (vs:=[.ref a]) F hr hb hd hx I1 (.cons rfl .nil) q))
structure Mk (K:Ψ)(C f:Ι):Prop where
 makes:as3 K C=true
 init:F2 K (.ref C) "__init__"=!some (.ref f)
 fn:Wh K (.ref f)=true
 kp:NI K (.ref C)=true
def wC {vs:-V}(M:Mk X.K C f)(F:X.Fo CX k f fd ps sp)(hr:MW (k+1) X.A)(hb:Binds X.K fd ps ds)(hd:Vals RQ ds)
  (hx:Passes CX X E) (I:Inv X pins σ H s) (r:Vals vs us)
  (h:∀x dx,H x=none->H dx=none->dx≠x->sp (.ref x::(vs++RQ)) (upd (upd H dx (.own x)) x (.ins C dx [])) (λv H2=>v=.k4/\Q (.ref x) H2) E) :
  wpAny X.mo X.A (call (.ref C) us) (EP X pins σ Q) X.xe s:=by
 let hq:=h (s.5+1) s.5 (I.lu.fresh (Pc _)) (I.lu.fresh (δ _)) (Ϧ (MX _));let I2:=Inv.made (C:=C) I;let r2:Vals (V.ref (s.5+1)::(vs++RQ)) (ϫ (s.5+1)::(us++ds)):=.cons rfl (r.append hd);let hl:(ϫ (s.5+1)::us++ds).4=ps.4:=by
  let e:=r2.4;rw[F.len _ _ _ _ hq] at e;show e.17
 show Pg (E3 I.QV M.makes M.init (UH.mp M.fn) (MQ (F.run _ X.20 _ _ ⟨ϫ (s.5+1)::us,[]⟩ (ϫ (s.5+1)::(us++ds)) _ _ E (hr.make C us [])
  (I2.aeq.make C us []) (hb _ (ϫ (s.5+1)::us) I2.QV hl) r2 hq) λr s' hq'=>?_))
 cases r with
 | error e=>show hx pins σ _ _ e s' I2 hq'
 | ok fl=>
  cases fl with
  | ret u=>
   (show RA (I2.after hq') λv H' I3 rv ev q3=>?_);subst ev;show⟨rv,(ϕ (V.ref (s.5+1)) H' I3 rfl q3)⟩
  | next=>show Ϸ hq'
  | brk=>show Ϸ hq'
  | cont=>show Ϸ hq'
def qh (M:Mk X.K C f)(F:X.Fo CX k f fd ps sp)(hr:MW (k+1) X.A)(hg:Gl X x)(hm:X.mg x=!.ref C)(hb:Binds X.K fd ps ds)(hd:Vals RQ ds)(hx:Passes CX X E)
  (ha:PA X (e::es) t) (Zm:autoParam (Ws x) L2.M9._auto_1) (he: ~~~(StE X e es)) (Pm: ~~~(BkA X pos es)) :
  PE X (.Call (.Name x p) (e::es) [] pos) (afG C sp RQ E t):=by
 intro pins s σ H Q I h;show mD (ke I hg hm (PY I.54 M.kp (UR (ha pos pins s σ H _ I h) λus s1 vs H1 I1 r q=>⟨I1.QV,?_⟩) he Pm) Zm);show wC M F hr hb hd hx I1 r q
def jk (M:Mk X.K C f)(F:X.Fo CX k f fd ps sp)(hr:MW (k+1) X.A)(hg:Gl X x)(hm:X.mg x=!.ref C)(hb:Binds X.K fd ps ds)(hd:Vals RQ ds)(hx:Passes CX X E)
  (Zm:autoParam (Ws x) L2.M9._auto_1):PE X (.Call (.Name x p) [] [] pos) (afG C sp RQ E acy):=by
 intro pins s σ H Q I h;show mD (ke I hg hm (aiX I.QV M.kp (wC M F hr hb hd hx I .nil h)) Zm)
end
structure ζ (N P:-Str)(sc:QI):Prop where
 kind:sc.62=.function
 co:sc.isCoroutine=false
 gen:sc.isGenerator=false
 nd:N.14
 pre:N.take P.4=P
 par:∀x∈P,sc.names.lookup x=!.local\/sc.names.lookup x=!.cell
 agH:∀y∈sc.31,y.2≠.free
def tO {kindOf:Str->Option MJ}:∀{binds:-(Str×Υ)} {m:Str->Option Υ},(∀v,(x,v)∉binds)->bindL kindOf binds m x=m x
 | [],_,_=>rfl
 | (n,v)::r,m,h=>by
  unfold bindL;rw[tO λw hw=>h w (θ _ hw)]
  split
  ·have:x≠n:=by rintro rfl;show h v ϳ
   simp[this]
  ·rfl
def tP {kindOf:Str->Option MJ}:∀{binds:-(Str×Υ)} {m:Str->Option Υ},(∀v,(x,v)∉binds)->bindC kindOf binds m x=m x
 | [],_,_=>rfl
 | (n,v)::r,m,h=>by
  unfold bindC;rw[tP λw hw=>h w (θ _ hw)]
  split
  ·rfl
  ·have:x≠n:=by rintro rfl;show h v ϳ
   simp[this]
def tQ {kindOf:Str->Option MJ}{v:Υ}:∀{P:-Str} {vs:-Υ} {i:Nat} {m:Str->Option Υ},P.14->P[i]?=!x->vs[i]?=!v->kindOf x=!.local->
  bindL kindOf (P.zip vs) m x=!v
 | [],_,_,_,_,h,_,_=>by simp at h
 | _::_,[],_,_,_,_,h,_=>by simp at h
 | p::P,w::vs,0,m,nd,h1,h2,hk=>by
  simp at h1 h2;subst h1;subst h2;change bindL kindOf ((p,w)::P.zip vs) m p=_;unfold bindL;rw[tO λv hv=>(ϊ.mp nd).1 (Vn hv).1,γ hk];simp
 | p::P,w::vs,i+1,m,nd,h1,h2,hk=>by
  change bindL kindOf ((p,w)::P.zip vs) m x=_;unfold bindL;show tQ (i:=i) (ϊ.mp nd).2 (by simpa using h1) (by simpa using h2) hk
def tS {kindOf:Str->Option MJ}{v:Υ}:∀{P:-Str} {vs:-Υ} {i:Nat} {m:Str->Option Υ},P.14->P[i]?=!x->vs[i]?=!v->kindOf x≠!.local->
  bindC kindOf (P.zip vs) m x=!v
 | [],_,_,_,_,h,_,_=>by simp at h
 | _::_,[],_,_,_,_,h,_=>by simp at h
 | p::P,w::vs,0,m,nd,h1,h2,hk=>by
  simp at h1 h2;subst h1;subst h2;change bindC kindOf ((p,w)::P.zip vs) m p=_;unfold bindC;rw[tP λv hv=>(ϊ.mp nd).1 (Vn hv).1,Φ hk];simp
 | p::P,w::vs,i+1,m,nd,h1,h2,hk=>by
  change bindC kindOf ((p,w)::P.zip vs) m x=_;unfold bindC;show tS (i:=i) (ϊ.mp nd).2 (by simpa using h1) (by simpa using h2) hk
abbrev start (N:-Str)(vs:-V):St:=vs.map some++τ (N.4 - vs.4) none
abbrev Su (CX:CXT)(P:ϯ)(w:J')(K:Ψ)(mg:Str->Option Υ)(base:be)(N:-Str)(qual:Str)(scope:QI)(f:Ι)(cd:Υ)(A:QH)(outer:-Env)(s:η)(H:Hp)(E:XK):Cx where
 prog:=P
 w:=w
 K:=K
 mg:=mg
 base:=base
 A:=A.deeper (envOfC qual scope s.5 f cd)
 N:=N
 s₀:=s
 H₀:=H
 env:=envOfC qual scope s.5 f cd
 outer:=outer
 stack:=envOfC qual scope s.5 f cd::outer
 ex:=[]
 calm:=true
 fn:=λ_=>true
 pn:=[]
 xe:=λe s'=>wpAny (model P w) (A.deeper (envOfC qual scope s.5 f cd)) (leaving (envOfC qual scope s.5 f cd) e) (λ_ s''=>CX outer H s E e s'') (λe' s''=>CX outer H s E e' s'') s'
def wD (h:sc.names.lookup x=!.cell):∃c,(cellsFrom n sc.31 []).lookup x=!c:=by
 show db.mp (afr sc.31 n [] (.inl h))
def tU {K:Ψ}{E:XK}{us:-Υ}{vs:-V}
  (S:ζ N ps scope) (hd:A.48=none) (e0:Zl P w K mg base A outer s H) (hl:vs.4=ps.4) (r:Vals vs us)
  (x:InCallC s s.5 (bindL (envOfC qual scope s.5 f cd).kindOf (ps.zip us) λ_=>none) (cellsFrom (s.5+1) scope.31 []) (bindC (envOfC qual scope s.5 f cd).kindOf (ps.zip us) λ_=>none) s1) :
  Inv (Su CX P w K mg base N qual scope f cd A outer s H E) [] (start N vs) H s1:=by
 let Pm:ps.4<=N.4:=by have:=congrArg K' S.pre;rw[eF] at this;lk
 (show Rh x.done λh1 tk μ hk=>?_;subst μ);let noA:∀b:Ι,b∉(Su CX P w K mg base N qual scope f cd A outer s H E).ex:=λb z=>absurd (show b∈([]:-Ι) from z) ∅
 show⟨⟨e0.mod,S.kind,rfl,rfl,δ _,λy z c h1 h2=>?_,λy hy=>?_,λy c _ h=>?_,λ_=>hd,ax2 e0.32,.inr ⟨rfl,rfl⟩,λb z=>absurd z (noA b),e0.bs,e0.bsz,λb _ _=>noA b,λb z=>absurd z (noA b),e0.Ss,e0.frf⟩,
  rfl,e0.46,Un.kept hk,(Λ _ x.toInCall.ns (λi y v h1 h2 h3=>?_)),λy c h=>⟨_,x.cell y c h⟩,e0.lu.fresh (δ _),λy c h=>?_,λp hp=>absurd (show p∈([]:-(Ι×Obj)) from hp) ∅,e0.lu.kept hk,?_⟩
 ·show name_of_addr x.apart (PySem.mem_of_lookup h1) (PySem.mem_of_lookup h2)
 ·let hy:=hy
  rcases hy with hy | hy
  ·show wD hy
  ·show absurd rfl (S.agH _ (PySem.mem_of_lookup hy))
 ·show Y1 (x.above y c (PySem.mem_of_lookup h))
 ·let hi:i < vs.4:=by
   unfold start at h2
   by_cases hi:i < vs.4
   ·show hi
   ·rw[ϥ (by simpa using hi)] at h2
    rw[QN] at h2
    split at h2<;>cases h2
  let ha:vs[i]?=!v:=by
   unfold start at h2;rw[ϙ (by simpa using hi),Ρ] at h2;cases e:vs[i]? with
   | none=>rw[e] at h2;cases h2
   | some a=>rw[e] at h2;cases h2;rfl
  (show ι (r.get ha) λu hu rv=>?_);let hp:ps[i]?=!y:=by
   rw[<-S.pre,List.getElem?_take_of_lt ()];show h1
  let ndP:ps.14:=by rw[<-S.pre];show S.nd.sublist (List.take_sublist _ _)
  show(Λ u rv ?_);rcases S.par y (Δ hp) with k | k
  ·show .inl ⟨k,tQ ndP hp hu k⟩
  ·obtain⟨c,e⟩:=wD k
   show .inr ⟨.inl k,(Λ c e ?_)⟩;let q:=x.cell y c e;rw[tS ndP hp hu (by show scope.names.lookup y≠_;rw[k];decide)] at q;show q
 ·show e0.lu.fresh (Y1 (x.above y c (PySem.mem_of_lookup h)))
 ·unfold start
  change _=N.4;rw[Χ,Θ,jp];lk
def AZ {K:Ψ}{base:be}{k:Nat}{dV kV:Υ}
     (lk:K.lookup f=!⟨oc,od,.func (Nu name qual params body scope dV kV doc pm an Nd ct),W1⟩) (TD:Rp K Nd qual=true) (S:ζ N ps scope)
  (len:∀vs H Q E,sp vs H Q E->vs.4=ps.4)
  (RB:∀(A:QH) (outer:-Env) (s:η) (H:Hp) (vs:-V) (Q:VK) (E:XK),MW k (A.deeper (envOfC qual scope s.5 f Nd))->sp vs H Q E->
   ∃t,W2 (Su CX P w K mg base N qual scope f Nd A outer s H E) body t/\t { nx:=λ_ H'=>Q .k4 H',rt:=Q } (start N vs) H) :
  OZ P w K mg base CX (k+1) f (Nu name qual params body scope dV kV doc pm an Nd ct) ps sp:=by
 show⟨len,λA outer s H args us vs Q E hr e0 hb r PX=>?_⟩;let KX:=e0.mod.kin.keeps λb o e=>(e0.bs b o e).1;let ajD:∀y∈ps.zip us,scope.names.lookup y.1=!.local\/(scope.names.lookup y.1=!.cell/\((cellsFrom (s.5+1) scope.31 []).lookup y.1).12=true):=λ⟨n,v⟩ hy=>by
  rcases S.par n (Vn hy).1 with q | q
  ·show .inl q
  ·show .inr ⟨q,afr _ _ _ (.inl q)⟩
 show codeAny_call_function hr.78 (KX _ _ lk) rfl S.co S.gen rfl (alM KX TD) (hb _ _ _ _ (wpAny_newFunctionEnv_cells S.kind ajD λenv he s1 x=>?_));subst he;show⟨(e0.mod.nolimit.keeps λb o e=>(e0.bs b o e).1).keeps x.toInCall.keep,codeAny_func ?_⟩;(show ι (RB A outer s H vs Q E (hr.deeper _) PX) λt ht hq=>?_);let I:Inv (Su CX P w K mg base N qual scope f Nd A outer s H E) [] (start N vs) H s1:=tU S hr.hd e0 (len _ _ _ _ PX) r x;show lw (ht [] s1 (start N vs) H _ I hq) (λfl s' hs=>?_) λe s' hs=>hs;let fin:∀{σ':St} {H':Hp} {v:V} {u:Υ},Inv (Su CX P w K mg base N qual scope f Nd A outer s H E) [] σ' H' s'->RelV v u->Q v H'->CE outer P w H s Q u s':=
  λ{σ' H' v u} J rv q=>(Yr v H' J.os J.46 J.50 J.lu rv q)
 cases fl with
 | ret u=>
  (revert hs;show Rx λv σ' H' J rv q=>?_);show fin J rv q
 | next=>
  (revert hs;show v0 λσ' H' J q=>?_);show fin (v:=V.k4) J rfl q
 | brk=>
  (revert hs;show v0 λ_ _ _ q=>?_);show Ϸ q
 | cont=>
  (revert hs;show v0 λ_ _ _ q=>?_);show Ϸ q
section
variable {X:Cx} {t:TA} {id:String} {r:-V->Hp->VK->Prop}
abbrev tCB (r:-V->Hp->VK->Prop)(t:TA):TE:=λσ H Q=>t σ H λvs H1=>r vs H1 Q
def aF (hc:MF X (.builtin id) r)(hg:Gl X x)(hm:X.mg x=none)(hv:bootBuiltins x=!.builtin id)(ha:PA X (e::es) t)(hn:autoParam (x ≠ "__name__") L2.M9._auto_1)(Zm:autoParam (Ws x) L2.M9._auto_1)
  (he: ~~~(StE X e es)) (Pm: ~~~(BkA X pos es)):PE X (.Call (.Name x p) (e::es) [] pos) (tCB r t):=by
 intro pins s σ H Q I h;show mD (eY I hg hm hv (RW (UR (ha pos pins s σ H _ I h) λus s1 vs H1 I1 r1 q1=>hc pins s1 σ H1 vs us Q I1 r1 q1) he Pm) hn Zm)
def bI (hc:MF X (.type T) r)(hg:Gl X x)(hm:X.mg x=none)(hv:bootBuiltins x=!.type T)(ha:PA X (e::es) t)(hn:autoParam (x ≠ "__name__") L2.M9._auto_1)(Zm:autoParam (Ws x) L2.M9._auto_1)
  (he: ~~~(StE X e es)) (Pm: ~~~(BkA X pos es)):PE X (.Call (.Name x p) (e::es) [] pos) (tCB r t):=by
 intro pins s σ H Q I h;show mD (eY I hg hm hv (bn (UR (ha pos pins s σ H _ I h) λus s1 vs H1 I1 r1 q1=>hc pins s1 σ H1 vs us Q I1 r1 q1) he Pm) hn Zm)
end
end
variable {Q:VK}{te ta to tv td:TE}{tb tR:TS}{σ:St}{H H1 H2 H':Hp}{xs ys RQ:-V}{y:V}{CX:CXT}{sp:Sp}{ϓ:-(Key×V)}{tt:TT}{J:It}{rows:-(-V)}{U:V->Hp->Prop}
namespace HT
open PySem PyProof.Rows
section
variable {s:η}
abbrev SZ (n d:Nat):Option Int->Nat
 | none=>d
 | some v=>if v < 0 then(v+(n:Int)).6 else min v.6 n
def E4 (n d:Nat):SZ n d none=d:=rfl
def A3 (n d k:Nat):SZ n d (!(k:Int))=min k n:=by
 show(if k < 0 then(k+(n:Int)).6 else min (k:Int).toNat n)=min k n;rw[Φ (),Ϝ]
def E5 (n d:Nat)(hd:d<=n)(o:Option Int):SZ n d o<=n:=by
 cases o with
 | none=>show hd
 | some v=>
  show(if v < 0 then(v+(n:Int)).6 else min v.6 n)<=n
  by_cases hv:v < 0
  ·rw[γ hv];lk
  ·rw[Φ hv];show Va _ _
end
end HT
section
open PySem PySem.Spec PyProof.Rows
noncomputable abbrev TO:=St->Hp->(Option Int->Hp->Prop)->Prop
abbrev PO (X:Cx)(e:Option tz)(t:TO):Prop:=
 ∀pins s σ H Q,Inv X pins σ H s->t σ H Q->
  wpAny X.mo X.A (evalPart e X.9) (λu s'=>∃o H',Inv X pins σ H' s'/\alN u o/\Q o H') X.xe s
abbrev aet:TO:=λ_ H Q=>Q none H
abbrev ajE (t:TE):TO:=λσ H Q=>t σ H λx H1=>∃i,x=.int i/\Q (!i) H1
def intsAre_of:∀{us:-Υ},Vals (ns.map V.int) us->Yk us ns:=by
 induction ns with
 | nil=>intro us r;cases r;show .nil
 | cons n ns ih=>
  intro us r;cases r with
  | cons r1 r2=>
   obtain⟨t,e⟩:=r1;subst e;show .cons n t (ih r2)
section
variable {X:Cx} {lo hi:Option tz} {tl th:TO} {p2:Pos}
def A4:PO X none aet:=by
 intro pins s σ H Q I h;show ύ (ϕ none H I (.none) h)
def qi (h:PE X e te):PO X (!e) (ajE te):=by
 intro pins s σ H Q I hw;show L8 (h pins s σ H _ I hw) λu s1 x H1 I1 r1 q1=>?_;(revert q1;show ϭ λi μ q=>?_;subst μ);obtain⟨t,rfl⟩:=r1;show(ϕ (!i) H1 I1 (.int i t) q)
abbrev SlR (X:Cx)(r:V->Option Int->Option Int->Hp->VK->Prop):Prop:=
 ∀pins s σ H x v vl vu lo hi sl Q,Inv X pins σ H s->RelV x v->s.heap.IsSliceOf sl vl vu .none->alN vl lo->alN vu hi->r x lo hi H Q->
  ∃T id,typeLookup (.type T) "__getitem__"=pure (!.builtin id)/\s.TypeIs v T/\wpAny X.mo X.A (getItem v (.ref sl)) (EP X pins σ Q) X.xe s
def SlR.or {r r':V->Option Int->Option Int->Hp->VK->Prop}(h:SlR X r)(h':SlR X r'):SlR X (λx lo hi H Q=>r x lo hi H Q\/r' x lo hi H Q):=by
 intro pins s σ H x v vl vu lo hi sl Q I rx hs pl pu q;rcases q with q | q
 ·show h pins s σ H x v vl vu lo hi sl Q I rx hs pl pu q
 ·show h' pins s σ H x v vl vu lo hi sl Q I rx hs pl pu q
abbrev tSl (r:V->Option Int->Option Int->Hp->VK->Prop)(te:TE)(tl th:TO):TE:=λσ H Q=>te σ H λx H1=>tl σ H1 λl H2=>th σ H2 λu H3=>r x l u H3 Q
def qC {r:V->Option Int->Option Int->Hp->VK->Prop}(hr:SlR X r)(he:PE X e te)(hl:PO X lo tl)(hu:PO X hi th):PE X (.Subscript e (.Slice lo hi none p2) pos) (tSl r te tl th):=by
 intro pins s σ H Q I h;show afs (L8 (he pins s σ H _ I h) λv s1 x H1 I1 r1 q1=>wpAny_Slice (No (hl pins s1 σ H1 _ I1 q1) λvl s2 zz=>Nm zz λl H2 I2 pl q2=>No (hu pins s2 σ H2 _ I2 q2) λvu s3 zz=>Nm zz λu H3 I3 pu q3=>?_));show ύ ?_;let I4:Inv X pins σ H3 { s3 with heap:=s3.heap.push { cls:=.type "slice",data:=.fields #[vl,vu,.none] } }:=I3.kept λb ob q=>Τ _ q;(show Nm (hr pins { s3 with heap:=s3.heap.push { cls:=.type "slice",data:=.fields #[vl,vu,.none] } } σ H3 x v vl vu l u s3.5 Q I4 r1 (agl ..) pl pu q3) λT id hT ht hg=>?_);show adH ht hT hg (by with_unfolding_all rfl)
abbrev S0 (xs:-V)(lo hi:Option Int):-V:=(xs.drop (HT.SZ xs.4 0 lo)).take (HT.SZ xs.4 xs.4 hi - HT.SZ xs.4 0 lo)
def wF (xs:-V)(lo hi:Option Int):(S0 xs lo hi).4<=xs.4:=by
 unfold S0;rw[eF,NF];show ο (Va _ _) (alO _ _)
end
abbrev ixN (n:Nat)(i:Int):Option Nat:=if 0<=i then(if i < n then some i.6 else none) else if -(((n:Int)))<=i then some (i+n).6 else none
abbrev Za (xs:-α)(i:Int):Option α:=(ixN xs.4 i).bind λj=>xs[j]?
def A5 {i:Int}(h:ixN n i=!j):seqIndex? i n=!j/\j < n/\-(((n:Int)))<=i/\i < n:=by
 unfold ixN at h
 by_cases h0:0<=i
 ·rw[γ h0] at h
  by_cases h1:i < n
  ·rw[γ h1] at h
   let e:=Ϭ h;show⟨by rw[adI h0 h1,e],(),(),h1⟩
  ·rw[Φ h1] at h;cases h
 ·rw[Φ h0] at h
  by_cases h1:-(((n:Int)))<=i
  ·rw[γ h1] at h
   let e:=Ϭ h;show⟨by rw[seqIndex_neg () h1,e],(),h1,()⟩
  ·rw[Φ h1] at h;cases h
def u9 {xs:-α}{i:Int}(h:Za xs i=!v):∃j,seqIndex? i xs.4=!j/\xs[j]?=!v/\j < xs.4/\-(((xs.4:Int)))<=i/\i < xs.4:=by
 unfold Za at h;cases e:ixN xs.4 i with
 | none=>rw[e] at h;cases h
 | some j=>
  rw[e] at h;(show acm (A5 e) λh1 h2 h3 h4=>?_);show(UM j h1 h h2 h3 h4)
def Hd {xs:-α}{v:α}(h:xs[j]?=!v):Za xs (j:Int)=!v:=by
 let hj:=(Α.mp h).1;let e:ixN xs.4 j=!j:=by
  unfold ixN;rw[γ (),γ ()];simp
 unfold Za;rw[e];show h
abbrev XB (b:tz):Prop:=∀o i,subscripted b false o i=operate [o,i] (getItem o i)
abbrev IxR (X:Cx)(r:R2):Prop:=
 ∀value slice pins s σ H x y v u Q,Inv X pins σ H s->RelV x v->RelV y u->r x y H Q->
  subscripted slice false v u=operate [v,u] (getItem v u)->wpAny X.mo X.A (subscriptTail value slice v u) (EP X pins σ Q) X.xe s
abbrev MtR (X:Cx)(id:String)(r:V->-V->Hp->VK->Prop):Prop:=
 ∀pins s σ H x xs v us Q,Inv X pins σ H s->RelV x v->Vals xs us->r x xs H Q->
  wpAny X.mo X.A (call (.builtin id) (v::us)) (EP X pins σ Q) X.xe s
section
variable {X:Cx} {a b:tz} {tb:TE} 
def IxR.or {r r':R2}(h:IxR X r)(h':IxR X r'):IxR X (λx y H Q=>r x y H Q\/r' x y H Q):=by
 intro value slice pins s σ H x y v u Q I rx ry q hs;rcases q with q | q
 ·show h value slice pins s σ H x y v u Q I rx ry q hs
 ·show h' value slice pins s σ H x y v u Q I rx ry q hs
def Ls {r:R2}(hr:IxR X r)(ha:PE X a ta)(hb:PE X b tb)(hs:XB b):PE X (.Subscript a b pos) (tOp r ta tb):=by
 intro pins s σ H Q I h;show afs (aen ha hb I h λv u s2 x y H2 I2 rx ry q=>hr a b pins s2 σ H2 x y v u Q I2 rx ry q (hs _ _))
abbrev agJ (K:Ψ):R2:=λx y H Q=>∃p xs i v,x=.ref p/\y=.int i/\G' K H p xs/\Za xs i=!v/\Q v H
abbrev agK (K:Ψ):R2:=λx y H Q=>∃p xs i v,x=.ref p/\y=.int i/\Of K H p xs/\Za xs i=!v/\Q v H
abbrev anQ:R2:=λx y H Q=>∃z i c,x=.str z/\y=.int i/\z.4<=sizeLine/\Za z.11 i=!c/\Q (.str ⟨#[c]⟩) H
def He:IxR X (agJ X.K):=by
 intro value slice pins s σ H x y v u Q I rx ry h hs;(revert h;show N9 λp xs i z μ=>QT λM0 hq he q=>?_;subst μ;subst M0);cases rx;obtain⟨t,rfl⟩:=ry;(show ϱ (I.list hq) λfT r pl hz=>?_);(show aaN (u9 he) λj h1 h2 h3 h4 h5=>?_);(show ι (r.get h2) λw ew US=>?_);let hl:=r.4;let hn:=T1;let fin:EP X pins σ Q w s:=(ϕ z H I US q)
 by_cases h0:0<=i
 ·let hj:i.6=j:=by
   rw[adI h0 h5] at h1;show Ϭ h1
  show item_listR pl.21 h0 () (by rw[hj];simpa using ew) fin hs
 ·let hj:(i+(fT.18:Int)).6=j:=by
   rw[seqIndex_neg () h4] at h1;rw[Ϙ,<-hl];show Ϭ h1
  show abR pl.isList.33 agm.lookup
   (wpAny_getItem_list_neg pl.21 () (by rw[Ϙ]<;>lk) () (by rw[hj];simpa using ew) ⟨rfl,fin⟩) hs
def JE:IxR X (agK X.K):=by
 intro value slice pins s σ H x y v u Q I rx ry h hs;(revert h;show N9 λp xs i z μ=>QT λM0 hq he q=>?_;subst μ;subst M0);cases rx;obtain⟨t,rfl⟩:=ry;(show ϱ (I.tuple hq) λfT r pl hz=>?_);(show aaN (u9 he) λj h1 h2 h3 h4 h5=>?_);(show ι (r.get h2) λw ew US=>?_);let hn:=T1;let fin:EP X pins σ Q w s:=(ϕ z H I US q)
 show abR pl.33 slot_tuple_getitem.lookup
  (getItem_tuple pl () () (by rw[Ϙ,<-r.4];show h1) (by simpa using ew) ⟨rfl,fin⟩) hs
def JF:IxR X anQ:=by
 intro value slice pins s σ H x y v u Q I rx ry h hs;(revert h;show QS λz i c μ M0 hz he q=>?_;subst μ;subst M0);obtain⟨t,rfl⟩:=rx;obtain⟨t',rfl⟩:=ry;(show aaN (u9 he) λj h1 h2 h3 h4 h5=>?_);let hl:z.cps.toList.4=z.4:=by simp[alP]
 rw[hl] at h1 h4 h5;let hn:=T1
 show adH (Y5 s z t) slot_str_getitem.lookup (getItem_str (by
  let e1:decide (i < -(((2 ^ 63:Int))))=false:=Ϫ ();let e2:decide (i≥2 ^ 63)=false:=Ϫ ()
  rw[e1,e2,Bool.or_false]) (by rw[h1];simpa using h2) (ϕ (.str ⟨#[c]⟩) H (I.tok _) ⟨_,rfl⟩ q)) hs
def yP (fT:-Υ)(n j:Nat)(u:Υ):WY (·.setIfInBounds j u) { cls:=.type "list",data:=.seq fT.10 n }={ cls:=.type "list",data:=.seq (fT.set j u).toArray n }:=by
 simp[WY]
def Inv.lst {p:Ι}(I:Inv X pins σ H s)(h:H p=!.lst xs) :
  ∃fT n,Vals xs fT/\s.heap.get? p=some { cls:=.type "list",data:=.seq fT.10 n }/\xs.4<=sizeLine:=by
 (show PV (I.lu p _ h) λz=>v0 λfT n r e=>?_);show(ϕ fT n r e z)
def Inv.agL {p:Ι}{f:Obj->Obj}(I:Inv X pins σ H s)(h:H p=!.lst xs)
  (ho:s.heap.get? p=some { cls:=.type "list",data:=.seq fT.10 n }) (hf:f { cls:=.type "list",data:=.seq fT.10 n }={ cls:=.type "list",data:=.seq TZ.10 n' }) (r:Vals ys TZ) (hz:ys.4<=sizeLine) (t:Nat) :
  Inv X pins σ (upd H p (.lst ys)) { s with heap:=s.heap.update p f,toks:=t }:=by
 let e:(s.heap.update p f).get? p=some { cls:=.type "list",data:=.seq TZ.10 n' }:=by
  rw[Nk f ho (by rw[hf]<;>rfl),hf]
 show I.write (by rw[h];trivial) (.inl rfl) (λb u hb q=>(KF _ _ (ψ hb)).trans q) ⟨_,e⟩ ?_;show⟨hz,(cr TZ n' r e)⟩
abbrev afH:V->V->V->Hp->(Hp->Prop)->Prop:=λo i v H Q=>∃p xs k j,o=.ref p/\i=.int k/\H p=!.lst xs/\ixN xs.4 k=!j/\Q (upd H p (.lst (xs.set j v)))
def set_list:agD X afH:=by
 intro pins s σ H o i v ov iv u Q I ro ri rv h;(revert h;show N9 λp xs k j μ=>QT λM0 hp hj q=>?_;subst μ;subst M0);cases ro;obtain⟨t,rfl⟩:=ri;(show Nm (I.lst hp) λfT n r ho hz=>?_);(show acm (A5 hj) λh1 h2 h3 h4=>?_);let hl:=r.4;let hn:=T1;let I':=
  I.agL hp ho (yP fT n j u) (r.set rv j) (by rw[ϗ];show hz) s.29
 by_cases h0:0<=k
 ·let hk:k.6=j:=by
   rw[adI h0 h4] at h1;show Ϭ h1
  show W.ki_setAt ho h0 () (by rw[Ϙ,<-hl];show h4) (by rw[hk];show(Λ _ I' q))
 ·let hk:(k+(fT.18:Int)).6=j:=by
   rw[seqIndex_neg () h3] at h1;rw[Ϙ,<-hl];show Ϭ h1
  show W.ki_setBack ho () (by rw[Ϙ,<-hl];show h3) () (by rw[hk];show(Λ _ I' q))
def va (lo hi:Option Int)(n:Nat):(sliceBounds lo hi none n).1=((HT.SZ n 0 lo:Nat):Int)/\(sliceBounds lo hi none n).2.1=((HT.SZ n n hi:Nat):Int)/\(sliceBounds lo hi none n).2.2=1:=by
 let k:∀i,(sliceBounds (!i) none none n).1=((HT.SZ n 0 (!i):Nat):Int):=λi=>by
  simp only[sliceBounds,HT.SZ,ax3,show(1:Int) > 0 by decide,if_true]
  by_cases h:i < 0
  ·simp only[h,if_true];rw[Wi ()];show Int.toNat_eq_max _ ▸ Int.max_comm _ _
  ·simp only[h,if_false];obtain⟨k,rfl⟩:=Int.eq_ofNat_of_zero_le (Int.not_lt.mp h);rw[Ϝ];rcases Nat.le_total k n with z | z
   ·rw[Ph z,Wi (aif.2 z)];show adJ (TB _)
   ·rw[adK z,Int.min_eq_right (aif.2 z)];show adJ (TB _)
 show⟨?_,?_,rfl⟩
 ·cases lo with
  | none=>rfl
  | some i=>show k i
 ·cases hi with
  | none=>rfl
  | some i=>show k i
def sS (fT:-Υ)(lo hi:Option Int):slicePick fT.10 lo hi none=((fT.drop (HT.SZ fT.4 0 lo)).take (HT.SZ fT.4 fT.4 hi - HT.SZ fT.4 0 lo)).10:=by
 (show sw (va lo hi fT.18) λh1 h2 h3=>?_);unfold slicePick;rw[h1,h2,h3];simp only[alQ,pick_run]<;>rfl
abbrev ajF (K:Ψ):V->Option Int->Option Int->Hp->VK->Prop:=λx lo hi H Q=>∃a xs,x=.ref a/\G' K H a xs/\∀p,H p=none->Q (.ref p) (upd H p (.lst (S0 xs lo hi)))
def Hf:SlR X (ajF X.K):=by
 intro pins s σ H x v vl vu lo hi sl Q I rx hs pl pu h;(revert h;show MM λa xs μ hx q=>?_;subst μ);cases rx;(show ϱ (I.list hx) λfT r ht hz=>?_);let hlen:=r.4;show(ϕ ("list") _ agm.lookup ht.isList.33 (wpAny_getItem_list_slice ht.21 hs pl pu .none ∅ ?_ (by rw[Ϙ]<;>lk)));rw[sS,<-hlen];show(ϕ (.ref s.5) _ (I.laid (λb ob q=>Τ _ q) (δ _) ?_) rfl (q _ (I.lu.fresh (δ _))));show⟨ο (wF xs lo hi) hz,(cr _ 0 ((r.drop (HT.SZ xs.4 0 lo)).take (HT.SZ xs.4 xs.4 hi - HT.SZ xs.4 0 lo)) (ώ _ rfl))⟩
abbrev N1:V->Bool
 | .k4=>true
 | .bl _=>true
 | .int _=>true
 | .str _=>true
 | _=>false
abbrev eqV:V->V->Bool
 | .k4,.k4=>true
 | .bl a,.bl b=>a == b
 | .bl a,.int b=>(if a then 1 else 0) == b
 | .int a,.bl b=>a == (if b then 1 else 0)
 | .int a,.int b=>a == b
 | .str a,.str b=>a == b
 | _,_=>false
def JG {x:V}(ry:RelV y u)(rx:RelV x v)(fy:N1 y=true)(fx:N1 x=true):aig A s u v (eqV y x):=by
 cases y with
 | k4=>
  cases ry;cases x with
  | k4=>cases rx;show am4 _
  | bl b=>cases rx;show am5 b
  | int b=>obtain⟨t,rfl⟩:=rx;show am6 b t
  | str b=>obtain⟨t,rfl⟩:=rx;show am7 b t
  | _=>show absurd (fx) ρ
 | bl a=>
  cases ry;cases x with
  | k4=>cases rx;show am8 a
  | bl b=>cases rx;show am9 a b
  | int b=>obtain⟨t,rfl⟩:=rx;show am' a b t
  | str b=>obtain⟨t,rfl⟩:=rx;show ana a b t
  | _=>show absurd (fx) ρ
 | int a=>
  obtain⟨t',rfl⟩:=ry;cases x with
  | k4=>cases rx;show anb a t'
  | bl b=>cases rx;show anc a t' b
  | int b=>obtain⟨t,rfl⟩:=rx;show ane a t' b t
  | str b=>obtain⟨t,rfl⟩:=rx;show Xp a t' b t
  | _=>show absurd (fx) ρ
 | str a=>
  obtain⟨t',rfl⟩:=ry;cases x with
  | k4=>cases rx;show anf a t'
  | bl b=>cases rx;show ang a t' b
  | int b=>obtain⟨t,rfl⟩:=rx;show Xq a t' b t
  | str b=>obtain⟨t,rfl⟩:=rx;show anh a t' b t
  | _=>show absurd (fx) ρ
 | _=>show absurd (fy) ρ
abbrev Zn (x:V)(u:Υ):Bool:=match u with
 | .none=>eqV .k4 x
 | .bool b=>eqV (.bl b) x
 | .int i _=>eqV (.int i) x
 | .str z _=>eqV (.str z) x
 | _=>false
def E6 {x:V}(r:RelV y u)(f:N1 y=true):Zn x u=eqV y x:=by
 cases y with
 | k4=>cases r;rfl
 | bl b=>cases r;rfl
 | int i=>obtain⟨t,rfl⟩:=r;rfl
 | str z=>obtain⟨t,rfl⟩:=r;rfl
 | _=>show absurd (f) ρ
def mj {x:V}{xs:-V}{us:-Υ}(r:Vals xs us)(f:xs.all N1=true):us.any (Zn x)=xs.any λy=>eqV y x:=by
 induction r with
 | nil=>rfl
 | cons r t ih=>rw[Xr,io] at f;rw[NU,NU,E6 r f.1,ih f.2]
def jl {s:η}{x:V}{v:Υ}(rx:RelV x v)(fx:N1 x=true){xs:-V}{us:-Υ}(r:Vals xs us)(f:xs.all N1=true):∀u∈us,aig A s u v (Zn x u):=by
 induction r with
 | nil=>intro u hu;cases hu
 | cons r t ih=>
  intro u hu;rw[Xr,io] at f;rcases Κ.mp hu with rfl | hu
  ·rw[E6 r f.1];show JG r rx f.1 fx
  ·show ih f.2 u hu
abbrev inV (x:V)(xs:-V):Bool:=xs.any λy=>eqV y x
abbrev rIn (K:Ψ)(neg:Bool):R2:=λx y H Q=>∃p xs,y=.ref p/\(G' K H p xs\/Of K H p xs)/\N1 x=true/\xs.all N1=true/\Q (.bl (if neg then !((inV x xs)) else inV x xs)) H
def BR:M7 X (compareOp .In) (rIn X.K false):=by
 intro pins s σ H x y v u Q I rx ry h;(revert h;show Qz λp xs μ hq fx fs q=>?_;subst μ);cases ry;rcases hq with hq | hq
 ·(show ϱ (I.list hq) λfT r pl hz=>?_)
  show SeqAt.in_listAt (Zn x) pl.21 (λw hw=>jl rx fx r fs w (by simpa using hw)) (ϕ (.bl _) H I rfl ?_);rw[show fT.toArray.any (Zn x)=fT.any (Zn x) by simp,mj r fs];show q
 ·(show ϱ (I.tuple hq) λfT r pl hz=>?_)
  show SeqAt.in_tupleAt (Zn x) pl (λw hw=>jl rx fx r fs w (by simpa using hw)) (ϕ (.bl _) H I rfl ?_);rw[show fT.toArray.any (Zn x)=fT.any (Zn x) by simp,mj r fs];show q
def vc:M7 X (compareOp .NotIn) (rIn X.K true):=by
 intro pins s σ H x y v u Q I rx ry h;(revert h;show Qz λp xs μ hq fx fs q=>?_;subst μ);cases ry;rcases hq with hq | hq
 ·(show ϱ (I.list hq) λfT r pl hz=>?_)
  show SeqAt.notIn_listAt (Zn x) pl.21 (λw hw=>jl rx fx r fs w (by simpa using hw)) (ϕ (.bl _) H I rfl ?_);rw[show fT.toArray.any (Zn x)=fT.any (Zn x) by simp,mj r fs];show q
 ·(show ϱ (I.tuple hq) λfT r pl hz=>?_)
  show SeqAt.notIn_tupleAt (Zn x) pl (λw hw=>jl rx fx r fs w (by simpa using hw)) (ϕ (.bl _) H I rfl ?_);rw[show fT.toArray.any (Zn x)=fT.any (Zn x) by simp,mj r fs];show q
def vd:M7 X (compareOp .NotIn) (λx y H Q=>∃i j,x=.str i/\y=.str j/\Q (.bl (!(((!(((PM j i 0 j.4 1).49))))))) H):=by
 intro pins s σ H x y v u Q I rx ry h;(revert h;show MM λi j μ M0 q=>?_;subst μ;subst M0);obtain⟨t,rfl⟩:=rx;obtain⟨t',rfl⟩:=ry;show notIn_str (ϕ (.bl _) H I rfl q)
def ve:MF X (.builtin "len") (λxs H Q=>∃p ys,xs=[.ref p]/\(G' X.K H p ys\/Of X.K H p ys)/\Q (.int ys.4) H):=by
 intro pins s σ H xs us Q I r h;(revert h;show MM λp ys μ hq q=>?_;subst μ);(show ι (vals1 r) λu μ rx=>?_;subst μ);cases rx;let hn:=T1;rcases hq with hq | hq
 ·(show ϱ (I.list hq) λfT r' pl hz=>?_)
  let hlen:=r'.4;show Calls.call_len_list pl.21 (by simp only[Ϙ]<;>lk) (ϕ (.int ys.4) H (I.tok _) ⟨s.29+1,by rw[Ϙ,hlen]⟩ q)
 ·(show ϱ (I.tuple hq) λfT r' pl hz=>?_)
  let hlen:=r'.4;show len_tuple pl (by simp only[Ϙ]<;>lk) (ϕ (.int ys.4) H (I.tok _) ⟨s.29+1,by rw[Ϙ,hlen]⟩ q)
def vf:MF X (.builtin "len") (λxs H Q=>∃z,xs=[.str z]/\z.4<=sizeLine/\Q (.int z.4) H):=by
 intro pins s σ H xs us Q I r h;(revert h;show Nq λz μ hz q=>?_;subst μ);(show ι (vals1 r) λu μ=>Sq λt M0=>?_;subst μ;subst M0);let hn:=T1;show len_str () (ϕ (.int z.4) H (I.tok _) ⟨_,rfl⟩ q)
def MF.or {f:Υ}{r r':-V->Hp->VK->Prop}(h:MF X f r)(h':MF X f r'):MF X f (λxs H Q=>r xs H Q\/r' xs H Q):=by
 intro pins s σ H xs us Q I rs q;rcases q with q | q
 ·show h pins s σ H xs us Q I rs q
 ·show h' pins s σ H xs us Q I rs q
def vg:MF X (.type "list") (λxs H Q=>∃p ys,xs=[.ref p]/\(G' X.K H p ys\/Of X.K H p ys)/\∀l,H l=none->Q (.ref l) (upd H l (.lst ys))):=by
 intro pins s σ H xs us Q I r h;(revert h;show MM λp ys μ hq q=>?_;subst μ);(show ι (vals1 r) λu μ rx=>?_;subst μ);cases rx;let fin:∀fT,Vals ys fT->ys.4<=sizeLine->∀h' c',(∀b o',s.heap.get? b=!o'->h'.get? b=!o')->
   h'.get? s.5=some { cls:=.type "list",dict:=none,data:=.seq fT.10 c',slots:=#[] }->EP X pins σ Q (.ref s.5) { s with heap:=h' }:=λfT r' hz h' c' kp e=>
  (ϕ (.ref s.5) _ (I.laid kp (δ _) (show Na X.24 X.w _ h' _ (.lst ys) from⟨hz,(cr fT c' r' e)⟩)) rfl (q _ (I.lu.fresh (δ _))))
 rcases hq with hq | hq
 ·(show ϱ (I.list hq) λfT r' pl hz=>?_)
  let hlen:=r'.4;(show ϱ pl.21 λo ho hc=>Sq λn hd=>?_);show ani p (.inl rfl) ho hc hd (λh' c' kp e=>fin fT r' hz h' c' kp e) (by simp only[Ϙ]<;>lk)
 ·(show ϱ (I.tuple hq) λfT r' pl hz=>?_)
  let hlen:=r'.4;(revert pl;show Nq λo ho hc=>Sq λn hd=>?_);show ani p (.inr rfl) ho hc hd (λh' c' kp e=>fin fT r' hz h' c' kp e) (by simp only[Ϙ]<;>lk)
abbrev tyV (K:Ψ)(T:String)(x:V)(H:Hp):Prop:=match x with
 | .str _=>T="str"
 | .int _=>T="int"
 | .ref p=>(T="list" /\ ∃xs,G' K H p xs)\/(T="tuple" /\ ∃o,K.lookup p=!o/\o.92=.type "tuple" /\ o.51=none)\/
   (T="dict" /\ ((∃ϓ,H p=!.dK ϓ)\/∃ϓ,H p=!.dT ϓ))\/(T="set" /\ ∃S n,H p=!.set S n)
 | _=>False
def E7 {x:V}(I:Inv X pins σ H s)(r:RelV x v)(ty:tyV X.K T x H) :
  s.TypeIs v T/\∀a,v=.ref a->∃ob,s.heap.get? a=!ob/\ob.51=none:=by
 cases x with
 | str z=>
  obtain⟨t,rfl⟩:=r;cases (ty);show⟨Y5 s z t,λ_ e=>nomatch e⟩
 | int i=>
  obtain⟨t,rfl⟩:=r;cases (ty);show⟨aft s i t,λ_ e=>nomatch e⟩
 | ref p=>
  cases r;rcases ty with⟨rfl,xs,hq⟩ | ⟨rfl,o,hk,hc,hd⟩ | ⟨rfl,hk⟩ | ⟨rfl,S,n,hk⟩
  ·(show ϱ (I.list hq) λfT _ pl _=>?_)
   show⟨pl.isList.33,λa e=>?_⟩;cases e;(revert pl;show P9 λo n e c hd _=>?_);show(Λ o e hd)
  ·show⟨(Λ o (I.QV p o hk) hc),λa e=>?_⟩
   cases e;show(Λ o (I.QV _ o hk) hd)
  ·let z:∃o,s.heap.get? p=!o/\o.ExactDict:=by
    rcases hk with⟨ϓ,hk⟩ | ⟨ϓ,hk⟩
    ·(show sw (I.lu p _ hk) λ_ _=>ϭ λ_ _=>Rx λo _ _ e ex _=>?_)
     show(Λ o e ex)
    ·(show sw (I.lu p _ hk) λ_ _=>ϭ λ_ _=>Rx λo _ _ e ex _=>?_)
     show(Λ o e ex)
   (revert z;show ϭ λo e ex=>?_);show⟨(Λ o e ex.1),λa e2=>?_⟩;cases e2;show(Λ o e ex.2.1)
  ·(show aeg (I.lu p _ hk) λo _ _ _ e=>Nl λex _=>?_)
   show⟨(Λ o e ex.1),λa e2=>?_⟩;cases e2;show(Λ o e ex.2.1)
 | _=>show Ϸ ty
abbrev ajG (K:Ψ)(T:String)(r:V->-V->Hp->VK->Prop)(to:TE):TE:=λσ H Q=>to σ H λx H1=>tyV K T x H1/\r x [] H1 Q
abbrev tBM (K:Ψ)(T:String)(r:V->-V->Hp->VK->Prop)(to:TE)(t:TA):TE:=λσ H Q=>to σ H λx H1=>tyV K T x H1/\t σ H1 λxs H2=>r x xs H2 Q
variable {o:tz} {t:TA} {id:String} {r:V->-V->Hp->VK->Prop}
def JH (pa:Y6 T)(slot:Slot T name id)(hty:typeOf (.builtin id)=pure (.type "method_descriptor"))(hm:MtR X id r)(ho:PE X o to)
  (S6: ~~~(attributeBase o name X.9 (eval o X.9)=eval o X.9)) (S7: ~~~((apos.64 == MP.53)=true)):PE X (.Call (.Attribute o name apos) [] [] MP) (ajG X.K T r to):=by
 intro pins s σ H Q I h;show wpAny_Call_method0_late S6 S7 (No (ho pins s σ H _ I h) λv s1 zz=>RA zz λx H1 I1 r1 ty q1=>?_);obtain⟨h1,h2⟩:=E7 I1 r1 ty;show(Yr T id pa slot hty h1 h2 (xL rfl (PySem.evalArgs_none (hm pins s1 σ H1 x [] v [] Q I1 r1 .nil q1))))
def Lu (pa:Y6 T)(slot:Slot T name id)(hty:typeOf (.builtin id)=pure (.type "method_descriptor"))(hm:MtR X id r)(ho:PE X o to)(ha:PA X (e::es) t)
  (S6: ~~~(attributeBase o name X.9 (eval o X.9)=eval o X.9))
  (acB:autoParam (((backTo MP (starEach (e::es) X.9)).all (λx=>!((x.1))) && (backToKw MP (keywordEach [] X.9)).all (λx=>x.1.12)
   && decide ((e::es).4+([]:-Qo).4+(if ([]:-Qo).49 then 0 else 1) < 30))=true) L2.ϩ._auto_1)
  (S7: ~~~((apos.64 == MP.53)=true)) (hs: ~~~(StE X e es)) (Sv: ~~~((backTo MP (starEach es X.9)).any (·.1)=false)) :
  PE X (.Call (.Attribute o name apos) (e::es) [] MP) (tBM X.K T r to t):=by
 intro pins s σ H Q I h;show abS S6 acB S7 rfl (No (ho pins s σ H _ I h) λv s1 zz=>RA zz λx H1 I1 r1 ty q1=>?_);obtain⟨h1,h2⟩:=E7 I1 r1 ty;show(Yr T id pa slot hty h1 h2 ?_);let hA:=ha MP pins s1 σ H1 _ I1 q1;rw[hs] at hA ⊢;show xL (by show(false || (backTo MP (starEach es X.9)).any (·.1))=false;rw[Sv]<;>rfl) (MK (No hA λus s2 zz=>Nm zz λvs H2 I2 r2 q2=>hm pins s2 σ H2 x vs v us Q I2 r1 r2 q2))
end
abbrev MtM (X:Cx)(id:String)(r:V->-V->Hp->VK->Prop):Prop:=
 ∀pins s σ H x xs v us Q,Inv X pins σ H s->RelV x v->Vals xs us->r x xs H Q->
  wpAny X.mo X.A (call (.builtin id) (v::us)) (EP X pins σ Q) X.xe s
def Vals.one {x:V}{us:-Υ}(h:Vals [x] us):∃u,us=[u]/\RelV x u:=by
 cases h with | cons r t=>cases t;show(Λ _ rfl r)
def Vals.zero:∀{us:-Υ},Vals [] us->us=[]
 | _,.nil=>rfl
def Vals.rep {us:-Υ}(h:Vals xs us):∀k:Nat,Vals (τ k xs).flatten (τ k us).55
 | 0=>.nil
 | k+1=>by
  rw[NK,NK,Qq,Qq];show Vals.append h (Vals.rep h k)
def foldl_rep (fT:-Υ):∀(k:Nat) (acc:-Υ),
  aiY (λx1 x2=>x1++x2) acc.10 (τ k fT.10)=(acc++(τ k fT).55).10
 | 0,acc=>by simp
 | k+1,acc=>by
  let e:acc.10++fT.10=(acc++fT).10:=by simp
  let e2:(acc++fT)++(τ k fT).55=acc++(τ (k+1) fT).55:=by
   rw[NK,Qq,Oy]
  rw[<-e2,<-foldl_rep fT k (acc++fT),<-e,NK,Vo]
section
variable {X:Cx} {s:η} {l:Ι} {zs:-V}
def Inv.agO {f:Array Υ->Array Υ}(I:Inv X pins σ H s)(hH:H l=!.lst xs)
  (e:s.heap.get? l=some { cls:=.type "list",data:=.seq fT.10 n }) (hf:f fT.10=TZ.10) (hv:Vals ys TZ) (hz:ys.4<=sizeLine) :
  Inv X pins σ (upd H l (.lst ys)) { s with heap:=s.heap.update l (WY f),toks:=t' }:=by
 let q:=PySem.IsL.update e f;rw[hf] at q;show I.write (by rw[hH];show trivial) (.inl rfl) (λb' u hb hu=>(KF s.8 (WY f) (ψ hb)).trans hu) ⟨_,q⟩ ?_;show⟨hz,(cr TZ _ hv q)⟩
def Inv.agP (I:Inv X pins σ H s)(hv:Vals ys fT)(hz:ys.4<=sizeLine) :
  Inv X pins σ (upd H s.5 (.lst ys)) { s with heap:=s.heap.push { cls:=.type "list",data:=.seq fT.10 },toks:=t' }:=
 I.laid (λ_ _ q=>Τ _ q) (δ _) ⟨hz,(cr fT 0 hv (ώ _ rfl))⟩
def Inv.fresh (I:Inv X pins σ H s):H s.5=none:=I.lu.fresh (δ _)
def Inv.acC (I:Inv X pins σ H s)(hH:H l=!.lst xs):xs.4<=sizeLine/\∃fT n,Vals xs fT/\xs.4=fT.4/\s.heap.get? l=some { cls:=.type "list",data:=.seq fT.10 n }:=by
 (show PV (I.lu l _ hH) λz=>v0 λfT n r e=>?_);show⟨z,(ϕ fT n r r.4 e)⟩
def Yw (h:n<=sizeLine):Pd n=false:=by
 show Ϫ ()
end
section
variable {X:Cx}
abbrev aex:V->-V->Hp->VK->Prop:=λx vs H Q=>∃l xs y,x=.ref l/\vs=[y]/\H l=!.lst xs/\xs.4 < sizeLine/\Q .k4 (upd H l (.lst (xs++[y])))
def br:MtM X "list.append" aex:=by
 intro pins s σ H x vs v us Q I rx rv h;(revert h;show QS λl xs y μ M0 hH hz q=>?_;subst μ;subst M0);cases rx;(show ι rv.one λu μ ru=>?_;subst μ);(show PV (I.acC hH) λz=>MM λfT n r hl e=>?_);show Vb PySem.F.slot_list_append (Λ _ e rfl) PySem.F.entry_list_append (PySem.F.args_list_append_2 _ _) (PySem.list_append l fT.10 n u (by rw[Ϙ];lk)) ⟨e,?_⟩;show(ϕ (.k4) _ (I.agO hH e ∅ (r.append (.cons ru .nil)) ?_) rfl q);rw[Χ,EQ];lk
abbrev aey:V->-V->Hp->VK->Prop:=λx vs H Q=>∃l b xs zs,x=.ref l/\vs=[.ref b]/\H l=!.lst xs/\H b=!.lst zs/\xs.4+zs.4<=sizeLine/\Q .k4 (upd H l (.lst (xs++zs)))
def BS:MtM X "list.extend" aey:=by
 intro pins s σ H x vs v us Q I rx rv h;(revert h;show N9 λl b xs zs μ=>Qy λM0 hH hB hz q=>?_;subst μ;subst M0);cases rx;(show ι rv.one λu μ ru=>?_;subst μ);cases ru;(show PV (I.acC hH) λz=>MM λfT n r hl e=>?_);(show PV (I.acC hB) λz2=>MM λZo n2 r2 XC e2=>?_);let W5:fT.18+Zo.18<=sizeLine:=by rw[Ϙ,Ϙ];lk
 let acD:¬(!((fT.toArray.isEmpty)) && Pd (fT.18+Zo.18))=true:=by
  rw[Yw W5,ad9];show ρ
 show Vb PySem.F.slot_list_extend (Λ _ e rfl) PySem.F.entry_list_extend (PySem.F.args_list_extend_2 _ _)
  (as5 l fT.10 n b Zo.10 n2 acD (by rw[Ϙ];lk) ()) ⟨e,e2,?_⟩
 show(ϕ (.k4) _ (I.agO hH e ∅ (r.append r2) ?_) rfl q);rw[Χ];lk
abbrev atr:V->-V->Hp->VK->Prop:=λx vs H Q=>∃l xs y,x=.ref l/\vs=[]/\H l=!.lst xs/\xs[xs.4 - 1]?=!y/\Q y (upd H l (.lst xs.84))
abbrev agQ:V->-V->Hp->VK->Prop:=λx vs H Q=>∃l xs,x=.ref l/\vs=[]/\H l=!.lst xs/\Q .k4 (upd H l (.lst []))
def E8:MtM X "list.clear" agQ:=by
 intro pins s σ H x vs v us Q I rx rv h;(revert h;show P9 λl xs μ M0 hH q=>?_;subst μ;subst M0);cases rx;let hus:=rv.zero;subst hus;(show PV (I.acC hH) λz=>MM λfT n r hl e=>?_);show Vb PySem.F.slot_list_clear (Λ _ e rfl) PySem.F.entry_list_clear (PySem.F.args_list_clear_1 _) (as6 l fT.10 n (by rw[Ϙ];lk)) ⟨e,?_⟩;show(ϕ (.k4) _ (I.agO hH e rfl .nil (Ϡ _)) rfl q)
abbrev ajH:R2:=λx y H Q=>∃l k xs,x=.ref l/\y=.int k/\H l=!.lst xs/\-(((2 ^ 63)))<=k/\k < 2 ^ 63/\xs.4 * k.6<=sizeLine/\
 ∀p,H p=none->Q (.ref p) (upd H p (.lst (τ k.6 xs).55))
def Hg (xs:-α)(k:Nat):(τ k xs).flatten.4=k * xs.4:=by
 induction k with
 | zero=>simp
 | succ k ih=>rw[NK,Qq,Χ,ih,Nat.succ_mul,Nat.add_comm]
def JI:M7 X (binaryOp .Mult) ajH:=by
 intro pins s σ H x y v u Q I rx ry h;(revert h;show QS λl k xs μ M0 hH h1=>N8 λh2 hz q=>?_;subst μ;subst M0);cases rx;obtain⟨t,rfl⟩:=ry;(show PV (I.acC hH) λz=>MM λfT n r hl e=>?_);let hlen:fT.18 * k.6<=sizeLine:=by rw[Ϙ,<-hl];show hz
 let anT:¬fT.18 * k.6 > (2 ^ 63 - 1) / 8:=by
  have:(sizeLine:Nat)<=(2 ^ 63 - 1) / 8:=by decide
  lk
 let anU:¬(!((aiZ k)))=true:=by
  rw[fitsIndex_both h1 h2];show ρ
 let acD:¬Pd (fT.18 * k.6)=true:=by
  rw[Yw hlen];show ρ
 let agR:aiY (λx1 x2=>x1++x2) #[] (τ (if fT.toArray.49=true then 0 else k.6) fT.10)=(τ k.6 fT).flatten.10:=by
  let f0:=λm=>by
   have:=foldl_rep fT m [];rw[NZ] at this;show this
  rw[f0];cases fT with
  | nil=>simp
  | cons a r'=>rw[Φ ∅]
 show wpAny_binaryOp_repeat_ref "!" (Λ _ e rfl) (λs'=>aft s' k t) noFill_list_mul PySem.F.fills_int_mul PySem.F.slot_int_rmul repeat_list PySem.F.slot_int_index.lookup
  (Vb PySem.F.slot_int_rmul (aft s k t) PySem.F.entry_int_rmul (PySem.F.args_int_rmul_2 _ _) (int___rmul___int_list k t l fT.10 n)
   ⟨e,rfl,(Λ _ e rfl),Vb PySem.F.slot_list_mul (Λ _ e rfl) PySem.F.entry_list_mul (PySem.F.args_list_mul_2 _ _) (aqB l fT.10 n k t anU anT acD) ⟨e,?_⟩⟩)
 rw[agR];show(ϕ (.ref _) _ (I.agP (r.rep k.6) (by rw[Hg,Nat.mul_comm];show hz)) rfl (q _ I.72))
end
end
namespace Att
open PySem PySem.W PySem.Calls PyProof.Rows
def pK :∀ns vs,WellAll P h vs (ns.map ai0)->Yk vs ns:=by
 intro ns
 induction ns with
 | nil=>
  intro vs w;cases w;show .nil
 | cons n ns ih=>
  intro vs w;cases w with
  | cons a b=>
   cases a;show .cons _ _ (ih _ b)
def BU {l:aqC}(hn:l.most=!n)
  (aez:l.row.toRowW.claim.pre args=true) (hwl:WellAll P h vals args) :
  ∃a vs ns,vals=[ϫ a]/\args=[WData.list (ns.map ai0)]/\h.get? a=some { cls:=.type "list",data:=.seq vs.10 }/\Yk vs ns/\ns.4<=n:=by
 (show Nm (hasAllW_cons ((awh aez).1)) λd r μ h1 h2=>?_;subst μ);obtain rfl:=hasAllW_nil h2;(show ι (hasW_list h1) λxs μ h3=>?_;subst μ);obtain⟨ns,rfl⟩:=items_int h3;let hlen:ns.4<=n:=by
  let h4:(WTm.not (.lt (.lit (.int n)) (.len (.arg 0)))).holds [] { args:=[.list (ns.map .int)] }=true:=by
   let h4:=(holds_andW ((awh aez).2)).1;rw[hn] at h4;show h4
  let h5:=condW_of h4 (w_not (w_lt w_lit (w_len_list (w_arg rfl))));rw[Θ] at h5;show Nat.le_of_not_lt λq=>?_
  first
   | (rw[ϝ q'] at h5;show absurd h5 "!")
   | (simp at h5;lk)
 cases hwl with
 | cons w1 w2=>
  cases w2;cases w1 with
  | list ho Zp=>show(IB _ _ ns rfl rfl ho (pK ns _ Zp) hlen)
def BV (l:aqC)(args:-WData):l.row.toRowW.claim.post args (.bool true) args=true:=
 postW_of
  (by first | rfl | decide | simp[ax4])
  (show(WTm.eq .res (.lit (.bool true))).value [] { args:=args,res:=!.bool true,after:=args }=!.bool (true == true) from w_eq_bool (w_res rfl) w_lit) rfl
def wG {l:aqC}{d:DefRec}
  (hn:l.most=!n) (hdf:d.71=[])
  (call:∀(w:J') (s₀ s₁:η) (mg mb:Str->Option Υ) (fa:Ι) (o:Obj) (pm cd doc:Υ) (a:Ι) (vs:-Υ) (ns:-Int),
   Ground q loose [] XP w s₀ mg mb s₁.8->YP w s₁.8->
   s₁.heap.get? fa=!o->o.52=.func (docDef d.59 d.42 d.body d.scope pm cd doc)->s₁.heap.CodeRec cd d.59->mg d.59=!.ref fa->
   s₁.heap.get? a=some { cls:=.type "list",data:=.seq vs.10 }->Yk vs ns->ns.4<=n->s₁.80=#[]->
   codeAny (model l.24 w) callerA (.call (.ref fa) ⟨[.ref a],[]⟩) (λr s'=>r=.ok (.ret (.bool true))/\OldK s₁.8 s'.8/\s'.os=s₁.os/\Q7 s'.80) s₁) :
  WalkO q loose XP YP l.88 d [] (λf vs=>PySem.call f vs):=by
 intro w s₀ s₁ mg mb G Y fa o pm cd doc dV kV ho hd TD hD hmg hg args vals as aez ats hrd hwl hlo;obtain rfl:dV=.none:=Dflts.none hD hdf;obtain rfl:kV=.none:=Dflts.noKw hD;(show anm (BU hn aez hwl) λa vs ns μ M0 agS hints hlen=>?_;subst μ;subst M0);show enter_call (MQ (call w s₀ s₁ mg mb fa o pm cd doc a vs ns G Y ho (fd_plain hd) TD hmg agS hints hlen hg) λr s' hq=>?_);(revert hq;show QT λμ h2 h3 h4=>?_;subst μ);show⟨.inl (IB (.bool true) (.bool true) ([]) rfl (λ_=>rfl) (.bool true) (BV l _) (λ_=>⟨aih,λ_ hm=>(nomatch hm)⟩)),h2,h3,h4⟩
end Att
section
open PySem PySem.Spec PyProof.Rows
def tV:∀{vs:-Υ} {ns:-Int},Yk vs ns->Vals (ns.map V.int) vs
 | _,_,.nil=>.nil
 | _,_,.cons n t h=>.cons ⟨t,rfl⟩ (tV h)
abbrev agT (H:Hp):Prop:=∀b,H b=none\/∃o xs,H b=!.Ve o (.lst xs)
def E9 {K:Ψ}{mb:Str->Option Υ}{CX:CXT}{s₁:η}{vs:-Υ}
  (KX:K.In s₁.8) (hns:s₁.heap.Ns mainGlobals mg) (hb:s₁.heap.Ns builtinsNs mb) (hbb:∀x:Str,x ≠ "__name__" -> mb x=bootBuiltins x) (anX:s₁.heap.NoLimit) (hg:s₁.80=#[])
  (ha:s₁.heap.get? a=some { cls:=.type "list",data:=.seq vs.10 }) (hi:Yk vs ns) (hl:ns.4<=sizeLine) (hr:MW k callerA)
  (F:∀base:be,K.In base->base.Ns mainGlobals mg->OZ P w K mg base CX k fa fd [x] sp) (ajK:∀(s:η) (u:Υ),Yj s fd ⟨[u],[]⟩ [(x,u)])
  (PX:∀H:Hp,agT H->G' K H a (ns.map V.int)->sp [.ref a] H (λv _=>v=.bl true) λ_ _ _=>False)
  (hCX:∀H e s',CX [] H s₁ (λ_ _ _=>False) e s'->False) :
  codeAny (model P w) callerA (.call (.ref fa) ⟨[.ref a],[]⟩) (λr s'=>r=.ok (.ret (.bool true))/\OldK s₁.8 s'.8/\s'.os=s₁.os/\Q7 s'.80) s₁:=by
 let rv:=tV hi;let core:∀H:Hp,agT H->G' K H a (ns.map V.int)->Rt P w H s₁.8->(∀b,H b≠none->b=a)->(H a≠none->K.lookup a=none)->
   codeAny (model P w) callerA (.call (.ref fa) ⟨[.ref a],[]⟩) (λr s'=>r=.ok (.ret (.bool true))/\OldK s₁.8 s'.8/\s'.os=s₁.os/\Q7 s'.80) s₁:=by
  intro H hO hS lu hA hK;let base_of:∀{b:Ι} {o:Obj},s₁.heap.get? b=!o->H b=none->(Yu s₁.8 H).get? b=!o:=λe n=>EK e n;let noA:∀{b:Ι} {o:Obj} {es:Array RM} {ep:Nat},s₁.heap.get? b=!o->o.52=.dict es ep->H b=none:=λ{b o es ep} e d=>by
   cases q:H b with
   | none=>rfl
   | some u=>
    let e':=hA b (by rw[q];simp);subst e';rw[ha] at e;cases e;let d':=d;cases d'
  let nsK:∀{b:Ι} {m:Str->Option Υ},s₁.heap.Ns b m->(Yu s₁.8 H).Ns b m:=λ{b m} ⟨o,es,ep,e,d,r⟩=>(UL o es ep (base_of e (noA e d)) d r)
  let hKb:=λb o e=>base_of (KX b o e) (by
   cases q:H b with
   | none=>rfl
   | some u=>
    let e':=hA b (by rw[q];simp);subst e'
    rw[hK (by rw[q];simp)] at e;cases e)
  let hM:Mod K mg (Yu s₁.8 H):=⟨hKb,nsK hns,(Λ mb (nsK hb) hbb),let ⟨mc,h1,h2⟩:=anX;(Λ mc (nsK h1) h2)⟩
  let e0:Zl P w K mg (Yu s₁.8 H) callerA [] s₁ H:=⟨rfl,hM,λb o e=>G9 e,Uq (BJ _ _),trivial,λb hb=>absurd (show b∈([]:-Ι) from hb) ∅,lu,.of_eq hg⟩
  show MQ ((F _ hKb (nsK hns)).run callerA [] s₁ H ⟨[.ref a],[]⟩ [.ref a] [.ref a] _ _ hr e0 (ajK s₁ (.ref a)) (.cons rfl .nil) (PX H hO hS)) λr s' h=>?_;cases r with
  | error e=>show(hCX H e s' h).36
  | ok fl=>
   cases fl with
   | next=>show Ϸ h
   | brk=>show Ϸ h
   | cont=>show Ϸ h
   | ret u=>
    (revert h;show Qz λv H' os bare un anZ=>Nl λr' q=>?_);let q':=q;subst q';obtain rfl:u=aac true:=r';show⟨rfl,OldK.of_keep λb o e=>?_,os,bare⟩;cases q:H b with
    | none=>show un.keep b o e q (by intro z;show absurd (show b∈([]:-Ι) from z) ∅) ∅
    | some u=>
     rcases hO b with z | ⟨ob,xs,z⟩
     ·rw[q] at z;cases z
     ·let z2:=un.QU b ob _ z
      obtain⟨e1,_⟩:=lu b _ z;obtain⟨e2,_⟩:=anZ b _ z2;rw[e] at e1;cases e1;show e2
 cases hk:K.lookup a with
 | some o=>
  let e:=KX a o hk;rw[ha] at e;cases e;show core (λ_=>none) (λ_=>.inl rfl) (.inr (UN _ vs.10 _ hk rfl rfl rfl (by rw[Ϙ,hi.4];show hl) (by simpa using rv))) (λb u z=>by let z':=z;cases z') (λb z=>absurd rfl z) λz=>absurd rfl z
 | none=>
  show core (λb=>if b=a then some (.Ve { cls:=.type "list",data:=.seq vs.10 } (.lst (ns.map V.int))) else none) (λb=>?_) (.inl (.inr ⟨{ cls:=.type "list",data:=.seq vs.10 },γ rfl⟩)) (λb u z=>?_) (λb z=>?_) λ_=>hk
  ·by_cases hb:b=a
   ·show .inr (Ny _ _ (γ hb))
   ·show .inl (Φ hb)
  ·by_cases hb:b=a
   ·let z':=(γ hb).symm.trans z
    cases z';subst hb;show⟨ha,by rw[Θ];show hl,(cr vs _ rv ha)⟩
   ·let z':=(Φ hb).symm.trans z
    cases z'
  ·by_cases hb:b=a
   ·show hb
   ·show absurd (Φ hb) z
theorem KOf {K:Ψ}{h:be}(_:K.In h):Ψ:=K
def Hh {l:as7}{d:DefRec}{K:awi->Ψ}{CX:J'->CXT}{sp:J'->Sp}
  (hn:l.most=!n) (hn2:n<=sizeLine) (hdf:d.71=[]) (hr:MW k callerA)
  (hY:∀(w:J') (h:be),YP w h->(K w.42).In h)
  (F:∀(w:J') (mg:Str->Option Υ) (fa:Ι) (h:be),(K w.42).In h->h.Ns mainGlobals mg->mg d.59=!.ref fa->
   ∃fd:Mx,(∀(s:η) (u:Υ),Yj s fd ⟨[u],[]⟩ [(x,u)])/\
    ∀base:be,(K w.42).In base->base.Ns mainGlobals mg->OZ l.24 w (K w.42) mg base (CX w) k fa fd [x] (sp w))
  (PX:∀(w:J') (H:Hp) (a:Ι) (ns:-Int),ns.4<=n->agT H->G' (K w.42) H a (ns.map V.int)->sp w [.ref a] H (λv _=>v=.bl true) λ_ _ _=>False)
  (hCX:∀(w:J') (H:Hp) (s:η) (e:Υ) (s':η),CX w [] H s (λ_ _ _=>False) e s'->False) :
  ax5 q loose XP YP l.88 d [] (λf vs=>PySem.call f vs):=by
 show Att.wG hn hdf λw s₀ s₁ mg mb fa o pm cd doc a vs ns G Y ho hd TD hmg agS hints hlen hg=>?_;let KX:=hY w _ Y;(show ι (F w mg fa _ KX G.T.g hmg) λfd hb hF=>?_);show E9 KX G.T.g G.T.b G.T.builtins G.T.nolimit hg agS hints (ο hlen hn2) hr hF hb (λH hO hS=>PX w H a ns hlen hO hS) λH e s'=>hCX w H s₁ e s'
abbrev inClass (s:ϟ)(j:Nat):ϟ:=match s with
 | .ClassDef _ _ _ body _ _ _ _ _ _ _=>body.getD j (.Pass ⟨0,0,0,0⟩)
 | _=>.Pass ⟨0,0,0,0⟩
abbrev My (s:ϟ):Arguments:=match s with
 | .FunctionDef _ a _ _ _ _ _ _ _ _=>a
 | _=>{ posonlyargs:=[],args:=[],vararg:=none,kwonlyargs:=[],kw_defaults:=[],kwarg:=none,defaults:=[] }
abbrev wE (s:ϟ):-ϟ:=match s with
 | .FunctionDef _ _ b _ _ _ _ _ _ _=>b
 | _=>[]
abbrev Ο (s:ϟ):QI:=match s with
 | .FunctionDef _ _ _ _ _ _ sc _ _ _=>sc
 | _=>{ kind:=.function,names:=[],isGenerator:=false,isCoroutine:=false }
theorem Yx:CXT:=λ_ _ _ _ _ _=>False
theorem E0:XK:=λ_ _ _=>False
def ν :Passes Yx X E0:=λ_ _ _ _ _ _ _ h=>h.36
structure Fun (K:Ψ)(x qual:Str)(st:ϟ)(f:Ι)(fd:Mx):Prop where
 ex:∃(oc:Υ) (od:Option Ι) (kV doc pm:Υ) (an:Option Ι) (Nd ct:Υ) (W1:Array (Option Υ)),
  fd=Nu x qual (My st) (wE st) (Ο st) .none kV doc pm an Nd ct/\K.lookup f=!⟨oc,od,.func fd,W1⟩/\Rp K Nd qual=true
 kp:NI K (.ref f)=true
section
variable {P:ϯ} {K:Ψ} {base:be}
def Fun.ok {st:ϟ}(F:Fun K x qual st f fd)(S:ζ N ps (Ο st))(len:∀vs H Q E,sp vs H Q E->vs.4=ps.4)
  (RB:∀(Nd:Υ) (A:QH) (outer:-Env) (s:η) (H:Hp) (vs:-V) (Q:VK) (E:XK),MW k (A.deeper (envOfC qual (Ο st) s.5 f Nd))->sp vs H Q E->
   ∃t,W2 (Su Yx P w K mg base N qual (Ο st) f Nd A outer s H E).SW (wE st) t/\t { nx:=λ_ H'=>Q .k4 H',rt:=Q } (start N vs) H):OZ P w K mg base Yx (k+1) f fd ps sp:=by
 (show UQ F.ex λoc od kV doc pm an=>Rx λNd ct W1 μ lk TD=>?_;subst μ);show AZ lk TD S len λA outer s H vs Q E hr PX=>?_;(show ι (RB Nd A outer s H vs Q E hr PX) λt h q=>?_);show(Λ t h.SW q)
def Fun.binds {st:ϟ}(F:Fun K x qual st f fd)
  (h:∀(kV doc pm:Υ) (an:Option Ι) (Nd ct:Υ) (us:-Υ),us.4=ps.4->bindArgs (Nu x qual (My st) (wE st) (Ο st) .none kV doc pm an Nd ct) ⟨us,[]⟩=pure (ps.zip us)):Binds K fd ps []:=by
 (show UQ F.ex λoc od kV doc pm an=>Rx λNd ct W1 μ lk TD=>?_;subst μ);show .all (h kV doc pm an Nd ct)
def nN {st:ϟ}{kV:Υ}(l:K.lookup f=!⟨oc,od,.func (Nu x qual (My st) (wE st) (Ο st) .none kV doc pm an Nd ct),W1⟩)
  (c:Rp K Nd qual=true) (k:NI K (.ref f)=true):Fun K x qual st f (Nu x qual (My st) (wE st) (Ο st) .none kV doc pm an Nd ct):=⟨(Da oc od kV doc pm an (UL Nd ct W1 rfl l c)),k⟩
end
def Lv (hr:MW k A):A.23+1 < cLine:=ό (Nat.add_le_add_left "!" _) hr.23
section
variable {X:Cx}
def pv (i:Nat)(hN: ~~~(X.N[i]?=!x))(hv:autoParam (Vis X.15 x) L2.acq._auto_1)(hd:autoParam (Ws x) L2.M9._auto_1)
  (TD:autoParam (Cdt x) L2.M9._auto_1):PE X (.Name x pos) (Vw i):=Jt hN hv hd TD
end
def S8 {c A B:Prop}[Decidable c](h1:c->A)(h2:¬c->B):if c then A else B:=by
 by_cases h:c
 ·rw[γ h]
  show h1 h
 ·rw[Φ h]
  show h2 h
abbrev Ω (H H':Hp):Prop:=∀b o,H b=!o->H' b=!o
def Ω.refl (H:Hp):Ω H H:=λ_ _ h=>h
def Ω.trans (a:Ω H H1)(b:Ω H1 H2):Ω H H2:=λc o h=>b c o (a c o h)
def Ω.free (e:Ω H H')(h:H' l=Ur):H l=Ur:=by
 cases q:H l with
 | none=>rfl
 | some o=>
  rw[e l o q] at h;cases h
def Ω.seq {K:Ψ}(e:Ω H H')(h:G' K H a xs):G' K H' a xs:=by
 rcases h with(h | ⟨o,h⟩) | h
 ·show .inl (.inl (e _ _ h))
 ·show .inl (.inr ⟨o,e _ _ h⟩)
 ·show .inr h
section
variable [DecidableEq κ]
abbrev lc (ϓ:-(κ×V))(k:κ):Option V:=(ϓ.find? λkv=>decide (kv.1=k)).map (·.2)
abbrev putK (ϓ:-(κ×V))(k:κ)(v:V):-(κ×V):=
 if (ϓ.any λkv=>decide (kv.1=k))=true then ϓ.map (λkv=>if kv.1=k then(kv.1,v) else kv) else ϓ++[(k,v)]
abbrev Og (ϓ:-(κ×V))(k:κ):-(κ×V):=ϓ.filter λkv=>decide (kv.1≠k)
def Fa :lc ([]:-(κ×V)) k=none:=rfl
def cf {p:κ×V}{r:-(κ×V)}(e:p.1=k):lc (p::r) k=!p.2:=by simp[lc,Ni,e]
def bK {p:κ×V}{r:-(κ×V)}(e:¬p.1=k):lc (p::r) k=lc r k:=by simp[lc,Ni,e]
def gY (k:κ):∀ϓ:-(κ×V),(ϓ.any λkv=>decide (kv.1=k))=(lc ϓ k).12
 | []=>rfl
 | p::r=>by
  rw[NU]
  by_cases e:p.1=k
  ·simp only[cf e,ϝ e,Bool.true_or,ax6]
  ·rw[bK e,Ϫ e,Bool.false_or];show gY k r
def wH (k j:κ)(y:V):∀ϓ:-(κ×V),lc (ϓ.map λkv=>if kv.1=k then(kv.1,y) else kv) j=(lc ϓ j).map λx=>if j=k then y else x
 | []=>rfl
 | p::r=>by
  let ih:=wH k j y r;rw[Ϗ]
  by_cases h:p.1=k
  ·rw[γ h]
   by_cases e:p.1=j
   ·rw[cf (p:=(p.1,y)) e,cf e,NO,γ (e.symm.trans h)]
   ·rw[bK (p:=(p.1,y)) e,bK e,ih]
  ·rw[Φ h]
   by_cases e:p.1=j
   ·rw[cf (p:=p) e,cf e,NO,Φ (λz=>h (e.trans z))]
   ·rw[bK (p:=p) e,bK e,ih]
def tW (k j:κ)(y:V):∀ϓ:-(κ×V),lc ϓ k=none->lc (ϓ++[(k,y)]) j=if j=k then some y else lc ϓ j
 | [],_=>by
  by_cases e:k=j
  ·rw[γ e.17];show cf (p:=(k,y)) e
  ·rw[Φ (λz=>e z.17)];show bK (p:=(k,y)) e
 | p::r,hn=>by
  rw[u8];let hk:¬p.1=k:=λz=>by rw[cf z] at hn;cases hn
  rw[bK hk] at hn;let ih:=tW k j y r hn
  by_cases e:p.1=j
  ·rw[cf e,cf e,Φ (λz=>hk (e.trans z))]
  ·rw[bK e,bK e,ih]
def dB (ϓ:-(κ×V))(k j:κ)(y:V):lc (putK ϓ k y) j=if j=k then some y else lc ϓ j:=by
 unfold putK
 by_cases a:(ϓ.any λkv=>decide (kv.1=k))=true
 ·rw[γ a,wH]
  rw[gY] at a
  by_cases e:j=k
  ·obtain⟨x,hx⟩:=db.mp a
   rw[γ e,e,hx,NO,γ rfl]
  ·rw[Φ e]
   cases lc ϓ j with
   | none=>rfl
   | some x=>rw[NO,Φ e]
 ·rw[Φ a]
  show tW k j y ϓ ?_;rw[gY] at a;cases q:lc ϓ k with
  | none=>rfl
  | some x=>rw[q] at a;show(a rfl).36
def bP (ϓ:-(κ×V))(k:κ)(v:V):(putK ϓ k v).4<=ϓ.4+1:=by
 unfold putK
 split
 ·rw[Θ];lk
 ·rw[Χ,ς,ϸ];lk
def Fb {ϓ:-(κ×V)}{k:κ}(v:V)(h:lc ϓ k=none):putK ϓ k v=ϓ++[(k,v)]:=by
 unfold putK;rw[gY,h];show Φ "!"
def OE.gZ {u:Option Υ}(r:OE o u):o.12=u.12:=by
 cases o with
 | none=>cases u with
  | none=>rfl
  | some _=>show(r).36
 | some _=>cases u with
  | none=>show(r).36
  | some _=>rfl
def OE.getD {u:Option Υ}{d:V}(r:OE o u)(rd:RelV d d'):RelV (o.getD d) (u.getD d'):=by
 cases o with
 | none=>cases u with
  | none=>show rd
  | some _=>show(r).36
 | some _=>cases u with
  | none=>show(r).36
  | some _=>show r
def KV.val {ϓ:-(κ×V)}{vs:-(κ×Υ)}(r:KV ϓ vs)(k:κ):OE (lc ϓ k) (valueAt vs k):=by
 induction r with
 | nil=>show FS
 | @cons p q ps qs h t ih=>
  obtain⟨h1,h2⟩:=h
  by_cases e:p.1=k
  ·let e':=h1.symm.trans e
   let b:valueAt (q::qs) k=!q.2:=by simp[valueAt,Ni,e']
   rw[cf e,b];show h2
  ·let e':¬q.1=k:=λz=>e (h1.trans z)
   let b:valueAt (q::qs) k=valueAt qs k:=by simp[valueAt,Ni,e']
   rw[bK e,b];show ih
def KV.any {ϓ:-(κ×V)}{vs:-(κ×Υ)}(r:KV ϓ vs)(k:κ):(ϓ.any λkv=>decide (kv.1=k))=vs.any λkv=>decide (kv.1=k):=by
 induction r with
 | nil=>rfl
 | cons h t ih=>rw[NU,NU,ih,h.1]
def KV.agU {ϓ:-(κ×V)}{vs:-(κ×Υ)}(r:KV ϓ vs)(k:κ)(ry:RelV y u) :
  KV (ϓ.map λkv=>if kv.1=k then(kv.1,y) else kv) (vs.map λkv=>if kv.1=k then(kv.1,u) else kv):=by
 induction r with
 | nil=>show .nil
 | @cons p q ps qs h t ih=>
  rw[Ϗ,Ϗ];show .cons ?_ ih;obtain⟨h1,h2⟩:=h
  by_cases e:p.1=k
  ·rw[γ e,γ (h1.symm.trans e)];show⟨h1,ry⟩
  ·rw[Φ e,Φ (λz=>e (h1.trans z))];show⟨h1,h2⟩
def KV.put {ϓ:-(κ×V)}{vs:-(κ×Υ)}(r:KV ϓ vs)(k:κ)(ry:RelV y u):KV (putK ϓ k y) (stored vs k u):=by
 unfold putK stored;rw[r.any k]
 by_cases e:(vs.any λkv=>decide (kv.1=k))=true
 ·rw[γ e,γ e];show r.agU k ry
 ·rw[Φ e,Φ e];show Paired.snoc r ⟨rfl,ry⟩
def KV.drop {ϓ:-(κ×V)}{vs:-(κ×Υ)}(r:KV ϓ vs)(k:κ):KV (Og ϓ k) (without vs k):=by
 unfold Og without
 induction r with
 | nil=>show .nil
 | @cons p q ps qs h t ih=>
  obtain⟨h1,h2⟩:=h;rw[NG,NG]
  by_cases e:p.1=k
  ·let a:¬decide (p.1≠k)=true:=by simp[e]
   let b:¬decide (q.1≠k)=true:=by simp[h1.symm.trans e]
   rw[Φ a,Φ b];show ih
  ·let e':¬q.1=k:=λz=>e (h1.trans z)
   let a:decide (p.1≠k)=true:=by simp[e]
   let b:decide (q.1≠k)=true:=by simp[e']
   rw[γ a,γ b];show .cons ⟨h1,h2⟩ ih
def KV.length {ϓ:-(κ×V)}{vs:-(κ×Υ)}(r:KV ϓ vs):ϓ.4=vs.4:=Paired.length r
def qD (ϓ:-(κ×V))(k:κ):(Og ϓ k).4<=ϓ.4:=sB _ _
end
def jm (r:RelV (kV k) u):(ww P w).is k u=true:=by
 cases k with
 | inl i=>obtain⟨t,e⟩:=(r);subst e;show wy P w i t
 | inr x=>obtain⟨t,e⟩:=(r);subst e;show oP P w x t
def tX {P:ϯ}:∀{ks:-Key} {us:-Υ},Vals (ks.map kV) us->ItemsAre (ww P w) ks us
 | [],_,r=>by rw[Po] at r;cases r;show .nil
 | k::ks,_,r=>by
  rw[Ϗ] at r;cases r with
  | cons h t=>show .cons (jm h) (tX t)
theorem KT (H:Hp):-(-Key×V)->-(-Key×Ι×Υ)->Prop:=Paired λp q=>p.1=q.1/\H q.2.1=!.tup (p.1.map kV)/\RelV p.2 q.2.2
def KT.val {ϓ:-(-Key×V)}{xs:-(-Key×Ι×Υ)}(r:KT H ϓ xs)(k:-Key):OE (lc ϓ k) ((atKey xs k).map (·.2)):=by
 induction r with
 | nil=>show FS
 | @cons p q ps qs h t ih=>
  (revert h;show N8 λh1 _ h2=>?_)
  by_cases e:p.1=k
  ·let e':=h1.symm.trans e
   let b:atKey (q::qs) k=!q.2:=by simp[atKey,Ni,e']
   rw[cf e,b];show h2
  ·let e':¬q.1=k:=λz=>e (h1.trans z)
   let b:atKey (q::qs) k=atKey qs k:=by simp[atKey,Ni,e']
   rw[bK e,b];show ih
def KT.agU {ϓ:-(-Key×V)}{xs:-(-Key×Ι×Υ)}(r:KT H ϓ xs)(k:-Key)(ry:RelV y u) :
  KT H (ϓ.map λkv=>if kv.1=k then(kv.1,y) else kv) (xs.map (putAt k u)):=by
 induction r with
 | nil=>show .nil
 | @cons p q ps qs h t ih=>
  rw[Ϗ,Ϗ];show .cons ?_ ih;(revert h;show N8 λh1 h2 h3=>?_);unfold putAt
  by_cases e:p.1=k
  ·rw[γ e,γ (h1.symm.trans e)];show⟨h1,h2,ry⟩
  ·rw[Φ e,Φ (λz=>e (h1.trans z))];show⟨h1,h2,h3⟩
def KT.put {ϓ:-(-Key×V)}{xs:-(-Key×Ι×Υ)}(r:KT H ϓ xs)(k:-Key)(hb:H b=!.tup (k.map kV))(ry:RelV y u) :
  KT H (putK ϓ k y) (storedH xs k b u):=by
 let e:(ϓ.any λkv=>decide (kv.1=k))=(atKey xs k).12:=by
  rw[gY,(r.val k).gZ,SQ]
 unfold putK storedH;rw[e]
 by_cases q:(atKey xs k).12=true
 ·rw[γ q,γ q];show r.agU k ry
 ·rw[Φ q,Φ q];show Paired.snoc r ⟨rfl,hb,ry⟩
def KT.keeps {ϓ:-(-Key×V)}{xs:-(-Key×Ι×Υ)}(r:KT H ϓ xs)(ht:∀b ys,H b=!.tup ys->H' b=!.tup ys):KT H' ϓ xs:=
 Paired.agt r λ_ _ z=>⟨z.1,ht _ _ z.2.1,z.2.2⟩
section
variable {P:ϯ} {h:be} 
def IL {u:HO}(ok:Rt P w H h)(e:Rd H a u):Na P w H h a u:=e.ok ok
def mq (ok:Rt P w H h)(e:Rd H a (.dK ϓ)):ϓ.4<=sizeLine/\(a == sysModules)=false/\∃vs,KV ϓ vs/\h.DictOf (ww P w) a vs:=
 show Na P w H h a (.dK ϓ) from IL ok e
def A6 (ok:Rt P w H h)(e:H a=!.dK ϓ):ϓ.4<=sizeLine/\(a == sysModules)=false/\∃vs,KV ϓ vs/\h.DictOf (ww P w) a vs:=mq ok (.inl e)
def k9 (ok:Rt P w H h)(e:H a=!.tup (ks.map kV)):(tupleKind (ww P w)).is h ks a:=by
 (show PV (ok a _ e) λ_=>ϭ λfT r=>Nq λo h1 h2=>Sq λn h3=>?_);show(ϰ o fT.10 n h1 h2 h3 (by simpa using tX r))
def oR {ϓ:-(-Key×V)}(ok:Rt P w H h)(e:Rd H a (.dT ϓ)):ϓ.4<=sizeLine/\(a == sysModules)=false/\
  ∃xs,KT H ϓ xs/\h.DictOfH (tupleKind (ww P w)) a xs:=by
 (show sw (IL ok e) λz y=>ϭ λxs r=>QS λo es ep h1 h2 h3 h4 h5=>?_);show⟨z,y,(Λ xs r (UN o es ep h1 h2 h3 h4 (λx hx=>?_) h5))⟩;let all:∀{l:-(-Key×V)} {m:-(-Key×Ι×Υ)},KT H l m->∀x∈m,(tupleKind (ww P w)).is h x.1 x.2.1:=by
  intro l m q
  induction q with
  | nil=>intro x hx;show nomatch hx
  | @cons p q ps qs hq t ih=>
   intro x hx;rcases Κ.mp hx with e | hx
   ·subst e
    show k9 ok (by rw[<-hq.1];show hq.2.1)
   ·show ih x hx
 show all r x hx
def Lw {ϓ:-(-Key×V)}(ok:Rt P w H h)(e:H a=!.dT ϓ):ϓ.4<=sizeLine/\(a == sysModules)=false/\
  ∃xs,KT H ϓ xs/\h.DictOfH (tupleKind (ww P w)) a xs:=oR ok (.inl e)
end
abbrev MG (H:Hp)(a:Ι)(y:V)(r:Option V):Prop:=
 (∃ϓ k,Rd H a (.dK ϓ)/\y=kV k/\r=lc ϓ k)\/∃ϓ k b,Rd H a (.dT ϓ)/\y=.ref b/\H b=!.tup (k.map kV)/\r=lc ϓ k
abbrev Qc (H:Hp)(a:Ι)(y v:V)(H':Hp):Prop:=
 (∃ϓ k,H a=!.dK ϓ/\y=kV k/\ϓ.4 < sizeLine/\H'=upd H a (.dK (putK ϓ k v)))\/
 ∃ϓ k b,H a=!.dT ϓ/\y=.ref b/\H b=!.tup (k.map kV)/\ϓ.4 < sizeLine/\H'=upd H a (.dT (putK ϓ k v))
def MG.k {k:Key}(e:H a=!.dK ϓ):MG H a (kV k) (lc ϓ k):=.inl (ϕ ϓ k (.inl e) rfl rfl)
def Qc.k {k:Key}(e:H a=!.dK ϓ)(hl:ϓ.4 < sizeLine):Qc H a (kV k) v (upd H a (.dK (putK ϓ k v))):=.inl (Fk ϓ k e rfl hl rfl)
section
variable {X:Cx} {s:η} {v:V} {r:Υ} {o:Option V}  
def Inv.big (I:Inv X pins σ H s):sysModules < s.5:=by
 show Rq "!" ((I.mod.glob.keeps I.bk).lt)
def BW {Q:Υ->η->Prop}(hu:A.23+1 < cLine)(I:Inv X pins σ H s)(g:MG H a y (!v))(ry:RelV y u)(h:∀w' s',Inv X pins σ H s'->RelV v w'->Q w' s') :
  wpAny X.mo A (getItem (.ref a) u) Q E s:=by
 rcases g with⟨ϓ,k,e,ey,l⟩ | ⟨ϓ,k,b,e,ey,eb,l⟩
 ·subst ey
  (show sw (mq I.lu e) λz hd=>ϭ λvs rel dd=>?_);(show ι (OE.mh (by rw[l];show rel.val k)) λw' hw US=>?_);show aii (jm ry) dd.mapOf hw (h w' _ (I.tok _) US)
 ·subst ey
  cases (ry);(show sw (oR I.lu e) λz hd=>ϭ λxs rel dd=>?_);(show ι (OE.mh (by rw[l];show rel.val k)) λw' hw US=>?_);(show ι (ξ.mp hw) λp hp W6=>?_);show wpAny_getItem_heap (Nn hu) (k9 I.lu eb) dd hp ?_;rw[W6];show h w' _ (I.tok _) US
def Me {Q:Υ->η->Prop}(hu:A.23+1 < cLine)(I:Inv X pins σ H s)(g:MG H a y o)(ry:RelV y u)(h:∀s',Inv X pins σ H s'->Q (.bool o.12) s') :
  wpAny X.mo A (compareOp .In u (.ref a)) Q E s:=by
 rcases g with⟨ϓ,k,e,ey,l⟩ | ⟨ϓ,k,b,e,ey,eb,l⟩
 ·subst ey
  (show sw (mq I.lu e) λz hd=>ϭ λvs rel dd=>?_);show wpAny_in_of (jm ry) hd dd.mapOf ?_;rw[<-(rel.val k).gZ,<-l];show h _ (I.tok _)
 ·subst ey
  cases (ry);(show sw (oR I.lu e) λz hd=>ϭ λxs rel dd=>?_);show wpAny_in_heap (Nn hu) (k9 I.lu eb) hd dd ?_;let q:=(rel.val k).gZ;rw[SQ] at q;rw[<-q,<-l];show h _ (I.tok _)
def Hi {Q:Υ->η->Prop}(hu:A.23+1 < cLine)(I:Inv X pins σ H s)(g:MG H a y o)(ry:RelV y u)(h:∀s',Inv X pins σ H s'->Q (.bool (!((o.isSome)))) s') :
  wpAny X.mo A (compareOp .NotIn u (.ref a)) Q E s:=by
 rcases g with⟨ϓ,k,e,ey,l⟩ | ⟨ϓ,k,b,e,ey,eb,l⟩
 ·subst ey
  (show sw (mq I.lu e) λz hd=>ϭ λvs rel dd=>?_);show wpAny_notIn_of (jm ry) hd dd.mapOf ?_;rw[<-(rel.val k).gZ,<-l];show h _ (I.tok _)
 ·subst ey
  cases (ry);(show sw (oR I.lu e) λz hd=>ϭ λxs rel dd=>?_);show wpAny_notIn_heap (Nn hu) (k9 I.lu eb) hd dd ?_;let q:=(rel.val k).gZ;rw[SQ] at q;rw[<-q,<-l];show h _ (I.tok _)
def qj (I:Inv X pins σ H s)(mu:Mut (H a))(hs:Pn a s.8 h')(he:∃q,h'.get? a=!q)(new:Na X.24 X.w (upd H a ob) h' a ob) :
  Inv X pins σ (upd H a ob) { s with heap:=h',toks:=t' }:=
 I.write mu (.inl rfl) (λb q hb z=>(hs.2 b hb).trans z) he new
def yQ {vs:-(Key×Υ)}(z:ϓ.4<=sizeLine)(hd:(a == sysModules)=false)(rel:KV ϓ vs)(dd:h'.DictOf (ww P w) a vs) :
  Na P w H' h' a (.dK ϓ):=⟨z,hd,(Λ vs rel dd)⟩
def BX {Q:Unit->η->Prop}(hu:A.23+1 < cLine)(I:Inv X pins σ H s)(g:Qc H a y v H')(ry:RelV y u)(rv:RelV v r)(h:∀s',Inv X pins σ H' s'->Q Unit.unit s') :
  wpAny X.mo A (setItem (.ref a) u r) Q E s:=by
 rcases g with⟨ϓ,k,e,ey,l,eH⟩ | ⟨ϓ,k,b,e,ey,eb,l,eH⟩
 ·subst ey eH
  (show sw (A6 I.lu e) λz hd=>ϭ λvs rel dd=>?_);let hz:vs.4<=sizeLine:=by rw[<-rel.4];show z
  let hl:(putK ϓ k v).4<=sizeLine:=by have:=bP ϓ k v;lk
  show wpAny_setItem_pairs (jm ry) dd λh' dd' hs=>h _ ?_;let he:∃q,h'.get? a=!q:=let ⟨q,_,_,hq,_⟩:=dd';⟨q,hq⟩;show qj I (by rw[e];show FS) hs he (yQ hl hd (rel.put k rv) dd')
 ·subst ey eH
  cases (ry);(show sw (Lw I.lu e) λz hd=>ϭ λxs rel dd=>?_);let hz:xs.4<=sizeLine:=by rw[<-Paired.length rel];show z
  let hl:(putK ϓ k v).4<=sizeLine:=by have:=bP ϓ k v;lk
  show wpAny_setItem_heap (Nn hu) (k9 I.lu eb) dd λh' dd' hs=>h _ ?_;(revert dd';show QS λq es ep hq h2 h3 h4=>Nl λ_ h5=>?_);show qj I (by rw[e];show FS) hs ⟨q,hq⟩ ⟨hl,hd,(Λ _ ((rel.put k eb rv).keeps λc ys ec=>?_) (IB q es ep hq h2 h3 h4 h5))⟩;rw[ag (bO ec e (λz=>nomatch z))];show ec
end
section
variable {X:Cx} {s:η} {k:Key}   
def IM {Q:Υ->η->Prop}(I:Inv X pins σ H s)(e:H a=!.dK ϓ)(ry:RelV (kV k) u)(l:lc ϓ k=!v)(hm:more=[]\/∃x,more=[x])
  (h:∀w' s',Inv X pins σ (upd H a (.dK (Og ϓ k))) s'->RelV v w'->Q w' s'):wpAny X.mo A (call (.builtin "dict.pop") (.ref a::u::more)) Q E s:=by
 (show sw (A6 I.lu e) λz hd=>ϭ λvs rel dd=>?_);(show ι (OE.mh (by rw[<-l];show rel.val k)) λw' hw US=>?_);let hp:(keyPart u).12=true:=by
  cases k with
  | inl i=>obtain⟨t,q⟩:=(ry);subst q;rfl
  | inr x=>obtain⟨t,q⟩:=(ry);subst q;rfl
 let ha:argsOk "dict.pop" ⟨.ref a::u::more,[]⟩:=by
  rcases hm with q | ⟨x,q⟩
  ·subst q;show PySem.F.args_dict_pop_2 _ _
  ·subst q;show PySem.F.args_dict_pop_3 _ _ _
 show Qr PySem.F.slot_dict_pop dd.33 PySem.F.entry_dict_pop ha (meets_dict_pop_there (ww X.24 X.w) a (jm ry) more hm hp)
  (Fk vs w' dd (by rw[<-rel.4];show z) hw (λh' dd' hs=>h w' _ ?_ US))
 let he:∃q,h'.get? a=!q:=let ⟨q,_,_,hq,_⟩:=dd';⟨q,hq⟩;show qj I (by rw[e];show FS) hs he (yQ (ο (qD ϓ k) z) hd (rel.drop k) dd')
def JJ {r:Υ}{Q:Υ->η->Prop}(I:Inv X pins σ H s)(e:H a=!.dK ϓ)(ry:RelV (kV k) u)(l:lc ϓ k=none)(h:∀s',Inv X pins σ H s'->Q r s') :
  wpAny X.mo A (call (.builtin "dict.pop") [.ref a,u,r]) Q E s:=by
 (show sw (A6 I.lu e) λz hd=>ϭ λvs rel dd=>?_);let hp:(keyPart u).12=true:=by
  cases k with
  | inl i=>obtain⟨t,q⟩:=(ry);subst q;rfl
  | inr x=>obtain⟨t,q⟩:=(ry);subst q;rfl
 show Qr PySem.F.slot_dict_pop dd.33 PySem.F.entry_dict_pop (PySem.F.args_dict_pop_3 _ _ _) (meets_dict_pop_default (ww X.24 X.w) a (jm ry) hd hp r) (ϡ vs dd (OE.none_of (by rw[<-l];show rel.val k)) (h _ (I.tok _)))
def Lx {Q:Υ->η->Prop}(I:Inv X pins σ H s)(e:Rd H a (.dK ϓ))(h:∀t s',Inv X pins σ H s'->Q (.int ϓ.4 t) s'):wpAny X.mo A (call (.builtin "len") [.ref a]) Q E s:=by
 (show sw (mq I.lu e) λz hd=>ϭ λvs rel dd=>?_);show call_len_dict hd dd (by rw[<-rel.4];rw[OD] at z;lk) ?_;rw[<-rel.4];show h _ _ (I.tok _)
end
def wI (I:Inv X pins σ H s)(g:MG H a y o):s.TypeIs (.ref a) "dict":=by
 rcases g with⟨ϓ,k,e,_,_⟩ | ⟨ϓ,k,b,e,_,_,_⟩
 ·(show sw (mq I.lu e) λ_ _=>ϭ λvs _ dd=>?_)
  show dd.33
 ·(show sw (oR I.lu e) λ_ _=>ϭ λxs _ dd=>?_)
  show dd.33
def wJ (h:be)(hb:sysModules < h.7):Na P w H (h.push { cls:=.type "dict",data:=.dict #[] }) h.7 (.dK []):=
 ⟨Ϡ _,Np.mpr (ψ (Ϧ hb)),(Λ ([]) (.nil) (alR h))⟩
abbrev agV:TE:=λ_ H Q=>∀p,H p=none->Q (.ref p) (upd H p (.dK []))
section
variable {X:Cx} 
def dC:PE X (.Dict [] [] pos) agV:=λpins s σ H Q I h=>
 wpAny_Dict_empty (ϕ (.ref s.5) _ (I.laid (λ_ _ q=>Τ _ q) (δ _) (wJ s.8 I.big)) rfl (h _ (I.lu.fresh (δ _))))
end
abbrev Zq:-(TE×TE)->St->Hp->(-(V×V)->Hp->Prop)->Prop
 | [],_,H,Q=>Q [] H
 | (tk,tv)::r,σ,H,Q=>tk σ H λx H1=>tv σ H1 λy H2=>Zq r σ H2 λps H3=>Q ((x,y)::ps) H3
theorem VV:-(V×V)->-(Υ×Υ)->Prop:=Paired λp q=>RelV p.1 q.1/\RelV p.2 q.2
abbrev PPs (X:Cx)(pos:Pos)(keys:-(Option tz))(values:-tz)(trs:-(TE×TE)):Prop:=
 ∀pins s σ H Q,Inv X pins σ H s->Zq trs σ H Q->
  wpAny X.mo X.A (evalPairs (pairTrees keys values X.9 pos)) (λvs s'=>∃ps H',Inv X pins σ H' s'/\VV ps vs/\Q ps H') X.xe s
def vh :PPs X pos [] [] []:=λpins s σ H Q I h=>pairTrees_nil_walk (ϕ ([]) H I (.nil) h)
def dD {vs:-tz}{tk:TE}(hk:PE X k tk)(hv:PE X v tv)(hr:PPs X pos ks vs trs) :
  PPs X pos (some k::ks) (v::vs) ((tk,tv)::trs):=λpins s σ H Q I h=>
 pairTrees_cons_walk (L8 (hk pins s σ H _ I h) λu s1 x H1 I1 rx q1=>L8 (hv pins s1 σ H1 _ I1 q1) λw2 s2 y H2 I2 ry q2=>
  No (hr pins s2 σ H2 _ I2 q2) λws s3 zz=>Nm zz λps H3 I3 rel q3=>(ϕ ((x,y)::ps) H3 I3 (.cons ⟨rx,ry⟩ rel) q3))
abbrev Pp (ϓ more:-(Key×V)):-(Key×V):=more.foldl (λacc kv=>putK acc kv.1 kv.2) ϓ
def KV.merge:∀{more:-(Key×V)} {rs:-(Key×Υ)} {ϓ:-(Key×V)} {vs:-(Key×Υ)},KV more rs->KV ϓ vs->KV (Pp ϓ more) (merged vs rs):=by
 intro more rs ϓ vs r
 induction r generalizing ϓ vs with
 | nil=>intro q;show q
 | @cons p q ps qs h t ih=>
  intro r0;let e:KV (putK ϓ p.1 p.2) (stored vs q.1 q.2):=by
   have:=r0.put p.1 h.2;rw[<-h.1];show this
  show ih e
def kF:∀(more ϓ:-(Key×V)),(Pp ϓ more).4<=ϓ.4+more.4
 | [],ϓ=>by show ϓ.4<=ϓ.4+0;lk
 | p::r,ϓ=>by
  let h1:=kF r (putK ϓ p.1 p.2);let h2:=bP ϓ p.1 p.2;show(Pp (putK ϓ p.1 p.2) r).4<=_;rw[ς];lk
def qF {P:ϯ}{w:J'}:∀{ϓ:-(Key×V)} {ws:-(Υ×Υ)},VV (ϓ.map λkv=>(kV kv.1,kv.2)) ws->∃rs,Carries (ww P w) ws rs/\KV ϓ rs
 | [],_,r=>by rw[Po] at r;cases r;show(Λ ([]) FS (.nil))
 | p::ϓ,_,r=>by
  rw[Ϗ] at r;cases r with
  | @cons a b as bs h t=>
   (show ι (qF (P:=P) (w:=w) t) λrs c q=>?_);obtain⟨b1,b2⟩:=b;show(Λ ((p.1,b2)::rs) ⟨jm h.1,rfl,c⟩ (.cons ⟨rfl,h.2⟩ q))
abbrev ajM (trs:-(TE×TE)):TE:=λσ H Q=>∀p,H p=none->Zq trs σ (upd H p (.dK [])) λps H2=>H2 p=!.dK []/\∃ϓ,ps=ϓ.map (λkv=>(kV kv.1,kv.2))/\ϓ.4<=15/\Q (.ref p) (upd H2 p (.dK (Pp [] ϓ)))
def vi (h:PPs X pos keys values trs)(Zp:keys.all (·.isSome)=true)(hl:keys.4=values.4)(h0:keys≠[])
  (h15:keys.4<=15):PE X (.Dict keys values pos) (ajM trs):=by
 intro pins s σ H Q I q;show wpAny_Dict_walk (knd:=ww X.24 X.w) Zp hl h0 h15 (No (h pins _ σ _ _ (I.laid (λ_ _ q=>Τ _ q) (δ _) (wJ s.8 I.big)) (q _ (I.lu.fresh (δ s.5)))) λws s2 zz=>RA zz λps H2 I2 rel e=>Nq λϓ ep lk q2=>?_);subst ep;(show ι (qF (P:=X.24) (w:=X.w) rel) λrs c rk=>?_);(show sw (A6 I2.lu e) λz hd=>ϭ λvs0 r0 dd=>?_);cases r0;show(ϡ rs c dd (λh' dd' hs=>(ϕ (.ref s.5) _ ?_ rfl q2)));let hz:(Pp [] ϓ).4<=sizeLine:=by
  let h1:=kF ϓ [];rw[ϸ] at h1;rw[OD];lk
 let he:∃q,h'.get? s.5=!q:=let ⟨q,_,_,hq,_⟩:=dd';⟨q,hq⟩;show qj I2 (by rw[e];show FS) hs he (yQ hz hd (rk.merge .nil) dd')
structure M1 (X:Cx)(o:tz)(m:Str)(apos:Pos)(e:tz)(MP:Pos):Prop where
 base:attributeBase o m X.9 (eval o X.9)=eval o X.9
 few:((backTo MP (starEach [e] X.9)).all (λx=>!((x.1))) && (backToKw MP (keywordEach [] X.9)).all (λx=>x.1.12)
  && decide (([e]:-tz).4+([]:-Qo).4+(if ([]:-Qo).49 then 0 else 1) < 30))=true
 line:(apos.64 == MP.53)=true
 trees:backTo MP (starEach [e] X.9)=[(false,eval e X.9)]
structure M2 (X:Cx)(o:tz)(m:Str)(apos:Pos)(e f:tz)(MP:Pos):Prop where
 base:attributeBase o m X.9 (eval o X.9)=eval o X.9
 few:((backTo MP (starEach [e,f] X.9)).all (λx=>!((x.1))) && (backToKw MP (keywordEach [] X.9)).all (λx=>x.1.12)
  && decide (([e,f]:-tz).4+([]:-Qo).4+(if ([]:-Qo).49 then 0 else 1) < 30))=true
 line:(apos.64 == MP.53)=true
 trees:backTo MP (starEach [e,f] X.9)=[(false,eval e X.9),(false,eval f X.9)]
abbrev IsD (H:Hp)(a:Ι):Prop:=(∃ϓ,Rd H a (.dK ϓ))\/∃ϓ,Rd H a (.dT ϓ)
def vj (I:Inv X pins σ H s)(d:IsD H a) :
  s.TypeIs (.ref a) "dict" /\ (∀b,ϫ a=.ref b->∃ob,s.heap.get? b=!ob/\ob.51=none)/\(a == sysModules)=false:=by
 rcases d with⟨ϓ,e⟩ | ⟨ϓ,e⟩
 ·(show sw (mq I.lu e) λ_ hd=>ϭ λvs _ dd=>?_)
  show⟨dd.33,λb q=>?_,hd⟩;cases q;(revert dd;show Rx λob _ _ h1 h2 _=>?_);show(Λ ob h1 h2.2.1)
 ·(show sw (oR I.lu e) λ_ hd=>ϭ λxs _ dd=>?_)
  show⟨dd.33,λb q=>?_,hd⟩;cases q;(revert dd;show Rx λob _ _ h1 h2 _=>?_);show(Λ ob h1 h2.2.1)
section
variable {X:Cx} {s:η} {d:V} {r:Υ} {o:Option V}  
def JK {Q:Υ->η->Prop}(hu:A.23+1 < cLine)(I:Inv X pins σ H s)(g:MG H a y o)(ry:RelV y u)(h:∀w' s',Inv X pins σ H s'->RelV (o.getD .k4) w'->Q w' s') :
  wpAny X.mo A (call (.builtin "dict.get") [.ref a,u]) Q E s:=by
 rcases g with⟨ϓ,k,e,ey,l⟩ | ⟨ϓ,k,b,e,ey,eb,l⟩
 ·subst ey
  (show sw (mq I.lu e) λz hd=>ϭ λvs rel dd=>?_);show Qr PySem.F.slot_dict_get dd.33 PySem.F.entry_dict_get (PySem.F.args_dict_get_2 _ _) (meets_dict_get (ww X.24 X.w) a (jm ry) hd) (Λ _ dd.mapOf (h _ _ (I.tok _) ?_));rw[l];show(rel.val k).getD rfl
 ·subst ey
  cases (ry);(show sw (oR I.lu e) λz hd=>ϭ λxs rel dd=>?_);show Qr PySem.F.slot_dict_get dd.33 PySem.F.entry_dict_get (PySem.F.args_dict_get_2 _ _) (meetsH_dict_get (tupleKind (ww X.24 X.w)) a b hd) ⟨Nn hu,(ϕ k xs (k9 I.lu eb) dd (h _ _ (I.tok _) ?_))⟩;rw[l];show(rel.val k).getD rfl
def JL {Q:Υ->η->Prop}(hu:A.23+1 < cLine)(I:Inv X pins σ H s)(g:MG H a y o)(ry:RelV y u)(rd:RelV d r)(h:∀w' s',Inv X pins σ H s'->RelV (o.getD d) w'->Q w' s') :
  wpAny X.mo A (call (.builtin "dict.get") [.ref a,u,r]) Q E s:=by
 rcases g with⟨ϓ,k,e,ey,l⟩ | ⟨ϓ,k,b,e,ey,eb,l⟩
 ·subst ey
  (show sw (mq I.lu e) λz hd=>ϭ λvs rel dd=>?_);show Qr PySem.F.slot_dict_get dd.33 PySem.F.entry_dict_get (PySem.F.args_dict_get_3 _ _ _) (meets_dict_get_default (ww X.24 X.w) a (jm ry) hd r) (Λ _ dd.mapOf (h _ _ (I.tok _) ?_));rw[l];show(rel.val k).getD rd
 ·subst ey
  cases (ry);(show sw (oR I.lu e) λz hd=>ϭ λxs rel dd=>?_);show Qr PySem.F.slot_dict_get dd.33 PySem.F.entry_dict_get (PySem.F.args_dict_get_3 _ _ _) (meetsH_dict_get_default (tupleKind (ww X.24 X.w)) a b hd r) ⟨Nn hu,(ϕ k xs (k9 I.lu eb) dd (h _ _ (I.tok _) ?_))⟩;rw[l];show(rel.val k).getD rd
end
abbrev agX (td ty:TE):TE:=λσ H Q=>td σ H λx H1=>∃a,x=.ref a/\IsD H1 a/\ty σ H1 λy H2=>∃o,MG H2 a y o/\Q (o.getD .k4) H2
abbrev agY (td ty tx:TE):TE:=λσ H Q=>td σ H λx H1=>∃a,x=.ref a/\IsD H1 a/\ty σ H1 λy H2=>tx σ H2 λz H3=>∃o,MG H3 a y o/\Q (o.getD z) H3
abbrev agZ (td ty:TE):TE:=λσ H Q=>td σ H λx H1=>∃a,x=.ref a/\IsD H1 a/\ty σ H1 λy H2=>∃ϓ k v,H2 a=!.dK ϓ/\y=kV k/\lc ϓ k=!v/\Q v (upd H2 a (.dK (Og ϓ k)))
abbrev ag0 (td ty tx:TE):TE:=λσ H Q=>td σ H λx H1=>∃a,x=.ref a/\IsD H1 a/\ty σ H1 λy H2=>tx σ H2 λz H3=>∃ϓ k,H3 a=!.dK ϓ/\y=kV k/\
 (∀v,lc ϓ k=!v->Q v (upd H3 a (.dK (Og ϓ k))))/\(lc ϓ k=none->Q z H3)
section
variable {X:Cx} {o f:tz} {ty tx:TE}
def Fc (hu:X.A.23+1 < cLine)(ho:PE X o td)(he:PE X e ty)(m:M1 X o "get" apos e MP):PE X (.Call (.Attribute o "get" apos) [e] [] MP) (agX td ty):=by
 intro pins s σ H Q I h;show Q8 m.50 m.few m.53 PySem.F.plainAttrs_dict PySem.F.slot_dict_get PySem.F.type_dict_get (No (ho pins s σ H _ I h) λu s1 zz=>Nm zz λx H1 I1 rx=>Nq λa ex d q1=>?_);subst ex;obtain rfl:u=ϫ a:=rx;(show sw (vj I1 d) λt1 t2 _=>?_);show⟨t1,t2,?_⟩;rw[m.trees];show xL rfl (MK (Ϻ (No (he pins s1 σ H1 _ I1 q1) λiv s2 zz=>Nm zz λy H2 I2 ry=>ϭ λov g q2=>pr (JK hu I2 g ry λw' s3 I3 US=>(ϕ _ H2 I3 US q2)))))
def qG (hu:X.A.23+1 < cLine)(ho:PE X o td)(he:PE X e ty)(hf:PE X f tx)(m:M2 X o "get" apos e f MP):PE X (.Call (.Attribute o "get" apos) [e,f] [] MP) (agY td ty tx):=by
 intro pins s σ H Q I h;show Q8 m.50 m.few m.53 PySem.F.plainAttrs_dict PySem.F.slot_dict_get PySem.F.type_dict_get (No (ho pins s σ H _ I h) λu s1 zz=>Nm zz λx H1 I1 rx=>Nq λa ex d q1=>?_);subst ex;obtain rfl:u=ϫ a:=rx;(show sw (vj I1 d) λt1 t2 _=>?_);show⟨t1,t2,?_⟩;rw[m.trees]
 show xL rfl (MK (Ϻ (L8 (he pins s1 σ H1 _ I1 q1) λiv s2 y H2 I2 ry q2=>
  Ϻ (No (hf pins s2 σ H2 _ I2 q2) λfv s3 zz=>Nm zz λz H3 I3 rz=>ϭ λov g q3=>pr ?_))))
 show JL hu I3 g ry rz λw' s4 I4 US=>(ϕ _ H3 I4 US q3)
def Fd (ho:PE X o td)(he:PE X e ty)(m:M1 X o "pop" apos e MP):PE X (.Call (.Attribute o "pop" apos) [e] [] MP) (agZ td ty):=by
 intro pins s σ H Q I h;show Q8 m.50 m.few m.53 PySem.F.plainAttrs_dict PySem.F.slot_dict_pop PySem.F.type_dict_pop (No (ho pins s σ H _ I h) λu s1 zz=>Nm zz λx H1 I1 rx=>Nq λa ex d q1=>?_);subst ex;obtain rfl:u=ϫ a:=rx;(show sw (vj I1 d) λt1 t2 _=>?_);show⟨t1,t2,?_⟩;rw[m.trees];show xL rfl (MK (Ϻ (No (he pins s1 σ H1 _ I1 q1) λiv s2 zz=>Nm zz λy H2 I2 ry=>Yp λϓ k v ea ey l q2=>pr ?_)));subst ey;show IM I2 ea ry l (.inl rfl) λw' s3 I3 US=>(ϕ v _ I3 US q2)
def Fe (ho:PE X o td)(he:PE X e ty)(hf:PE X f tx)(m:M2 X o "pop" apos e f MP):PE X (.Call (.Attribute o "pop" apos) [e,f] [] MP) (ag0 td ty tx):=by
 intro pins s σ H Q I h;show Q8 m.50 m.few m.53 PySem.F.plainAttrs_dict PySem.F.slot_dict_pop PySem.F.type_dict_pop (No (ho pins s σ H _ I h) λu s1 zz=>Nm zz λx H1 I1 rx=>Nq λa ex d q1=>?_);subst ex;obtain rfl:u=ϫ a:=rx;(show sw (vj I1 d) λt1 t2 _=>?_);show⟨t1,t2,?_⟩;rw[m.trees]
 show xL rfl (MK (Ϻ (L8 (he pins s1 σ H1 _ I1 q1) λiv s2 y H2 I2 ry q2=>
  Ϻ (No (hf pins s2 σ H2 _ I2 q2) λfv s3 zz=>Nm zz λz H3 I3 rz=>P9 λϓ k ea ey q3 q4=>pr ?_))))
 subst ey;cases l:lc ϓ k with
 | some v=>show IM I3 ea ry l (.inr ⟨fv,rfl⟩) λw' s4 I4 US=>(ϕ v _ I4 US (q3 v l))
 | none=>show JJ I3 ea ry l λs4 I4=>(ϕ z H3 I4 rz (q4 l))
end
end
section
open PySem PySem.Spec PyProof.Rows
section
variable {X:Cx}
def BY:MF X (.builtin "len") (λxs H Q=>∃a ϓ,xs=[V.ref a]/\H a=!.dK ϓ/\Q (.int ϓ.4) H):=by
 intro pins s σ H xs us Q I r h;(revert h;show MM λa ϓ μ ha q=>?_;subst μ);(show ι (vals1 r) λu μ ru=>?_;subst μ);cases ru;show Lx I (.inl ha) λt s' I'=>(ϕ (.int ϓ.4) H I' ⟨t,rfl⟩ q)
end
section
variable [DecidableEq κ]
def BZ {p:κ×V}{r:-(κ×V)}(e:p.1=k):Og (p::r) k=Og r k:=by
 unfold Og;rw[NG,Φ (by simp[e])]
def B0 {p:κ×V}{r:-(κ×V)}(e:¬p.1=k):Og (p::r) k=p::Og r k:=by
 unfold Og;rw[NG,γ (by simp[e])]
end
abbrev wP (cells:-(Str×Ι)):-(Str×MJ)->-(Str×Ι)->-(Str×Ι)
 | [],cs=>cs
 | (n,k)::r,cs=>if k=ac then(match cells.lookup n with | some a=>wP cells r ((n,a)::cs) | none=>wP cells r cs) else wP cells r cs
def oS {env:Env}:∀(names:-(Str×MJ)) (cs:-(Str×Ι)),(∀y∈names,y.2=ac->∃c,env.cells.lookup y.1=!c)->
  (forIn names cs λ(x:Str×MJ) r=>match x with
   | (name,kind)=>if (kind == ac)=true then do let a <-cellOf env name;pure (NH ((name,a)::r)) else pure (NH r))=(pure (wP env.65 names cs):Sem (-(Str×Ι)))
 | [],cs,_=>rfl
 | (n,k)::r,cs,h=>by
  let ih:=λcs'=>oS (env:=env) r cs' λy hy=>h y (θ _ hy);rw[List.forIn_cons]
  by_cases hk:k=ac
  ·obtain⟨c,hc⟩:=h (n,k) ϳ hk
   let Yf:env.cells.lookup n=!c:=hc;let W4:cellOf env n=pure c:=by unfold cellOf;rw[Yf]
   let e1:wP env.65 ((n,k)::r) cs=wP env.65 r ((n,c)::cs):=by
    rw[wP,γ hk,Yf]
   rw[e1,<-ih ((n,c)::cs)];subst hk;dsimp only;rw[W4];rfl
  ·let hb:(k == ac)=false:=by simpa using hk
   let e1:wP env.65 ((n,k)::r) cs=wP env.65 r cs:=by
    rw[wP,Φ hk]
   rw[e1,<-ih cs];dsimp only;rw[hb];rfl
def iB (h:∀y∈scope.31,y.2=ac->∃c,env.cells.lookup y.1=!c):closureFor scope env=pure (wP env.65 scope.31 []):=by
 show(congrArg (λt:Sem (-(Str×Ι))=>t >>= λs=>pure s) (oS scope.31 [] h)).trans rfl
def bG:∀(names:-(Str×MJ)) (cs:-(Str×Ι)),(∀x c,cs.lookup x=!c->cells.lookup x=!c)->∀x c,(wP cells names cs).lookup x=!c->cells.lookup x=!c
 | [],cs,h,x,c,e=>h x c e
 | (n,k)::r,cs,h,x,c,e=>by
  by_cases hk:k=ac
  ·cases q:cells.lookup n with
   | none=>
    rw[wP,γ hk,q] at e;show bG r cs h x c e
   | some a=>
    rw[wP,γ hk,q] at e;show bG r _ (λy d z=>?_) x c e;rw[ϴ] at z
    by_cases hy:(y == n)=true
    ·rw[hy] at z
     let hy':y=n:=by simpa using hy
     subst hy';show q.trans z
    ·let hy':(y == n)=false:=by simpa using hy
     rw[hy'] at z;show h y d z
  ·rw[wP,Φ hk] at e
   show bG r cs h x c e
def gp:∀(names:-(Str×MJ)) (cs:-(Str×Ι)) (x:Str),(cs.lookup x).12=true->((wP cells names cs).lookup x).12=true
 | [],cs,x,h=>h
 | (n,k)::r,cs,x,h=>by
  by_cases hk:k=ac
  ·cases q:cells.lookup n with
   | none=>rw[wP,γ hk,q];show gp r cs x h
   | some a=>
    rw[wP,γ hk,q];show gp r _ x ?_;rw[ϴ];cases hy:x == n with
    | true=>rfl
    | false=>show h
  ·rw[wP,Φ hk];show gp r cs x h
def fI:∀(names:-(Str×MJ)) (cs:-(Str×Ι)) (x:Str),(x,ac)∈names->(cells.lookup x).12=true->((wP cells names cs).lookup x).12=true
 | [],cs,x,h,_=>by simp at h
 | (n,k)::r,cs,x,h,hc=>by
  rcases Κ.mp h with e | e
  ·cases e
   obtain⟨c,Yf⟩:=db.mp hc;rw[wP,γ rfl,Yf];show gp r _ _ ?_;rw[ϴ,beq_self_eq_true];rfl
  ·by_cases hk:k=ac
   ·cases q:cells.lookup n with
    | none=>rw[wP,γ hk,q];show fI r cs x e hc
    | some a=>rw[wP,γ hk,q];show fI r _ x e hc
   ·rw[wP,Φ hk];show fI r cs x e hc
def lookup_mem:∀{l:-(Str×α)} {x:Str} {a:α},l.lookup x=!a->(x,a)∈l
 | [],x,a,h=>by simp at h
 | (n,k)::r,x,a,h=>by
  rw[ϴ] at h;cases hx:x == n with
  | true=>
   rw[hx] at h;let e:x=n:=by simpa using hx
   subst e;cases h;show ϳ
  | false=>
   rw[hx] at h;show θ _ (lookup_mem h)
def cN:∀(names:-(Str×MJ)) (x:Str) (k:MJ),
  (names.map λ(p:Str×MJ)=>match p with | (n,k)=>if (k == ac && env.27 == .function && env.kindOf n == some .cell) then(n,Vp) else(n,k)).lookup x=!k->
   names.lookup x=!k\/(k=.cell/\names.lookup x=!.free)
 | [],x,k,h=>by simp at h
 | (n,k₀)::r,x,k,h=>by
  rw[Ϗ] at h;dsimp only at h;cases hx:x == n with
  | true=>
   rw[ϴ,hx]
   by_cases hc:(k₀ == ac && env.27 == .function && env.kindOf n == some .cell)=true
   ·rw[γ hc,ϴ,hx] at h
    cases h;have:k₀=.free:=by
     simp only[io] at hc;simpa using hc.1.1
    subst this;show .inr ⟨rfl,rfl⟩
   ·rw[Φ hc,ϴ,hx] at h
    show .inl h
  | false=>
   rw[ϴ,hx]
   by_cases hc:(k₀ == ac && env.27 == .function && env.kindOf n == some .cell)=true
   ·rw[γ hc,ϴ,hx] at h
    show cN r x k h
   ·rw[Φ hc,ϴ,hx] at h
    show cN r x k h
def iC:∀(names:-(Str×MJ)) (x:Str),names.lookup x=!.free->
  (names.map λ(p:Str×MJ)=>match p with | (n,k)=>if (k == ac && env.27 == .function && env.kindOf n == some .cell) then(n,Vp) else(n,k)).lookup x=!.free\/
  (names.map λ(p:Str×MJ)=>match p with | (n,k)=>if (k == ac && env.27 == .function && env.kindOf n == some .cell) then(n,Vp) else(n,k)).lookup x=!.cell
 | [],x,h=>by simp at h
 | (n,k₀)::r,x,h=>by
  rw[Ϗ];dsimp only;cases hx:x == n with
  | true=>
   rw[ϴ,hx] at h;cases h
   by_cases hc:(ac == ac && env.27 == .function && env.kindOf n == some .cell)=true
   ·rw[γ hc,ϴ,hx]
    show .inr rfl
   ·rw[Φ hc,ϴ,hx]
    show .inl rfl
  | false=>
   rw[ϴ,hx] at h
   by_cases hc:(k₀ == ac && env.27 == .function && env.kindOf n == some .cell)=true
   ·rw[γ hc,ϴ,hx]
    show iC r x h
   ·rw[Φ hc,ϴ,hx]
    show iC r x h
abbrev afJ (x y:Str):Str:=if y=x then U' else y
theorem blk (X:Cx)(x:Str)(scope:QI)(M:-Str)(C:Ι)(s₀:η)(H₀:Hp)(fp:-Ι):Cx:=
 { X with N:=x::M,s₀:=s₀,H₀:=H₀,env:=compEnvC scope (wP X.env.65 scope.31 []) C X.9,outer:=X.20,stack:=X.20,ex:=fp,fn:=λ_=>false,pn:=[],xe:=λ_ _=>False }
structure Vz (N M:-Str)(sc:QI)(x:Str)(scope:QI):Prop where
 kind:scope.62=.function
 cell:∀y∈scope.31,y.2≠.cell
 names:∀y∈scope.31,y.2=.local->scope.names.lookup y.1=!.local
 own:scope.names.lookup x=!.local
 free:∀y∈scope.31,y.2=.free->sc.names.lookup y.1=!.cell\/sc.names.lookup y.1=!.free
 hid:N.map (afJ x)=M
 nd:(x::M).14
 others:∀y∈M,scope.names.lookup y≠!.local
 void:scope.names.lookup U'=none
abbrev Yy (wi:TI)(tt:TT)(te:TE):TE:=λσ H Q=>wi σ H λJ H1=>∀D,H1 D=none->∃W:Nat->Nat->-V->Hp->Prop,(∃m,W 0 m [] (upd H1 D (.lst [])))/\∀i m ys H2,W i m ys H2->
 (J.stop i H2/\H2 D=!.lst ys/\Q (.ref D) H2)\/(J.go i H2/\ys.4 < sizeLine/\∀x H3,J.Zh i H2 x H3->tt (some x::σ) H3 λb H4=>
  if b=true then te (some x::σ) H4 λy H5=>H5 D=!.lst ys/\∃m',m' < m/\W (i+1) m' (ys++[y]) (upd H5 D (.lst (ys++[y]))) else ∃m',m' < m/\W (i+1) m' ys H4)
abbrev UT:TT:=λ_ H Q=>Q true H
section
variable {R:abQ->η->Prop} {s:η}
def wK {it acc:Υ}(Jv:Nat->η->Prop)
  (turn:∀n s,Jv n s->wpAny (model prog w) A (pyNext it) (λr s₁=>match r with
   | none=>R (.ok .next) s₁
   | some v=>wpAny (model prog w) A (letOwnedTupleGo target it v) (λ_ s₀=>wpAny (model prog w) A (assign target env v) (λ_ s₂=>
     wpAny (model prog w) A (forIn ifs true λc r=>if r=true then do let ok <-isTrue c env (eval c env);pure (NH ok) else pure (NH r)) (λok s₃=>
      if ok=true then wpAny (model prog w) A (eval elt env) (λx s₄=>wpAny (model prog w) A (call (.builtin "list.append") [acc,x]) (λ_ s₅=>∃m,m < n/\Jv m s₅) (λ_ _=>False) s₄) (λ_ _=>False) s₃
      else ∃m,m < n/\Jv m s₃) (λ_ _=>False) s₂) (λ_ _=>False) s₀) (λ_ _=>False) s₁) (λ_ _=>False) s)
  (n:Nat) (h:Jv n s):codeAny (model prog w) A (.compLoop (.ListComp elt [⟨target,iter,ifs,0⟩] scope pos) 0 it acc env) R s:=by
 let no:∀{α:Type} {t:Sem α} {Q:α->η->Prop} {E:Υ->η->Prop} {s':η},wpAny (model prog w) A t Q (λ_ _=>False) s'->wpAny (model prog w) A t Q E s':=λh=>lw h (λ_ _ q=>q) λ_ _ f=>f.36;show codeAny_loop rfl Jv (λn s hI=>wpAny_noted ?_) n h;show Ν (Ou (Ν (No (no (turn n s hI)) λr s₁ h₁=>?_)));cases r with
 | none=>show ύ h₁
 | some v=>
  show Ν (No (no h₁) λ_ s₀ h₀=>Ν (No (no h₀) λ_ s₂ h₂=>Ν (No (no h₂) λok s₃ h₃=>?_)));cases ok with
  | false=>show ύ ⟨rfl,h₃⟩
  | true=>show Ν (Ν (No (no h₃) λx s₄ h₄=>Ν (No (no h₄) λ_ s₅ h₅=>ύ (ύ ⟨rfl,h₅⟩))))
end
abbrev acF (xs:-Str)(y:Str):Str:=if y∈xs then U' else y
theorem Qf (X:Cx)(xs:-Str)(scope:QI)(M:-Str)(C:Ι)(s₀:η)(H₀:Hp)(fp:-Ι):Cx:=
 { X with N:=xs++M,s₀:=s₀,H₀:=H₀,env:=compEnvC scope (wP X.env.65 scope.31 []) C X.9,outer:=X.20,stack:=X.20,ex:=fp,fn:=λ_=>false,pn:=[],xe:=λ_ _=>False }
structure P1 (N M:-Str)(sc:QI)(xs:-Str)(scope:QI):Prop where
 kind:scope.62=.function
 cell:∀y∈scope.31,y.2≠.cell
 names:∀y∈scope.31,y.2=.local->scope.names.lookup y.1=!.local
 free:∀y∈scope.31,y.2=.free->sc.names.lookup y.1=!.cell\/sc.names.lookup y.1=!.free
 hid:N.map (acF xs)=M
 others:∀y∈M,scope.names.lookup y≠!.local
 void:scope.names.lookup U'=none
abbrev VA (n:Nat)(wi:TI)(g:TG)(tt:TT)(te:TE):TE:=λσ H Q=>wi σ H λJ H1=>∀D,H1 D=none->∃W:Nat->Nat->-V->Hp->Prop,(∃m,W 0 m [] (upd H1 D (.lst [])))/\∀i m ys H2,W i m ys H2->
 (J.stop i H2/\H2 D=!.lst ys/\Q (.ref D) H2)\/(J.go i H2/\ys.4 < sizeLine/\∀x H3,J.Zh i H2 x H3->∀o,o.4=n->g x (o++σ) H3 λσ' H3'=>(∃o',o'.4=n/\σ'=o'++σ)/\tt σ' H3' λb H4=>
  if b=true then te σ' H4 λy H5=>H5 D=!.lst ys/\∃m',m' < m/\W (i+1) m' (ys++[y]) (upd H5 D (.lst (ys++[y]))) else ∃m',m' < m/\W (i+1) m' ys H4)
section
variable {X:Cx} {s2:η} 
def Hj {N M:-Str}{xs:-Str}{s:η}(I:Inv X pins σ H s)(TF:X.15=sc)(O:P1 N M sc xs scope)(hC:s.5<=C)
  (hf:∀b∈fp,Rk X pins H b) (OM:∀b∈fp,b < s.5):(Qf X xs scope M C s H fp).Ok where
 mod:=I.95
 kind:=O.62
 glob:=I.91
 blt:=I.ok.blt
 above:=hC
 inj:=λy z c e1 e2=>I.ok.inj y z c (bG _ _ (λ_ _ z=>by simp at z) _ _ e1) (bG _ _ (λ_ _ z=>by simp at z) _ _ e2)
 has:=λy hy=>by
  let q:scope.names.lookup y=!.free:=by
   rcases hy with hy | hy
   ·rcases cN _ _ _ hy with z | ⟨_,z⟩
    ·show absurd rfl (O.cell _ (lookup_mem z))
    ·show z
   ·rcases cN _ _ _ hy with z | ⟨z,_⟩
    ·show z
    ·cases z
  let q2:=O.free _ (lookup_mem q) rfl;rw[<-TF] at q2;obtain⟨c,hc⟩:=I.ok.has y q2;show db.mp (fI _ _ _ (lookup_mem q) (by rw[hc];rfl))
 cab:=λy c h=>by cases h
 hd:=I.ok.hd
 frames:=I.ok.32
 stk:=.inl rfl
 exf:=λb hb=>⟨Ϧ (Ϥ (OM b hb) hC),λy c e=>(hf b hb).2.2.2.2.1 y c (bG _ _ (λ_ _ z=>by simp at z) _ _ e)⟩
 bs:=I.bs
 bsz:=ο I.97 I.sz
 Yv:=λb o e hb=>by
  rcases(hf b hb).2.2.2.1 with z | z
  ·show I.ok.Yv b o e z
  ·show absurd (Ϥ (π (I.ok.bs b o e).1) z) (Nj _)
 aaP:=λb hb z=>by
  (show acm (hf b hb) λ_ f1 f2 _=>?_);show(Κ.mp (I.Vv b z)).elim f1 f2
 Ss:=I.20
 frf:=I.Xw
def Ff {N M:-Str}{xs:-Str}{s:η}{h':be}(I:Inv X pins σ H s)(hX:X.N=N)(TF:X.15=sc)(O:P1 N M sc xs scope)
  (hf:∀b∈fp,Rk X pins H b) (OM:∀b∈fp,b < s.5) {m:Str->Option Υ} (hns:h'.Ns s.5 m) (k:∀b u,s.heap.get? b=!u->h'.get? b=!u) :
  Inv (Qf X xs scope M s.5 s H fp) [] (τ xs.4 none++σ) H { s with heap:=h',toks:=tk } where
 ok:=Hj I TF O (δ _) hf OM
 os:=rfl
 bare:=I.46
 base:=Un.kept k
 loc:=by
  show(Λ m hns (λj y v e1 e2 e3=>?_))
  by_cases hj:j < xs.4
  ·rw[ϙ (by simpa using hj),QN,γ hj] at e2
   cases e2
  ·obtain⟨i,rfl⟩:∃i,j=xs.4+i:=⟨j - xs.4,()⟩
   let e1':M[i]?=!y:=by
    have:=e1;rw[ϥ ()] at this;simpa using this
   let e2':σ[i]?=!some v:=by
    rw[ϥ ∅] at e2;simpa using e2
   let Uv:scope.names.lookup y=!.free:=by
    rcases e3 with e3 | e3 | e3
    ·rcases cN _ _ _ e3 with z | ⟨z,_⟩
     ·show absurd z (O.others y (Δ e1'))
     ·cases z
    ·rcases cN _ _ _ e3 with z | ⟨_,z⟩
     ·show absurd rfl (O.cell _ (lookup_mem z))
     ·show z
    ·rcases cN _ _ _ e3 with z | ⟨z,_⟩
     ·show z
     ·cases z
   let hN:X.N[i]?=!y:=by
    rw[hX];rw[<-O.hid,Ρ] at e1';cases q:N[i]? with
    | none=>rw[q] at e1';cases e1'
    | some z=>
     rw[q] at e1';let e4:=Ϭ e1';unfold acF at e4
     by_cases hz:z∈xs
     ·rw[γ hz] at e4
      rw[<-e4,O.void] at Uv;cases Uv
     ·rw[Φ hz] at e4
      rw[e4]
   let q2:=O.free _ (lookup_mem Uv) rfl;rw[<-TF] at q2;let an1:Vis X.15 y:=q2.elim (λz=>.inr (.inl z)) λz=>.inr (.inr z);(show ι I.87 λm0 hn0 hl=>?_);(show ι (hl i y v hN e2' an1) λu r l=>?_);show(Λ u r ?_);rcases l with⟨l,_⟩ | ⟨l,c,hc,z⟩
   ·exfalso
    let l':X.env.scope.names.lookup y=!.local:=l;rcases q2 with q2 | q2
    ·let q2':=q2
     rw[l'] at q2';cases q2'
    ·let q2':=q2
     rw[l'] at q2';cases q2'
   ·let ajR:=fI scope.31 [] y (lookup_mem Uv) (by rw[hc];rfl)
    obtain⟨c',Yf⟩:=db.mp ajR;let e5:=bG _ _ (λ_ _ z=>by simp at z) _ _ Yf;rw[hc] at e5;cases e5;(revert z;show ϭ λo ho hd=>?_);show .inr ⟨?_,(Λ c Yf (Λ o (k c o ho) hd))⟩;rcases iC _ _ Uv with z | z
    ·show .inr z
    ·show .inl z
 cell:=λy c e=>by
  (show Rh (I.cell y c (bG _ _ (λ_ _ z=>by simp at z) _ _ e)) λv o ho hd=>?_);show(cr v o (k c o ho) hd)
 free:=I.lu.fresh (δ _)
 P0:=λy c e=>I.P0 y c (bG _ _ (λ_ _ z=>by simp at z) _ _ e)
 pin:=λp hp=>by simp at hp
 lu:=I.lu.kept k
 len:=by
  let e:N.4=M.4:=by rw[<-O.hid,Θ]
  rw[Χ,jp,Χ];rw[I.25,hX,e]
variable {xs:-Str} {g:TG} {N M:-Str} {it:Ι} {tn:Nat->be->Prop} 
theorem HtA (X:Cx)(Y:Ι->η->Hp->-Ι->Cx)(ifs:-tz)(tt:TT):Prop:=∀C s₀ H₀ fp pins s σ H Q,Inv (Y C s₀ H₀ fp) pins σ H s->tt σ H Q->
   wpAny X.mo X.A (forIn ifs true λc r=>if r=true then do let ok <-isTrue c (Y C s₀ H₀ fp).env (eval c (Y C s₀ H₀ fp).9);pure (NH ok) else pure (NH r)) (TP (Y C s₀ H₀ fp) pins σ Q) (λ_ _=>False) s
def jn (N3:X.39=true)(hX:X.N=N)(TF:X.15=sc)(O:P1 N M sc xs scope)
  (Sh:HtA X (Qf X xs scope M) ifs tt)
  (Vg:∀C s₀ H₀ fp,PE (Qf X xs scope M C s₀ H₀ fp) elt te)
  (hg:∀C s₀ H₀ fp,PG (Qf X xs scope M C s₀ H₀ fp) tg g)
  (I2:Inv X pins σ H2 s2) (T:Turn X.24 X.w X.K tg J fp it tn) (st2:tn 0 s2.8) (f2:∀b∈fp,Rk X pins H2 b) {Qd:Ι->Hp->Prop}
  (q:∀D,H2 D=none->∃W:Nat->Nat->-V->Hp->Prop,(∃m,W 0 m [] (upd H2 D (.lst [])))/\∀i m ys H3,W i m ys H3->
   (J.stop i H3/\H3 D=!.lst ys/\Qd D H3)\/(J.go i H3/\ys.4 < sizeLine/\∀x H4,J.Zh i H3 x H4->∀o,o.4=xs.4->g x (o++σ) H4 λσ' H4'=>(∃o',o'.4=xs.4/\σ'=o'++σ)/\tt σ' H4' λb H5=>
    if b=true then te σ' H5 λy H6=>H6 D=!.lst ys/\∃m',m' < m/\W (i+1) m' (ys++[y]) (upd H6 D (.lst (ys++[y]))) else ∃m',m' < m/\W (i+1) m' ys H5))
  {RR:Υ->Ι->abQ->η->Prop} (hRR:∀D C H' s',Inv X pins σ H' s'->Rk X pins H' C->(∃m,s'.heap.Ns C m)->Qd D H'->RR (.ref D) C (.ok .next) s') :
  wpAny X.mo X.A (newList []) (λacc s₃=>wpAny X.mo X.A (newFunctionEnv scope X.60 (wP X.env.65 scope.31 []) [] X.env.qual none .none (!X.9)) (λacG s₄=>
   codeAny X.mo X.A (.compStart (.ListComp elt [⟨tg,iter,ifs,0⟩] scope pos) 0 (.ref it) acc { acG with scope:=relabel scope X.9 }) (RR acc acG.locals) s₄) E s₃) E s2:=by
 let ajS:=λb hb=>let ⟨o,e,_⟩:=T.obj _ _ st2 b hb;π e;(show ι (q s2.5 (I2.lu.fresh (δ _))) λW μ turn=>?_;obtain ⟨m0,w0⟩:=μ);let I3:=I2.agP (t':=s2.29) .nil (Ϡ _);show Q9 (wpAny_newFunctionEnv O.98 (by intro y hy;simp at hy) (λh₁ ajT ajU=>?_) O.kind);dsimp only at ajT ajU ⊢;generalize hs3:({ s2 with heap:=s2.heap.push { cls:=.type "list",data:=.seq ([]).10 },toks:=s2.29 }:η)=s3 at I3;let eh:s3.8=s2.heap.push { cls:=.type "list",data:=.seq ([]).10 }:=by rw[<-hs3]
 let k1:=λb u e=>by
  show ajU.extBut b u ?_ (Τ _ (by rw[<-eh];show e));rw[<-eh];show Ϧ (π e)
 let f3:∀b∈fp,Rk X pins (upd H2 s2.5 (.lst [])) b:=λb hb=>⟨by rw[ag (Ϧ (ajS b hb))];show(f2 b hb).1,(f2 b hb).2⟩
 let ajV:∀b∈fp,b < s3.5:=λb hb=>by
  rw[eh,bw];show Us (ajS b hb)
 let st3:=T.keep _ _ _ st2 λb hb o e=>k1 b o (by rw[eh];show Τ _ e);let an3:h₁.Ns s3.5 (λx=>([]:-(Str×Υ)).reverse.lookup x):=by rw[eh];show ajT
 let Zj:∀{H':Hp},(∀b∈fp,H' b=none)->∀b∈fp,Rk (Qf X xs scope M s3.5 s3 (upd H2 s2.5 (.lst [])) fp) [] H' b:=λhn b hb=>by
  (show UP (f3 b hb) λg0 g1 g2 g3 g4 g5=>?_);show⟨hn b hb,Ϧ (ajV b hb),λz=>(Κ.mp (I3.Vv b z)).elim g1 g2,.inl hb,λy c e=>g4 y c (bG _ _ (λ_ _ z=>by simp at z) _ _ e),λp hp=>by simp at hp⟩
 let loop:∀s4,s4={ s3 with heap:=h₁,toks:=s2.29 }->
   codeAny X.mo X.A (.compLoop (.ListComp elt [⟨tg,iter,ifs,0⟩] scope pos) 0 (.ref it) (.ref s2.5) (compEnvC scope (wP X.env.65 scope.31 []) s3.5 X.9))
    (RR (.ref s2.5) s3.5) s4:=by
  rintro s4 rfl
  show wK (λn s'=>∃i ys,∃o,∃H',o.4=xs.4/\Inv (Qf X xs scope M s3.5 s3 (upd H2 s2.5 (.lst [])) fp) [] (o++σ) H' s'/\tn i s'.8/\(∀b∈fp,H' b=none)/\W i n ys H') ?_ m0
   (SV 0 ([]) _ _ jp (Ff I3 hX TF O f3 ajV an3 k1) st3 (λb hb=>(f3 b hb).1) w0)
  rintro n s5 ⟨i,ys,o,H5,lo,I5,st5,fr5,w5⟩
  rcases turn i n ys H5 w5 with⟨stop,hD,qd⟩ | ⟨go,hz,step⟩
  ·show No (T.done (Qf X xs scope M s3.5 s3 (upd H2 s2.5 (.lst [])) fp) rfl rfl rfl N3 i [] s5 _ H5 _ I5 (Zj fr5) st5 stop) λr s6 zz=>PV zz λhr I6=>?_
   subst hr;let IX:=I3.acs I6.os I6.50 I6.lu I6.46 λb hb=>let ⟨_,g1,_,g3,g4,g5⟩:=f3 b hb;⟨g3,g1,g4,g5⟩;(show ι I6.87 λmm hmm _=>?_);show hRR _ _ H5 s6 IX (I3.Xx (δ _) I6.58) ⟨mm,hmm⟩ qd
  ·show No (T.item (Qf X xs scope M s3.5 s3 (upd H2 s2.5 (.lst [])) fp) rfl rfl rfl N3 i [] s5 _ H5 _ I5 (Zj fr5) st5 go) λr s6 zz=>ι zz λu hr h6=>?_
   subst hr;show No h6 λ_ s7 zz=>ai' zz λy H7 I7 r7 y7 st7 fr7=>No (lw (hg _ _ _ _ _ s7 _ H7 y u _ (I7.pinned (Zj fr7) (T.obj _ _ st7)) r7 (step y H7 y7 o lo)) (λ_ _ q=>q) λ_ _ f=>f.36) λ_ s8 ⟨σ8,H8,I8',⟨o8,lo8,e8⟩,q8⟩=>?_;subst e8;show No (Sh _ _ _ _ _ s8 _ H8 _ I8' q8) λok s9 zz=>ι zz λH9 I9 q9=>?_;let again:∀{ys':-V} {H':Hp} {s':η} {m:Nat},Inv (Qf X xs scope M s3.5 s3 (upd H2 s2.5 (.lst [])) fp) ([]++Vy fp s7.8) (o8++σ) H' s'->m < n->W (i+1) m ys' H'->
     ∃m,m < n/\∃i ys,∃o,∃H',o.4=xs.4/\Inv (Qf X xs scope M s3.5 s3 (upd H2 s2.5 (.lst [])) fp) [] (o++σ) H' s'/\tn i s'.8/\(∀b∈fp,H' b=none)/\W i m ys H':=λ{ys' H' s' m} I' hm w'=>by
    show(Λ m hm (SV (i+1) ys' o8 H' lo8 I'.SX (T.keep _ _ _ st7 λb hb o e=>(I'.pin (b,o) (Β _ (Β _ (iz hb e)))).1) (λb hb=>?_) w'));(show ι (T.obj _ _ st7 b hb) λo e d=>?_);show(I'.pin (b,o) (Β _ (Β _ (iz hb e)))).2.1
   cases ok with
   | false=>
    (revert q9;show ϭ λm' hm w'=>?_);show again I9 hm w'
   | true=>
    show No (Vg _ _ _ _ _ s9 _ H9 _ I9 q9) λu2 s10 zz=>RA zz λy2 H10 I10 r10 hD=>ϭ λm' hm w'=>L8 (br _ s10 _ H10 (.ref s2.5) [y2] (.ref s2.5) [u2] (λ_ H'=>H'=upd H10 s2.5 (.lst (ys++[y2]))) I10 rfl (.cons r10 .nil) (IB _ ys y2 rfl rfl hD hz rfl)) λ_ s11 _ H11 I11 _ e11=>?_;subst e11;show again I11 hm w'
 let fin:=codeAny_compStart_list (loop _ rfl) (T.self X.A 0 _ _ _ st3 (loop _ rfl));rw[hs3.17] at fin;show fin
end
section
variable {X:Cx} {s2:η} 
variable {px:Pos} {N M:-Str} {it:Ι} {tn:Nat->be->Prop} 
def qH (N3:X.39=true)(hX:X.N=N)(TF:X.15=sc)(O:Vz N M sc x scope)
  (Sh:HtA X (blk X x scope M) ifs tt)
  (Vg:∀C s₀ H₀ fp,PE (blk X x scope M C s₀ H₀ fp) elt te)
  (I2:Inv X pins σ H2 s2) (T:Turn X.24 X.w X.K (.Name x px) J fp it tn) (st2:tn 0 s2.8) (f2:∀b∈fp,Rk X pins H2 b) {Qd:Ι->Hp->Prop}
  (q:∀D,H2 D=none->∃W:Nat->Nat->-V->Hp->Prop,(∃m,W 0 m [] (upd H2 D (.lst [])))/\∀i m ys H3,W i m ys H3->
   (J.stop i H3/\H3 D=!.lst ys/\Qd D H3)\/(J.go i H3/\ys.4 < sizeLine/\∀x H4,J.Zh i H3 x H4->tt (some x::σ) H4 λb H5=>
    if b=true then te (some x::σ) H5 λy H6=>H6 D=!.lst ys/\∃m',m' < m/\W (i+1) m' (ys++[y]) (upd H6 D (.lst (ys++[y]))) else ∃m',m' < m/\W (i+1) m' ys H5))
  {RR:Υ->Ι->abQ->η->Prop} (hRR:∀D C H' s',Inv X pins σ H' s'->Rk X pins H' C->(∃m,s'.heap.Ns C m)->Qd D H'->RR (.ref D) C (.ok .next) s') :
  wpAny X.mo X.A (newList []) (λacc s₃=>wpAny X.mo X.A (newFunctionEnv scope X.60 (wP X.env.65 scope.31 []) [] X.env.qual none .none (!X.9)) (λacG s₄=>
   codeAny X.mo X.A (.compStart (.ListComp elt [⟨.Name x px,iter,ifs,0⟩] scope pos) 0 (.ref it) acc { acG with scope:=relabel scope X.9 }) (RR acc acG.locals) s₄) E s₃) E s2:=by
 let OT:P1 N M sc [x] scope:=⟨O.62,O.98,O.31,O.58,(by
  rw[<-O.hid];show NL λy _=>?_;unfold acF afJ
  simp),O.others,O.void⟩
 show jn N3 hX TF OT Sh Vg (λC s₀ H₀ fp=>aE (i:=0) O.nd rfl (.inl (adL O.own)) (.inr (adL O.own))) I2 T st2 f2 (λD hD=>?_) hRR;(show ι (q D hD) λW w0 turn=>?_);show(Λ W w0 (λi m ys H3 w=>(turn i m ys H3 w).imp id λzz=>sw zz λgo hz step=>⟨go,hz,λy H4 hy o ho=>?_⟩));obtain⟨z,rfl⟩:∃z,o=[z]:=by
  match o,ho with
  | [z],_=>show⟨z,rfl⟩
 show⟨(Λ ([!y]) rfl rfl),step y H4 hy⟩
end
section
variable {X:Cx} {y:Str} {px:Pos} {N M:-Str} {wi:TI}  
def Fg (N3:X.39=true)(hX:X.N=N)(TF:X.15=sc)(O:Vz N M sc x scope)(hi:PI X (.Name x px) iter wi)
  (Sh:HtA X (blk X x scope M) ifs tt)
  (Vg:∀C s₀ H₀ fp,PE (blk X x scope M C s₀ H₀ fp) elt te) (hs:autoParam (FsI X iter) L2.Wr._auto_1) :
  PE X (.ListComp elt [⟨.Name x px,iter,ifs,0⟩] scope pos) (Yy wi tt te):=by
 intro pins s σ H Q I h;let RS:=iB λz hz hf=>by
  let q:=O.free z hz hf;rw[<-TF] at q;show I.ok.has z.1 q
 show Ov rfl hs RS O.62 O.31 (No (hi pins s σ H _ I h) λv s1 h1=>No h1 λitv s2 h2=>?_);(revert h2;show Vs λit fp tn J H2 e I2 T st2 f2 q2=>?_);subst e;show qH N3 hX TF O Sh Vg I2 T st2 f2 (λD hD=>q2 D hD) ?_;intro D C H' s' I' hC hm q';obtain⟨m,hm⟩:=hm;(revert hC;show RY λc0 c1 c2 c3 c4 c5=>?_);show(Λ m hm (λh' Vh=>(ϕ (.ref D) H' (I'.turned (λb o hb e=>Vh.extBut b o hb e) c0 c1 c3 c4 c5) rfl q')))
def Fh (N3:X.39=true)(hX:X.N=N)(TF:X.15=sc)(O:Vz N M sc x scope)(hi:PI X (.Name x px) iter wi)
  (Sh:HtA X (blk X x scope M) ifs tt)
  (Vg:∀C s₀ H₀ fp,PE (blk X x scope M C s₀ H₀ fp) elt te)
  (hNd:X.N.14) (hiy:X.N[i]?=!y) (hy:X.env.scope.names.lookup y=!.local)
  (hsw:swapsWith (.ListComp elt [⟨.Name x px,iter,ifs,0⟩] scope pos) (!.Name y py) Yo.53 X.9=pure true) (hs:autoParam (FsI X iter) L2.Wr._auto_1) :
  PS X (.Assign [.Name y py] (.ListComp elt [⟨.Name x px,iter,ifs,0⟩] scope pos) Yo) (Zg (Yy wi tt te) (Vx i)):=by
 intro pins s σ H D I h;let RS:=iB λz hz hf=>by
  let q:=O.free z hz hf;rw[<-TF] at q;show I.ok.has z.1 q
 let key:wpAny X.mo X.A (comprehension (.ListComp elt [⟨.Name x px,iter,ifs,0⟩] scope pos) scope X.9 (firstIterPos [⟨.Name x px,iter,ifs,0⟩] pos) (newList []) false (eval iter X.9) (!assign (.Name y py) X.9))
   (λ_ s'=>SP X pins D .next s') X.xe s:=by
  show Ov rfl hs RS O.62 O.31 (No (hi pins s σ H _ I h) λv s1 h1=>No h1 λitv s2 h2=>?_);(revert h2;show Vs λit fp tn J H2 e I2 T st2 f2 q2=>?_);subst e;show qH N3 hX TF O Sh Vg I2 T st2 f2 (λD0 hD=>q2 D0 hD) ?_;intro D0 C H' s' I' hC hm q';obtain⟨m,hm⟩:=hm;(revert hC;show RY λc0 c1 c2 c3 c4 c5=>?_);show Wg (nI (v:=.ref D0) I' hNd hiy (.inl hy) rfl (λs'' I'' zz=>ι zz λa sb ha=>?_) (.inr hy));let hCa:C≠a:=by
   rcases ha with ha | ha
   ·rw[ha];show c1
   ·show(c4 _ _ ha).17
  show(Λ m (hm.sameBut sb hCa) (λh' Vh=>(cr _ H' (I''.turned (λb o hb e=>Vh.extBut b o hb e) c0 c1 c3 c4 c5) q')))
 rw[acb _ _ _ _ hsw];show Ν (Ou (Ν (Ν (lw key (λ_ s' hq=>ύ (ύ hq)) λ_ _ e=>e))))
def cZ (N M:-Str)(sc:QI)(O:Vz N M sc x scope)(hi:PI X (.Name x px) iter wi)(Vg:∀C s₀ H₀ fp,PE (blk X x scope M C s₀ H₀ fp) elt te)
  (N3: ~~~(X.39=true)) (hX: ~~~(X.N=N)) (TF: ~~~(X.15=sc)) (hs:autoParam (FsI X iter) L2.Wr._auto_1) :
  PE X (.ListComp elt [⟨.Name x px,iter,[],0⟩] scope pos) (Yy wi UT te):=
 Fg N3 hX TF O hi (λC s₀ H₀ fp pins s σ H Q I h=>Sn (Λ H I h)) Vg hs
def qk (N M:-Str)(sc:QI)(O:Vz N M sc x scope)(hi:PI X (.Name x px) iter wi)(Vg:∀C s₀ H₀ fp,PE (blk X x scope M C s₀ H₀ fp) elt te)
  (hNd:X.N.14) (hiy: ~~~(X.N[i]?=!y)) (hy: ~~~(X.env.scope.names.lookup y=!.local))
  (hsw: ~~~(swapsWith (.ListComp elt [⟨.Name x px,iter,[],0⟩] scope pos) (!.Name y py) Yo.53 X.9=pure true))
  (N3: ~~~(X.39=true)) (hX: ~~~(X.N=N)) (TF: ~~~(X.15=sc)) (hs:autoParam (FsI X iter) L2.Wr._auto_1) :
  PS X (.Assign [.Name y py] (.ListComp elt [⟨.Name x px,iter,[],0⟩] scope pos) Yo) (Zg (Yy wi UT te) (Vx i)):=
 Fh N3 hX TF O hi (λC s₀ H₀ fp pins s σ H Q I h=>Sn (Λ H I h)) Vg hNd hiy hy hsw hs
end
theorem S (l:-Nat):Str:=⟨l.10⟩
def qI (z:Str):z=S z.11:=by cases z;simp[S]
abbrev aR (f:Ι->Sp):Sp:=λvs H Q E=>match vs with | .ref r::vs=>f r vs H Q E | _=>False
abbrev aI (f:Int->Sp):Sp:=λvs H Q E=>match vs with | .int r::vs=>f r vs H Q E | _=>False
abbrev aK (f:Nat->Sp):Sp:=λvs H Q E=>match vs with | .int (.ofNat r)::vs=>f r vs H Q E | _=>False
abbrev aS (f:Str->Sp):Sp:=λvs H Q E=>match vs with | .str r::vs=>f r vs H Q E | _=>False
abbrev aT (f:-Nat->Sp):Sp:=aS λs=>f s.11
abbrev aB (f:Bool->Sp):Sp:=λvs H Q E=>match vs with | .bl r::vs=>f r vs H Q E | _=>False
abbrev aV (f:V->Sp):Sp:=λvs H Q E=>match vs with | r::vs=>f r vs H Q E | _=>False
abbrev aN (f:Hp->VK->XK->Prop):Sp:=λvs H Q E=>match vs with | []=>f H Q E | _=>False
section
variable {vs:-V} {E:XK}
def aRr {f r}:aR f (.ref r::vs) H Q E=f r vs H Q E:=rfl
def aIr {f r}:aI f (.int r::vs) H Q E=f r vs H Q E:=rfl
def aKr {f}:aK f (.int r::vs) H Q E=f r vs H Q E:=rfl
def aK0 {f}:aK f (.int 0::vs) H Q E=f 0 vs H Q E:=rfl
def aSr {f r}:aS f (.str r::vs) H Q E=f r vs H Q E:=rfl
def aTr {f l}:aT f (.str (S l)::vs) H Q E=f l vs H Q E:=rfl
def aBr {f r}:aB f (.bl r::vs) H Q E=f r vs H Q E:=rfl
def aVr {f r}:aV f (r::vs) H Q E=f r vs H Q E:=rfl
def aNr {f}:aN f [] H Q E=f H Q E:=rfl
def aRx {f v}:aR f (v::vs) H Q E=∃r,v=.ref r/\f r vs H Q E:=by cases v<;>simp[aR]
def aIx {f v}:aI f (v::vs) H Q E=∃r,v=.int r/\f r vs H Q E:=by cases v<;>simp[aI]
def aKx {f v}:aK f (v::vs) H Q E=∃r:Nat,v=.int r/\f r vs H Q E:=by
 cases v with
 | int i=>
  cases i with
  | ofNat n=>show propext ⟨λh=>(Λ n rfl h),λzz=>ι zz λr e h=>by cases e;show h⟩
  | negSucc n=>show propext ⟨Ϸ,λzz=>ι zz λr e h=>by cases e⟩
 | _=>show propext ⟨Ϸ,λzz=>ι zz λr e h=>by cases e⟩
def aSx {f v}:aS f (v::vs) H Q E=∃r,v=.str r/\f r vs H Q E:=by cases v<;>simp[aS]
def aTx {f v}:aT f (v::vs) H Q E=∃l,v=.str (S l)/\f l vs H Q E:=by
 cases v with
 | str s=>show propext ⟨λh=>(Λ s.11 (congrArg _ (qI s)) h),λzz=>ι zz λr e h=>by cases e;show h⟩
 | _=>show propext ⟨Ϸ,λzz=>ι zz λr e h=>by cases e⟩
def aBx {f v}:aB f (v::vs) H Q E=∃r,v=.bl r/\f r vs H Q E:=by cases v<;>simp[aB]
variable {C:-V->Prop}
def aRe {f}(vs)(h:aR f vs H Q E)(g:∀r vs,f r vs H Q E->C (.ref r::vs)):C vs:=by
 match vs,h with | .ref _::_,h=>show g _ _ h
def aIe {f}(vs)(h:aI f vs H Q E)(g:∀r vs,f r vs H Q E->C (.int r::vs)):C vs:=by
 match vs,h with | .int _::_,h=>show g _ _ h
def aKe {f}(vs)(h:aK f vs H Q E)(g:∀r vs,f r vs H Q E->C (.int r::vs)):C vs:=by
 match vs,h with | .int (.ofNat _)::_,h=>show g _ _ h
def aSe {f}(vs)(h:aS f vs H Q E)(g:∀r vs,f r vs H Q E->C (.str r::vs)):C vs:=by
 match vs,h with | .str _::_,h=>show g _ _ h
def aTe {f}(vs)(h:aT f vs H Q E)(g:∀r vs,f r vs H Q E->C (.str (S r)::vs)):C vs:=aSe vs h λs _ h=>by rw[qI s];show g _ _ h
def aBe {f}(vs)(h:aB f vs H Q E)(g:∀r vs,f r vs H Q E->C (.bl r::vs)):C vs:=by
 match vs,h with | .bl _::_,h=>show g _ _ h
def aVe {f}(vs)(h:aV f vs H Q E)(g:∀r vs,f r vs H Q E->C (r::vs)):C vs:=by
 match vs,h with | _::_,h=>show g _ _ h
def aNe {f}(vs)(h:aN f vs H Q E)(g:f H Q E->C []):C vs:=by
 match vs,h with | [],h=>show g h
end
def tY {a b:-Nat}(h:S a=S b):a=b:=by
 simpa using congrArg Tz (congrArg Str.cps h)
def fc (l:-Nat):(S l).4=l.4:=by show l.18=l.4;simp
def Fi (a b:-Nat):S a++S b=S (a++b):=by
 show(⟨a.10++b.10⟩:Str)=⟨(a++b).10⟩;simp
abbrev Yz (l:-Nat)(lo hi:Option Int):-Nat:=(l.drop (HT.SZ l.4 0 lo)).take (HT.SZ l.4 l.4 hi - HT.SZ l.4 0 lo)
def Hk (l:-Nat)(lo hi:Option Int):(Yz l lo hi).4<=l.4:=by
 unfold Yz;rw[eF,NF];show ο (Va _ _) (alO _ _)
abbrev YA (d:Int)(n:Nat):Option Int->Int
 | none=>d
 | some i=>max 0 (min (if i < 0 then i+(n:Int) else i) (n:Int))
def wL (d n:Nat)(o:Option Int):YA (d:Int) n o=((HT.SZ n d o:Nat):Int):=by
 cases o with
 | none=>rfl
 | some i=>
  simp only[HT.SZ,YA]
  by_cases h:i < 0
  ·simp only[h,if_true]<;>lk
  ·simp only[h,if_false]<;>lk
def wM (lo hi:Option Int)(n:Nat):OK lo hi 1 n=(Ϟ (HT.SZ n n hi - HT.SZ n 0 lo)).map (HT.SZ n 0 lo+·):=by
 let key:OK lo hi 1 n=sliceRange (YA ((0:Nat)) n lo) (YA n n hi) 1:=by
  unfold OK;cases lo<;>cases hi<;>simp[YA]
 rw[key,wL,wL,alQ]
section
variable {X:Cx}
abbrev ajW:V->Option Int->Option Int->Hp->VK->Prop:=λx lo hi H Q=>∃l,x=.str (S l)/\l.4<=sizeLine/\Q (.str (S (Yz l lo hi))) H
def part_of (p:alN v o):∃l,v=partValue l/\l.map (·.1)=o:=by
 cases p with
 | none=>show(Λ none rfl rfl)
 | int i t=>show(Λ (!(i,t)) rfl rfl)
def JM:SlR X ajW:=by
 intro pins s σ H x v vl vu lo hi sl Q I rx hs pl pu h;(revert h;show Nq λl μ hz q=>?_;subst μ);obtain⟨t,rfl⟩:=rx;(show ι (part_of pl) λa μ M0=>?_;subst μ;subst M0);(show ι (part_of pu) λb μ M0=>?_;subst μ;subst M0);show(ϕ ("str") _ PySem.F.slot_str_getitem.lookup (Y5 _ _ _) (wpAny_getItem_str_slice (st:=none) hs rfl ?_));let ep:slicePicked (S l) a b none=(Ϟ (HT.SZ l.4 l.4 (b.map (·.1)) - HT.SZ l.4 0 (a.map (·.1)))).map (HT.SZ l.4 0 (a.map (·.1))+·):=by
  let e:=wM (a.map (·.1)) (b.map (·.1)) (S l).4;rw[fc] at e;show e
 let ec:(slicePicked (S l) a b none).filterMap ((S l).cps[·]?)=Yz l (a.map (·.1)) (b.map (·.1)):=by
  rw[ep,pick_run];simp only[Yz]
 unfold sliceMade
 split
 ·rename_i hc
  let hlen:(slicePicked (S l) a b none).4=l.4:=by
   rw[io] at hc;have:=hc.2;rw[UH,fc] at this;show this
  let e:Yz l (a.map (·.1)) (b.map (·.1))=l:=by
   rw[ep,Θ,rc] at hlen;let h1:=HT.E5 l.4 l.4 (δ _) (b.map (·.1));unfold Yz;let h2:HT.SZ l.4 0 (a.map (·.1))=0:=by
    by_cases hl:l.4=0
    ·have:=HT.E5 l.4 0 (Ϡ _) (a.map (·.1))
     lk
    ·lk
   rw[hlen,h2,List.drop_zero,bv]
  rw[e] at q;show(ϕ (.str (S l)) H I ⟨t,rfl⟩ q)
 ·show⟨?_,(ϕ (.str (S ((slicePicked (S l) a b none).filterMap ((S l).cps[·]?)))) H (I.tok _) ⟨_,rfl⟩ ?_)⟩
  ·rw[ec]
   show(Yz l _ _).18<=sizeLine;rw[Ϙ];show ο (Hk _ _ _) hz
  ·rw[ec]
   show q
end
abbrev Its (z:Str):It:=⟨λi _=>i < z.26,λi H x H'=>H'=H/\∃c,z.cps[i]?=!c/\x=.str ⟨#[c]⟩,λi _=>z.26<=i⟩
def B1 (hA:A.48=none)(it:Ι)(z:Str)(t:Tok):Walks P w A it [it] [it] z.26 (SignAt z) (λi h=>h.IsStrIter it (strIterType z) z t i):=by
 unfold strIterType
 split
 ·show Walks.strAscii hA it z t
 ·show Walks.strWide hA it z t
def sV (z:Str):["enumerate","zip","dict_itemiterator","dict_reverseitemiterator","odict_iterator","itertools.zip_longest","itertools.pairwise"].contains (strIterType z)=false:=by
 unfold strIterType
 split<;>decide
def Fj {P:ϯ}{K:Ψ}(it:Ι)(z:Str)(t:Tok):Turn P w K tg (Its z) [it] it (λi h=>h.IsStrIter it (strIterType z) z t i) where
 mem:=by simp
 obj:=λi h st b hb=>by
  let e:b=it:=by simpa using hb
  subst e;(revert st;show Nq λo e c d=>?_);show(Λ o e (λv z=>by rw[d] at z;cases z))
 keep:=λi h h' st k=>let ⟨o,e,r⟩:=st;(Λ o (k it ∅ o e) r)
 item:=by
  intro X hP hw hK hc i pins s σ H E I hf st hg;(show UP (hf it ∅) λf0 f1 f2 f3 f4 f5=>?_);show(B1 (I.ok.hd hc) it z t).item i s _ _ hg st λv h' tk hv Zi kk=>?_;(revert hv;show v0 λc u hcz μ=>?_;subst μ);let I1:Inv X pins σ H { s with heap:=h',toks:=tk }:=I.turned (λb o hb e=>kk b o (by simpa using hb) e) f0 f1 f3 f4 f5;(show ϱ (id Zi) λo e ec d=>?_);show(Λ _ rfl (AU e ec d (sV z) (TV (.str ⟨#[c]⟩) H I1 ⟨u,rfl⟩ ⟨rfl,(Λ c hcz rfl)⟩ Zi (λb hb=>(hf b hb).1))))
 done:=by
  intro X hP hw hK hc i pins s σ H E I hf st hg;(show UP (hf it ∅) λf0 f1 f2 f3 f4 f5=>?_);let hg':z.26<=i:=hg
  by_cases ha:z.cps.all (· < 128)=true
  ·let Zi:s.heap.IsStrIter it "str_ascii_iterator" z t i:=by
    let e:strIterType z="str_ascii_iterator":=by unfold strIterType;rw[γ ha]
    rw[<-e];show st
   show wpAny_pyNext_ascii_end (I.ok.hd hc) Zi (by simpa using hg') λh' eb=>⟨rfl,I.turned (λb o hb e=>eb b o hb e) f0 f1 f3 f4 f5⟩
  ·let Zi:s.heap.IsStrIter it "str_iterator" z t i:=by
    let e:strIterType z="str_iterator":=by unfold strIterType;rw[Φ ha]
    rw[<-e];show st
   show wpAny_pyNext_wide_end (I.ok.hd hc) Zi (by simpa using hg') λh' eb=>⟨rfl,I.turned (λb o hb e=>eb b o hb e) f0 f1 f3 f4 f5⟩
 self:=λA i s Q E st h=>by
  by_cases ha:z.cps.all (· < 128)=true
  ·let e:strIterType z="str_ascii_iterator":=by unfold strIterType;rw[γ ha]
   show wpAny_pyIter_striter_ascii (by rw[<-e];show st) h
  ·let e:strIterType z="str_iterator":=by unfold strIterType;rw[Φ ha]
   show wpAny_pyIter_striter_wide (by rw[<-e];show st) h
def Hl {g:TG}{D:Ends}(Pv:Nat->St->Hp->Prop)(h0:Pv 0 σ H)
  (hs:∀i c σ H,z.cps[i]?=!c->Pv i σ H->g (.str ⟨#[c]⟩) σ H λσ2 H2=>tb { D with nx:=Pv (i+1),ct:=Pv (i+1),bk:=D.nx } σ2 H2) (hd:∀σ H,Pv z.26 σ H->D.nx σ H) :
  ∃W:Nat->Nat->St->Hp->Prop,(∃m,W 0 m σ H)/\∀i m σ H,W i m σ H->
   ((Its z).stop i H/\D.nx σ H)\/((Its z).go i H/\∃N,(∀σ' H',N σ' H'->∃m',m' < m/\W (i+1) m' σ' H')/\∀x H',(Its z).Zh i H x H'->g x σ H' λσ2 H2=>tb { D with nx:=N,ct:=N,bk:=D.nx } σ2 H2):=by
 show(Λ (λi m σ H=>m=z.26 - i/\i<=z.26/\Pv i σ H) (ϡ z.26 rfl (Ϡ _) h0) ?_)
 rintro i m σ H ⟨rfl,hi,p⟩
 by_cases OM:i < z.26
 ·show .inr ⟨OM,(Λ (Pv (i+1)) (λσ' H' p'=>(MD (z.26 - (i+1)) () rfl OM p')) (λx H' y=>?_))⟩
  (revert y;show Nl λe=>ϭ λc hc μ=>?_;subst μ);subst e;show hs i c σ _ hc p
 ·let e:i=z.26:=by lk
  subst e;show .inl ⟨δ _,hd σ H p⟩
def hU (hr:MW k A):A.23+64 < cLine:=hr.23
def R0 (hr:MW k A):A.23+1 < cLine:=Lv hr
abbrev OG (mg:Str->Option Υ)(x:Str)(v:V):Prop:=∃u,mg x=!u/\RelV v u
def bD (c:OG X.mg x v)(hg: ~~~(Gl X x))(hd:autoParam (Ws x) L2.M9._auto_1):PE X (.Name x pos) (tC v):=by
 (revert c;show ϭ λu h1 h2=>?_);show u0 hg h1 h2 hd
mutual
inductive Den (K:Ψ) (H:Hp):V->NP->Prop
 | k4:Den K H .k4 .none
 | bl (b:Bool):Den K H (.bl b) (.bool b)
 | int (i:Int):Den K H (.int i) (.int i)
 | str (x:Str):Den K H (.str x) (.str x)
 | lst {a:Ι} {xs:-V} {ds:-NP}:G' K H a xs->Pq K H xs ds->Den K H (.ref a) (.list ds)
 | tup {a:Ι} {xs:-V} {ds:-NP}:Of K H a xs->Pq K H xs ds->Den K H (.ref a) (.tuple ds)
inductive Pq (K:Ψ) (H:Hp):-V->-NP->Prop
 | nil:Pq K H [] []
 | cons {v:V} {d:NP} {vs:-V} {ds:-NP}:Den K H v d->Pq K H vs ds->Pq K H (v::vs) (d::ds)
end
def Den.reads {X:Cx}{s:η}(I:Inv X pins σ H s){v:V}{d:NP}{u:Υ}(h:Den X.K H v d)(r:RelV v u):∃as,Reads s.8 u d as:=by
 revert u
 show Den.rec (motive_1:=λv d _=>∀{u:Υ},RelV v u->∃as,Reads s.8 u d as) (motive_2:=λvs ds _=>∀us,Vals vs us->∃as,ReadsAll s.8 us ds as) ?_ ?_ ?_ ?_ ?_ ?_ ?_ ?_ h
 ·intro _ r;cases (show _=NY from r);show⟨_,.none⟩
 ·intro b _ r;cases (show _=aac b from r);show⟨_,.bool b⟩
 ·intro i _ r;obtain⟨t,rfl⟩:=r;show⟨_,.int i t⟩
 ·intro x _ r;obtain⟨t,rfl⟩:=r;show⟨_,.str x t⟩
 ·intro _ _ _ h _ ih _ r;cases (show _=ϫ _ from r);(show ϱ (I.list h) λfT rv p hz=>?_);(show ϱ p.21 λo ho hc=>Sq λn hdt=>?_);obtain⟨as,ra⟩:=ih _ rv;show⟨_,.list ho hc hdt (by simpa using ra)⟩
 ·intro _ _ _ h _ ih _ r;cases (show _=ϫ _ from r);(show ϱ (I.tuple h) λfT rv p hz=>?_);(revert p;show Nq λo ho hc=>Sq λn hdt=>?_);obtain⟨as,ra⟩:=ih _ rv;show⟨_,.tuple ho hc hdt (by simpa using ra)⟩
 ·intro _ r;cases r;show⟨_,.nil⟩
 ·intro _ _ _ _ _ _ h t _ r;cases r with | cons r rr=>obtain⟨a,ha⟩:=h r;obtain⟨b,hb⟩:=t _ rr;show⟨_,.cons ha hb⟩
abbrev isRef:V->Bool
 | .ref _=>true
 | _=>false
abbrev aaU (K:Ψ)(neg:Bool):R2:=λx y H Q=>(isRef x || isRef y)=true/\∃d e,Den K H x d/\Den K H y e/\NC d=true/\NC e=true/\Q (.bl (if neg then !((QO d e)) else QO d e)) H
section
variable {X:Cx}
def JN (hu:X.A.23+64 < cLine):M7 X (compareOp .Eq) (aaU X.K false):=by
 intro pins s σ H x y v u Q I rx ry h;(revert h;show Nl λ_=>Qz λd e hd he sd se q=>?_);obtain⟨as,ra⟩:=hd.reads I rx;obtain⟨bs,rb⟩:=he.reads I ry;show eq_dataH ra rb sd se hu (ϕ (.bl (QO d e)) H I rfl q)
def JO (hu:X.A.23+64 < cLine):M7 X (compareOp .NotEq) (aaU X.K true):=by
 intro pins s σ H x y v u Q I rx ry h;(revert h;show Nl λ_=>Qz λd e hd he sd se q=>?_);obtain⟨as,ra⟩:=hd.reads I rx;obtain⟨bs,rb⟩:=he.reads I ry;show ne_dataH ra rb sd se hu (ϕ (.bl (!((QO d e)))) H I rfl q)
abbrev rSS (g:Str->Str->V):R2:=λx y H Q=>onS x λi=>onS y λj=>Q (g i j) H
def JP:M7 X (compareOp .Eq) (T0 λi j=>.bl (decide (i=j))):=λpins s σ H x y v u Q I rx ry h=>by
 (show ι (fF h) λi μ h2=>?_;subst μ);(show ι (fF h2) λj μ q=>?_;subst μ);show EX pins s σ H _ _ v u Q I rx ry ⟨rfl,by rw[decide_eq_decide.mpr (V.int.injEq i j▸acd:V.int i=V.int j↔i=j)];show q⟩
def JQ:M7 X (compareOp .NotEq) (T0 λi j=>.bl (!((decide (i=j))))):=λpins s σ H x y v u Q I rx ry h=>by
 (show ι (fF h) λi μ h2=>?_;subst μ);(show ι (fF h2) λj μ q=>?_;subst μ);show EY pins s σ H _ _ v u Q I rx ry ⟨rfl,by rw[decide_eq_decide.mpr (V.int.injEq i j▸acd:V.int i=V.int j↔i=j)];show q⟩
def JR:M7 X (compareOp .Eq) (rSS λi j=>.bl (decide (i=j))):=λpins s σ H x y v u Q I rx ry h=>by
 (show ι (gP h) λi μ h2=>?_;subst μ);(show ι (gP h2) λj μ q=>?_;subst μ);show EX pins s σ H _ _ v u Q I rx ry ⟨rfl,by rw[decide_eq_decide.mpr (V.str.injEq i j▸acd:V.str i=V.str j↔i=j)];show q⟩
def JS:M7 X (compareOp .NotEq) (rSS λi j=>.bl (!((decide (i=j))))):=λpins s σ H x y v u Q I rx ry h=>by
 (show ι (gP h) λi μ h2=>?_;subst μ);(show ι (gP h2) λj μ q=>?_;subst μ);show EY pins s σ H _ _ v u Q I rx ry ⟨rfl,by rw[decide_eq_decide.mpr (V.str.injEq i j▸acd:V.str i=V.str j↔i=j)];show q⟩
def JT (hu:X.A.23+64 < cLine):M7 X (compareOp .Eq) (SY (T0 λi j=>.bl (decide (i=j))) (Xy (rSS λi j=>.bl (decide (i=j))) (λx y H Q=>rEq x y H Q\/aaU X.K false x y H Q))):=JP.i2 (JR.s2 (EX.or (JN hu)))
def JU (hu:X.A.23+64 < cLine):M7 X (compareOp .NotEq) (SY (T0 λi j=>.bl (!((decide (i=j))))) (Xy (rSS λi j=>.bl (!((decide (i=j))))) (λx y H Q=>rNe x y H Q\/aaU X.K true x y H Q))):=JQ.i2 (JS.s2 (EY.or (JO hu)))
abbrev W7 (p:-Nat->-Nat->Bool):R2:=λx y H Q=>onS x λi=>onS y λj=>Q (.bl (p i.11 j.11)) H
def JV:M7 X (compareOp .Lt) (W7 λa b=>decide (a < b)):=by
 intro pins s σ H x y v u Q I rx ry h;(show ι (gP h) λi μ h2=>?_;subst μ);(show ι (gP h2) λj μ q=>?_;subst μ);obtain⟨t,rfl⟩:=rx;obtain⟨t',rfl⟩:=ry;show PySem.P.lt_str (ϕ (.bl (decide (i.11 < j.11))) H I rfl q)
def JW:M7 X (compareOp .LtE) (W7 λa b=>!((decide (b < a)))):=by
 intro pins s σ H x y v u Q I rx ry h;(show ι (gP h) λi μ h2=>?_;subst μ);(show ι (gP h2) λj μ q=>?_;subst μ);obtain⟨t,rfl⟩:=rx;obtain⟨t',rfl⟩:=ry;show PySem.P.le_str (ϕ (.bl (!((decide (j.11 < i.11))))) H I rfl q)
def JX:M7 X (compareOp .Lt) (SY (T0 λi j=>.bl (decide (i < j))) (W7 λa b=>decide (a < b))):=Lo.i2 JV
def JY:M7 X (compareOp .LtE) (SY (T0 λi j=>.bl (decide (i<=j))) (W7 λa b=>!((decide (b < a))))):=Lp.i2 JW
def la:M7 X (compareOp .Gt) (T0 λi j=>.bl (decide (j < i))):=Lq
def JZ:M7 X (compareOp .GtE) (T0 λi j=>.bl (decide (j<=i))):=Lr
abbrev acI (K:Ψ):R2:=λx y H Q=>∃l b xs zs,x=.ref l/\y=.ref b/\G' K H l xs/\G' K H b zs/\xs.4+zs.4<=sizeLine/\∀p,H p=none->Q (.ref p) (upd H p (.lst (xs++zs)))
def Hm:M7 X (binaryOp .Add) (acI X.K):=by
 intro pins s σ H x y v u Q I rx ry h;(revert h;show N9 λl b xs zs μ=>Qy λM0 hH hB hz q=>?_;subst μ;subst M0);cases rx;cases ry;(show ϱ (I.list hH) λfT r p z1=>?_);(show ϱ (I.list hB) λZo r2 p2 z2=>?_);let h1:=r.4;let h2:=r2.4;(show ϱ p.21 λμ ho hc=>Sq λn hd=>?_;obtain ⟨cl,dc,dt,sl⟩:=μ);(show ϱ p2.21 λμ ho2 hc2=>Sq λn2 hd2=>?_;obtain ⟨cl2,dc2,dt2,sl2⟩:=μ);subst hc hd hc2 hd2;show concat_meets (Λ _ ho rfl) (Λ _ ho2 rfl) PySem.noFill_list_add PySem.seq_list_add PySem.F.slot_list_add PySem.F.entry_list_add (PySem.F.args_list_add_2 _ _) (list_addW l b fT.10 Zo.10 n n2 dc dc2 sl sl2 (by rw[Ϙ,Ϙ];lk)) ⟨ho,ho2,?_⟩;let ea:fT.10++Zo.10=(fT++Zo).10:=by simp
 rw[ea];show(ϕ (.ref _) _ (I.agP (r.append r2) (by rw[Χ];lk)) rfl (q _ I.72))
abbrev Zr:R2:=λx y H Q=>onS x λi=>onS y λj=>i.cps.toList.4+j.cps.toList.4<=sizeLine/\Q (.str (S (i.11++j.11))) H
def Fl:M7 X (binaryOp .Add) Zr:=by
 intro pins s σ H x y v u Q I rx ry h;(show ι (gP h) λi μ h2=>?_;subst μ);(show ϱ (gP h2) λj μ hz q=>?_;subst μ);show yK pins s σ H _ _ v u Q I rx ry (Fk i j rfl rfl ?_ ?_)
 ·let e:=fc i.11
  let e':=fc j.11;rw[<-qI] at e e';show hz
 ·let e:=Fi i.11 j.11
  rw[e];show q
def Hn:M7 X (binaryOp .Add) (SY (T0 λi j=>.int (i+j)) (Xy Zr (acI X.K))):=Jz.i2 (Fl.s2 Hm)
def wN:PIp X .Add (λx y H Q=>T0 (λi j=>.int (i+j)) x y H Q):=λpins s σ H x y v u Q I rx ry h=>Ha pins s σ H x y v u Q I rx ry h
def B5:MF X (.builtin "len") (λxs H Q=>∃l,xs=[.str (S l)]/\l.4<=sizeLine/\Q (.int l.4) H):=by
 intro pins s σ H xs us Q I r h;(revert h;show Nq λl μ hz q=>?_;subst μ);show vf pins s σ H _ us Q I r (ϡ (S l) rfl ?_ ?_)
 ·rw[fc];show hz
 ·rw[fc];show q
def B6:MF X (.builtin "len") (λxs H Q=>(∃p ys,xs=[.ref p]/\(G' X.K H p ys\/Of X.K H p ys)/\Q (.int ys.4) H)\/((∃l,xs=[.str (S l)]/\l.4<=sizeLine/\Q (.int l.4) H)\/(∃a ϓ,xs=[V.ref a]/\H a=!.dK ϓ/\Q (.int ϓ.4) H))):=
 ve.or (B5.or BY)
abbrev Oh (K:Ψ):-V->Hp->VK->Prop:=λxs H Q=>(∃x t n b,xs=[x,.ty n]/\Qb K H x t/\abP K t (.type n)=!b/\Q (.bl b) H)\/(∃x t C b,xs=[x,.ref C]/\Qb K H x t/\abP K t (.ref C)=!b/\Q (.bl b) H)
def nO:MF X (.builtin "isinstance") (Oh X.K):=by
 intro pins s σ H xs us Q I r h;rcases h with⟨x,t,n,b,rfl,ty,e,q⟩ | ⟨x,t,n,b,rfl,ty,e,q⟩
 ·(show Nm (vals2 r) λu w μ rx US=>?_;subst μ)
  cases US;show tN I rx ty e λtk=>(ϕ (.bl b) H (I.tok tk) rfl q)
 ·(show Nm (vals2 r) λu w μ rx US=>?_;subst μ)
  cases US;show tN I rx ty e λtk=>(ϕ (.bl b) H (I.tok tk) rfl q)
def B8:MF X (.builtin "ord") (λxs H Q=>∃c,xs=[.str (S [c])]/\Q (.int (c:Nat)) H):=by
 intro pins s σ H xs us Q I r h;(revert h;show ϭ λc μ q=>?_;subst μ);show E1 pins s σ H _ us Q I r (ϡ (S [c]) rfl rfl q)
def Ho (hu:X.A.23+1 < cLine):IxR X (λx y H Q=>∃a v,x=.ref a/\MG H a y (!v)/\Q v H):=by
 intro value slice pins s σ H x y v u Q I rx ry h hs;(revert h;show MM λa z μ g q=>?_;subst μ);cases (rx);show adH (wI I g) PySem.F.slot_dict_getitem.lookup (BW hu I g ry λw' s3 I3 US=>(ϕ z H I3 US q)) hs
abbrev acJ:R2:=λx y H Q=>∃l i c,x=.str (S l)/\y=.int i/\l.4<=sizeLine/\Za l i=!c/\Q (.str (S [c])) H
def Hq:IxR X acJ:=by
 intro value slice pins s σ H x y v u Q I rx ry h hs;(revert h;show QS λl i c μ M0 hz he q=>?_;subst μ;subst M0);show JF value slice pins s σ H _ _ v u Q I rx ry (IB (S l) i c rfl rfl (by rw[fc];show hz) (by simpa using he) q) hs
abbrev Rl (K:Ψ):R2:=λx y H Q=>agJ K x y H Q\/(agK K x y H Q\/(acJ x y H Q\/(∃a v,x=.ref a/\MG H a y (!v)/\Q v H)))
def J0 (hu:X.A.23+1 < cLine):IxR X (Rl X.K):=He.or (JE.or (Hq.or (Ho hu)))
abbrev ag5 (K:Ψ):V->Option Int->Option Int->Hp->VK->Prop:=λx lo hi H Q=>ajF K x lo hi H Q\/ajW x lo hi H Q
def J1:SlR X (ag5 X.K):=Hf.or JM
abbrev VB:V->V->V->Hp->(Hp->Prop)->Prop:=λo i v H Q=>afH o i v H Q\/∃a H',o=.ref a/\Qc H a i v H'/\Q H'
def bL (hu:X.A.23+1 < cLine):agD X VB:=by
 intro pins s σ H o i v ov iv u Q I ro ri rv h;rcases h with h | ⟨a,H',rfl,g,q⟩
 ·show set_list pins s σ H o i v ov iv u Q I ro ri rv h
 ·cases (ro)
  show BX hu I g ri rv λs4 I4=>(Λ H' I4 q)
def J2 (hu:X.A.23+1 < cLine):M7 X (compareOp .In) (λy x H Q=>∃a o,x=.ref a/\MG H a y o/\Q (.bl o.12) H):=by
 intro pins s σ H y x v u Q I ry rx h;(revert h;show MM λa o μ g q=>?_;subst μ);cases (rx);show Me hu I g ry λs3 I3=>(ϕ (.bl o.12) H I3 rfl q)
def B9 (hu:X.A.23+1 < cLine):M7 X (compareOp .NotIn) (λy x H Q=>∃a o,x=.ref a/\MG H a y o/\Q (.bl (!((o.isSome)))) H):=by
 intro pins s σ H y x v u Q I ry rx h;(revert h;show MM λa o μ g q=>?_;subst μ);cases (rx);show Hi hu I g ry λs3 I3=>(ϕ (.bl (!((o.isSome)))) H I3 rfl q)
abbrev Zs (j i:Str):Bool:=!(((PM j i 0 j.4 1).49))
def J3 (hu:X.A.23+1 < cLine):M7 X (compareOp .In) (λx y H Q=>rIn X.K false x y H Q\/((∃i j,x=.str i/\y=.str j/\Q (.bl (Zs j i)) H)\/(∃a o,y=.ref a/\MG H a x o/\Q (.bl o.12) H))):=
 BR.or (M7.or BO (J2 hu))
def Ca (hu:X.A.23+1 < cLine):M7 X (compareOp .NotIn) (λx y H Q=>rIn X.K true x y H Q\/((∃i j,x=.str i/\y=.str j/\Q (.bl (!((Zs j i)))) H)\/(∃a o,y=.ref a/\MG H a x o/\Q (.bl (!((o.isSome)))) H))):=
 vc.or (M7.or vd (B9 hu))
abbrev wS (sep:-Nat):-(-Nat)->-Nat
 | []=>[]
 | [x]=>x
 | x::rest=>x++sep++wS sep rest
def Cb (ls:-(-Nat)):wS [] ls=ls.55:=by
 induction ls with
 | nil=>rfl
 | cons a r ih=>
  cases r with
  | nil=>simp[wS]
  | cons b t=>rw[wS,ih];simp;intro h;cases h
def vk (sep:-Nat):∀ls:-(-Nat),aqD (S sep) (ls.map S)=S (wS sep ls)
 | []=>rfl
 | [x]=>rfl
 | x::y::r=>by
  let ih:=vk sep (y::r);change S x++S sep++aqD (S sep) ((y::r).map S)=S (x++sep++wS sep (y::r));rw[ih,Fi,Fi]
def yR:∀{us:-Υ},Vals (ls.map λl=>V.str (S l)) us->StrsAre us (ls.map S):=by
 induction ls with
 | nil=>intro us r;cases r;show .nil
 | cons a r ih=>
  intro us h;cases h with
  | cons h1 h2=>
   obtain⟨t,rfl⟩:=h1;show .cons _ t (ih h2)
abbrev rJoin (K:Ψ):V->-V->Hp->VK->Prop:=λx vs H Q=>∃sep p ls,x=.str (S sep)/\vs=[.ref p]/\G' K H p (ls.map λl=>V.str (S l))/\(ls.map K').76+ls.4 * sep.4<=16777216/\Q (.str (S (wS sep ls))) H
def Hr:MtR X "str.join" (rJoin X.K):=by
 intro pins s σ H x vs v us Q I rx rv h;(revert h;show QS λsep p ls μ M0 hq hz q=>?_;subst μ;subst M0);obtain⟨t,rfl⟩:=rx;(show ι (vals1 rv) λu μ ru=>?_;subst μ);cases ru;(show ϱ (I.list hq) λfT r pl _=>?_);show join_list pl.21 (by simpa using yR r) ?_ λt' k=>?_
 ·rw[ϣ,Θ]
  let e:(alP∘S)=K':=by funext l;show fc l
  show hz
 ·let e:Txt.join (S sep) (ls.map S)=S (wS sep ls):=(awj _ _).trans (vk sep ls)
  rw[e];show(ϕ (.str (S (wS sep ls))) H (I.tok k) ⟨t',rfl⟩ q)
abbrev ag6 (K:Ψ)(tl:TE):TI:=λσ H R=>tl σ H λx H1=>(∃a,x=.ref a/\(∃xs,G' K H1 a xs)/\R (Itl K a) H1)\/((∃a,x=.ref a/\(∃xs,Of K H1 a xs)/\R (Itt K a) H1)\/(∃z,x=.str z/\R (Its z) H1))
def J4 (hl:PE X l tl):PI X tg l (ag6 X.K tl):=by
 intro pins s σ H R I h;show L8 (hl pins s σ H _ I h) λv s1 x H1 I1 r1 q1=>?_;let fp:∀b,b∈[s1.5]->Rk X pins H1 b:=λb hb=>by
  let e:b=s1.5:=by simpa using hb
  subst e;show I1.Xx (δ _) (I1.lu.fresh (δ _))
 rcases q1 with⟨a,e,⟨xs,hq⟩,q⟩ | ⟨a,e,⟨xs,hq⟩,q⟩ | ⟨z,e,q⟩
 ·subst e
  cases r1;(show ϱ (I1.list hq) λfT rv p hz=>?_);show MR p.21 ?_;show(QA s1.5 ([s1.5]) _ _ H1 rfl (I1.kept λb o e=>Τ _ e) (BK a _) (ϡ _ (ώ _ rfl) rfl rfl) fp q)
 ·subst e
  cases r1;(show ϱ (I1.tuple hq) λfT rv p hz=>?_);show afu (p) ?_;show(QA s1.5 ([s1.5]) _ _ H1 rfl (I1.kept λb o e=>Τ _ e) (yG a _) (ϡ _ (ώ _ rfl) rfl rfl) fp q)
 ·subst e
  obtain⟨t,rfl⟩:=r1;show wpAny_pyIter_strU ?_;show(QA s1.5 ([s1.5]) _ _ H1 rfl (I1.kept λb o e=>Τ _ e) (Fj _ z t) (ϡ _ (ώ _ rfl) rfl rfl) fp q)
end
def kg {Q:Hp->Prop}(n:Nat)(hn:n<=sizeLine)(hD:H D=none)(item f:Nat->V)(p:Nat->Bool)
  (ajY:∀H',Ω H H'->J.stop n H') (hgo:∀i H',Ω H H'->i < n->J.go i H') (hy:∀i H' x OP,Ω H H'->i < n->J.Zh i H' x OP->OP=H'/\x=item i)
  (ht:∀i H',i < n->Ω H H'->∀Qt,(∀OP,Ω H' OP->Qt (p i) OP)->tt (some (item i)::σ) H' Qt)
  (he:∀i H',i < n->p i=true->Ω H H'->∀Qe,(∀OP,Ω H' OP->Qe (f i) OP)->te (some (item i)::σ) H' Qe)
  (hd:∀H',Ω H H'->H' D=!.lst (((Ϟ n).filter p).map f)->Q H') :
  ∃W:Nat->Nat->-V->Hp->Prop,(∃m,W 0 m [] (upd H D (.lst [])))/\∀i m ys H2,W i m ys H2->
   (J.stop i H2/\H2 D=!.lst ys/\Q H2)\/(J.go i H2/\ys.4 < sizeLine/\∀x H3,J.Zh i H2 x H3->tt (some x::σ) H3 λb H4=>
    if b=true then te (some x::σ) H4 λy H5=>H5 D=!.lst ys/\∃m',m' < m/\W (i+1) m' (ys++[y]) (upd H5 D (.lst (ys++[y]))) else ∃m',m' < m/\W (i+1) m' ys H4):=by
 let afL:∀{H':Hp} {ys:-V},Ω H H'->Ω H (upd H' D (.lst ys)):=λ{H' ys} h b o e=>by
  rw[ag (aq e hD)];show h b o e
 show(Λ (λi m ys H2=>m=n - i/\i<=n/\ys=((Ϟ i).filter p).map f/\H2 D=!.lst ys/\Ω H H2) (UM n rfl (Ϡ _) rfl aa (afL (Ω.refl _))) ?_)
 rintro i m ys H2 ⟨rfl,hi,e,hH,hs⟩
 let hlen:ys.4<=i:=by
  rw[e,Θ];show ο (sB _ _) (by rw[rc];show δ _)
 by_cases OM:i < n
 ·show .inr ⟨hgo i H2 hs OM,(),λx H3 y=>?_⟩
  obtain⟨rfl,rfl⟩:=hy i H2 x H3 hs OM y;let grow:((Ϟ (i+1)).filter p).map f=if p i=true then ys++[f i] else ys:=by
   rw[AT,MA,ϐ,<-e]
   by_cases hp:p i=true
   ·rw[γ hp];simp[hp]
   ·let hp':p i=false:=by simpa using hp
    simp[hp']
  show ht i _ OM hs _ λH4 s4=>?_
  by_cases hp:p i=true
  ·rw[hp,γ rfl]
   rw[γ hp] at grow;show he i H4 OM hp (hs.trans s4) _ λH5 s5=>⟨s5 _ _ (s4 _ _ hH),(TW (n - (i+1)) () rfl OM grow.17 aa (afL ((hs.trans s4).trans s5)))⟩
  ·let hp':p i=false:=by simpa using hp
   rw[hp',Φ ρ];rw[Φ hp] at grow;show(TW (n - (i+1)) () rfl OM grow.17 (s4 _ _ hH) (hs.trans s4))
 ·let ei:i=n:=by lk
  subst ei;rw[e] at hH;show .inl ⟨ajY _ hs,by rw[e];show hH,hd _ hs hH⟩
def dh (l:-α):l.filter (λ_=>true)=l:=by induction l<;>simp_all
def yS {Q:Hp->Prop}(lo:Int)(n:Nat)(hn:n<=sizeLine)(hD:H D=none)(f:Nat->V)
  (he:∀i H',i < n->Ω H H'->∀Qe,(∀OP,Ω H' OP->Qe (f i) OP)->te (some (.int (lo+i))::σ) H' Qe)
  (hd:∀H',Ω H H'->H' D=!.lst ((Ϟ n).map f)->Q H') :
  ∃W:Nat->Nat->-V->Hp->Prop,(∃m,W 0 m [] (upd H D (.lst [])))/\∀i m ys H2,W i m ys H2->
   ((Itr lo n).stop i H2/\H2 D=!.lst ys/\Q H2)\/((Itr lo n).go i H2/\ys.4 < sizeLine/\∀x H3,(Itr lo n).Zh i H2 x H3->UT (some x::σ) H3 λb H4=>
    if b=true then te (some x::σ) H4 λy H5=>H5 D=!.lst ys/\∃m',m' < m/\W (i+1) m' (ys++[y]) (upd H5 D (.lst (ys++[y]))) else ∃m',m' < m/\W (i+1) m' ys H4):=
 kg n hn hD (λi=>.int (lo+i)) f (λ_=>true) (λ_ _=>δ _) (λi _ _ h=>h) (λi H' x OP _ _ y=>y) (λi H' _ _ Qt q=>q H' (Ω.refl _)) (λi H' h _ s Qe q=>he i H' h s Qe q)
  (λH' s h=>hd H' s (by rw[dh] at h;show h))
def Ω.upd {D:Ι}{o:HO}(hD:H D=none):Ω H (upd H D o):=λb u e=>by
 rw[ag (aq e hD)];show e
def bj {xs:-α}{i:Int}(h0:0<=i)(h:xs[i.6]?=!v):Za xs i=!v:=by
 have:=Hd h
 rwa [show(i.6:Int)=i by lk] at this
def Ω.tup {K:Ψ}(e:Ω H H')(h:Of K H a xs):Of K H' a xs:=by
 rcases h with(h | ⟨o,h⟩) | h
 ·show .inl (.inl (e _ _ h))
 ·show .inl (.inr ⟨o,e _ _ h⟩)
 ·show .inr h
def Den.same {K:Ψ}(s:Ω H H'){v:V}{d:NP}(h:Den K H v d):Den K H' v d:=
 Den.rec .k4 .bl .int .str (λh _ t=>.lst (s.seq h) t) (λh _ t=>.tup (s.tup h) t) .nil (λ_ _ h t=>.cons h t) h
def Pq.same {K:Ψ}(s:Ω H H'){v:-V}{d:-NP}(h:Pq K H v d):Pq K H' v d:=by
 induction v generalizing d with
 | nil=>cases h;show .nil
 | cons a v ih=>cases h with | cons h t=>show .cons (h.same s) (ih t)
def a8 {K:Ψ}{x:V}{n:String}{b:Bool}(hT:∀t,Qb K H x t↔t=.type T)(hk:abP K (.type T) (.type n)=!b):Oh K [x,.ty n] H Q↔Q (.bl b) H:=by
 constructor
 ·rintro(⟨x',t,n',b',e,ty,k,q⟩ | ⟨x',t,C,b',e,ty,k,q⟩)
  ·simp only[aqE,V.ty.injEq,and_true] at e
   obtain⟨rfl,rfl⟩:=e;rw[(hT t).mp ty,hk] at k;cases k;show q
  ·simp at e
 ·intro q
  show .inl (UO x _ n b rfl ((hT _).mpr rfl) hk q)
def g9 {K:Ψ}(t:Υ):Qb K H .k4 t↔t=.type "NoneType":=⟨λh=>by cases h;rfl,λh=>h▸.k4⟩
def kh {K:Ψ}(b:Bool)(t:Υ):Qb K H (.bl b) t↔t=.type "bool":=⟨λh=>by cases h;rfl,λh=>h▸.bl b⟩
def hG {K:Ψ}(b:Int)(t:Υ):Qb K H (.int b) t↔t=.type "int":=⟨λh=>by cases h;rfl,λh=>h▸.int b⟩
def hJ {K:Ψ}(b:Str)(t:Υ):Qb K H (.str b) t↔t=.type "str":=⟨λh=>by cases h;rfl,λh=>h▸.str b⟩
def Fn {K:Ψ}(e:H a=!.lst xs)(t:Υ):Qb K H (.ref a) t↔t=.type "list":=by
 constructor
 ·intro h
  cases h<;>first | rfl | (rename_i e';rw[e] at e';cases e') | (rename_i e' _ _ _ _ _;rw[e] at e';cases e')
 ·intro h
  show h▸.lst e
def Fo {K:Ψ}(e:H a=!.tup xs)(t:Υ):Qb K H (.ref a) t↔t=.type "tuple":=by
 constructor
 ·intro h
  cases h<;>first | rfl | (rename_i e';rw[e] at e';cases e') | (rename_i e' _ _ _ _ _;rw[e] at e';cases e')
 ·intro h
  show h▸.tup e
def IP {K:Ψ}:Oh K [.k4,.ty "int"] H Q↔Q (.bl false) H:=a8 (g9) (by rfl)
def Hs {K:Ψ}:Oh K [.k4,.ty "bool"] H Q↔Q (.bl false) H:=a8 (g9) (by rfl)
def IQ {K:Ψ}:Oh K [.k4,.ty "str"] H Q↔Q (.bl false) H:=a8 (g9) (by rfl)
def Ht {K:Ψ}:Oh K [.k4,.ty "list"] H Q↔Q (.bl false) H:=a8 (g9) (by rfl)
def GW {K:Ψ}:Oh K [.k4,.ty "tuple"] H Q↔Q (.bl false) H:=a8 (g9) (by rfl)
def Hu {K:Ψ}:Oh K [.k4,.ty "dict"] H Q↔Q (.bl false) H:=a8 (g9) (by rfl)
def J5 {K:Ψ}{b:Bool}:Oh K [(.bl b),.ty "int"] H Q↔Q (.bl true) H:=a8 (kh _) (by rfl)
def IS {K:Ψ}{b:Bool}:Oh K [(.bl b),.ty "bool"] H Q↔Q (.bl true) H:=a8 (kh _) (by rfl)
def J6 {K:Ψ}{b:Bool}:Oh K [(.bl b),.ty "str"] H Q↔Q (.bl false) H:=a8 (kh _) (by rfl)
def IT {K:Ψ}{b:Bool}:Oh K [(.bl b),.ty "list"] H Q↔Q (.bl false) H:=a8 (kh _) (by rfl)
def Hv {K:Ψ}{b:Bool}:Oh K [(.bl b),.ty "tuple"] H Q↔Q (.bl false) H:=a8 (kh _) (by rfl)
def IU {K:Ψ}{b:Bool}:Oh K [(.bl b),.ty "dict"] H Q↔Q (.bl false) H:=a8 (kh _) (by rfl)
def IV {K:Ψ}{b:Int}:Oh K [(.int b),.ty "int"] H Q↔Q (.bl true) H:=a8 (hG _) (by rfl)
def Hy {K:Ψ}{b:Int}:Oh K [(.int b),.ty "bool"] H Q↔Q (.bl false) H:=a8 (hG _) (by rfl)
def IW {K:Ψ}{b:Int}:Oh K [(.int b),.ty "str"] H Q↔Q (.bl false) H:=a8 (hG _) (by rfl)
def Hz {K:Ψ}{b:Int}:Oh K [(.int b),.ty "list"] H Q↔Q (.bl false) H:=a8 (hG _) (by rfl)
def GX {K:Ψ}{b:Int}:Oh K [(.int b),.ty "tuple"] H Q↔Q (.bl false) H:=a8 (hG _) (by rfl)
def HA {K:Ψ}{b:Int}:Oh K [(.int b),.ty "dict"] H Q↔Q (.bl false) H:=a8 (hG _) (by rfl)
def IY {K:Ψ}{b:Str}:Oh K [(.str b),.ty "int"] H Q↔Q (.bl false) H:=a8 (hJ _) (by rfl)
def HB {K:Ψ}{b:Str}:Oh K [(.str b),.ty "bool"] H Q↔Q (.bl false) H:=a8 (hJ _) (by rfl)
def IZ {K:Ψ}{b:Str}:Oh K [(.str b),.ty "str"] H Q↔Q (.bl true) H:=a8 (hJ _) (by rfl)
def HC {K:Ψ}{b:Str}:Oh K [(.str b),.ty "list"] H Q↔Q (.bl false) H:=a8 (hJ _) (by rfl)
def GY {K:Ψ}{b:Str}:Oh K [(.str b),.ty "tuple"] H Q↔Q (.bl false) H:=a8 (hJ _) (by rfl)
def HD {K:Ψ}{b:Str}:Oh K [(.str b),.ty "dict"] H Q↔Q (.bl false) H:=a8 (hJ _) (by rfl)
def mv {K:Ψ}(e:H a=!.lst xs):Oh K [.ref a,.ty "list"] H Q↔Q (.bl true) H:=a8 (Fn e) (by rfl)
def sW {K:Ψ}(e:H a=!.tup xs):Oh K [.ref a,.ty "tuple"] H Q↔Q (.bl true) H:=a8 (Fo e) (by rfl)
abbrev XD (J:It)(g:TG)(tb:TS)(D:Ends)(σ:St)(H1:Hp):Prop:=∃W:Nat->Nat->St->Hp->Prop,(∃m,W 0 m σ H1)/\∀i m σ H,W i m σ H->
 (J.stop i H/\D.nx σ H)\/(J.go i H/\∃N,(∀σ' H',N σ' H'->∃m',m' < m/\W (i+1) m' σ' H')/\∀x H',J.Zh i H x H'->g x σ H' λσ2 H2=>tb { D with nx:=N,ct:=N,bk:=D.nx } σ2 H2)
def LZ (wi:TI)(g:TG)(tb:TS)(D:Ends)(σ:St)(H:Hp):aju wi g tb D σ H=wi σ H λJ H1=>XD J g tb D σ H1:=rfl
abbrev Sj (J:It)(tt:TT)(te:TE)(σ:St)(H1:Hp)(Q:VK):Prop:=∀D,H1 D=none->∃W:Nat->Nat->-V->Hp->Prop,(∃m,W 0 m [] (upd H1 D (.lst [])))/\∀i m ys H2,W i m ys H2->
 (J.stop i H2/\H2 D=!.lst ys/\Q (.ref D) H2)\/(J.go i H2/\ys.4 < sizeLine/\∀x H3,J.Zh i H2 x H3->tt (some x::σ) H3 λb H4=>
  if b=true then te (some x::σ) H4 λy H5=>H5 D=!.lst ys/\∃m',m' < m/\W (i+1) m' (ys++[y]) (upd H5 D (.lst (ys++[y]))) else ∃m',m' < m/\W (i+1) m' ys H4)
def Ly (wi:TI)(tt:TT)(te:TE)(σ:St)(H:Hp)(Q:VK):Yy wi tt te σ H Q=wi σ H λJ H1=>Sj J tt te σ H1 Q:=rfl
def wO (Pv:Nat->St->Hp->Prop)(h0:Pv 0 σ H)
  (hs:∀i c σ H,z.cps[i]?=!c->Pv i σ H->g (.str (S [c])) σ H λσ2 H2=>tb { D with nx:=Pv (i+1),ct:=Pv (i+1),bk:=D.nx } σ2 H2) (hd:∀σ H,Pv z.26 σ H->D.nx σ H):XD (Its z) g tb D σ H:=
 Hl Pv h0 hs hd
def bY {K:Ψ}(Pv:Nat->St->Hp->Prop)(h0:Pv 0 σ H)(hl:∀i σ H,i<=xs.4->Pv i σ H->G' K H a xs)
  (hs:∀i x σ H,xs[i]?=!x->Pv i σ H->g x σ H λσ2 H2=>tb { D with nx:=Pv (i+1),ct:=Pv (i+1),bk:=D.nx } σ2 H2) (hd:∀σ H,Pv xs.4 σ H->D.nx σ H):XD (Itl K a) g tb D σ H:=
 ER Pv h0 hl hs hd
def lg {lo:Int}(Pv:Nat->St->Hp->Prop)(h0:Pv 0 σ H)
  (hs:∀i σ H,i < n->Pv i σ H->g (.int (lo+i)) σ H λσ2 H2=>tb { D with nx:=Pv (i+1),ct:=Pv (i+1),bk:=D.nx } σ2 H2) (hd:∀σ H,Pv n σ H->D.nx σ H):XD (Itr lo n) g tb D σ H:=
 BN Pv h0 hs hd
def oU {lo:Int}(hn:n<=sizeLine)(f:Nat->V)
  (he:∀i H',i < n->Ω H H'->∀Qe,(∀OP,Ω H' OP->Qe (f i) OP)->te (some (.int (lo+i))::σ) H' Qe)
  (hd:∀D H',H D=none->Ω H H'->H' D=!.lst ((Ϟ n).map f)->Q (.ref D) H'):Sj (Itr lo n) UT te σ H Q:=
 λD hD=>yS lo n hn hD f he λH' s h=>hd D H' hD s h
def Mt {K:Ψ}{s:η}{E:XK} :
  (Su CX P w K mg base N qual scope f cd A outer s H E).K=K:=rfl
def Mr (a b:-Nat):(S a=S b)=(a=b):=propext ⟨tY,λh=>by rw[h]⟩
abbrev YB (K:Ψ):R2:=SY (T0 λi j=>.int (i+j)) (Xy Zr (acI K))
abbrev aaV (K:Ψ):R2:=SY (T0 λi j=>.bl (decide (i=j))) (Xy (rSS λi j=>.bl (decide (i=j))) (λx y H Q=>rEq x y H Q\/aaU K false x y H Q))
abbrev Zt (K:Ψ):R2:=SY (T0 λi j=>.bl (!((decide (i=j))))) (Xy (rSS λi j=>.bl (!((decide (i=j))))) (λx y H Q=>rNe x y H Q\/aaU K true x y H Q))
abbrev rLt:R2:=SY (T0 λi j=>.bl (decide (i < j))) (W7 λa b=>decide (a < b))
abbrev rLe:R2:=SY (T0 λi j=>.bl (decide (i<=j))) (W7 λa b=>!((decide (b < a))))
abbrev acK (K:Ψ):-V->Hp->VK->Prop:=λxs H Q=>(∃p ys,xs=[.ref p]/\(G' K H p ys\/Of K H p ys)/\Q (.int ys.4) H)\/((∃l,xs=[.str (S l)]/\l.4<=sizeLine/\Q (.int l.4) H)\/(∃a ϓ,xs=[V.ref a]/\H a=!.dK ϓ/\Q (.int ϓ.4) H))
abbrev aaW (K:Ψ):R2:=λx y H Q=>rIn K false x y H Q\/((∃i j,x=.str i/\y=.str j/\Q (.bl (Zs j i)) H)\/(∃a o,y=.ref a/\MG H a x o/\Q (.bl o.12) H))
abbrev aj0 (K:Ψ):R2:=λx y H Q=>rIn K true x y H Q\/((∃i j,x=.str i/\y=.str j/\Q (.bl (!((Zs j i)))) H)\/(∃a o,y=.ref a/\MG H a x o/\Q (.bl (!((o.isSome)))) H))
abbrev aaq (K:Ψ):-V->Hp->VK->Prop:=λxs H Q=>∃p ys,xs=[.ref p]/\(G' K H p ys\/Of K H p ys)/\∀l,H l=none->Q (.ref l) (upd H l (.lst ys))
abbrev aob:-V->Hp->VK->Prop:=λxs H Q=>∃c,xs=[.str (S [c])]/\Q (.int (c:Nat)) H
abbrev acL (K:Ψ)(x:V)(H1:Hp)(R:It->Hp->Prop):Prop:=(∃a,x=.ref a/\(∃xs,G' K H1 a xs)/\R (Itl K a) H1)\/((∃a,x=.ref a/\(∃xs,Of K H1 a xs)/\R (Itt K a) H1)\/(∃z,x=.str z/\R (Its z) H1))
def Ma (K:Ψ)(tl:TE)(σ:St)(H:Hp)(R:It->Hp->Prop):ag6 K tl σ H R=tl σ H λx H1=>acL K x H1 R:=rfl
abbrev aoc (K:Ψ)(ta:TE):TT:=λσ H Q=>ta σ H λx H'=>∃k,Wt K x H' k/\Q k H'
section
variable {K:Ψ} {R:It->Hp->Prop} {x:V} {p:Ι} {zs:-V}
def A7 {r r1 r2:R2}(hr:(isRef x || isRef y)=true)(h:r2 x y H Q):SY r (Xy r1 r2) x y H Q:=by
 cases x<;>cases y<;>first | show h | cases hr
def hV (i j:Int):YB K (.int i) (.int j) H Q=Q (.int (i+j)) H:=rfl
def Lz (i j:Str):YB K (.str i) (.str j) H Q=∃l m,i=S l/\j=S m/\l.4+m.4<=sizeLine/\Q (.str (S (l++m))) H:=
 propext ⟨λh=>(ϕ _ _ (qI i) (qI j) h),by rintro⟨l,m,rfl,rfl,h⟩;show h⟩
def LA (i j:-Nat):YB K (.str (S i)) (.str (S j)) H Q=(i.4+j.4<=sizeLine/\Q (.str (S (i++j))) H):=rfl
def A8 (h1:G' K H a xs)(h2:G' K H b zs)(hz:xs.4+zs.4<=sizeLine)(q:∀p,H p=none->Q (.ref p) (upd H p (.lst (xs++zs)))):YB K (.ref a) (.ref b) H Q:=((SV a b xs zs rfl rfl h1 h2 ⟨hz,q⟩))
def A9 (i j:Int):aaV K (.int i) (.int j) H Q=Q (.bl (decide (i=j))) H:=rfl
def Mb (i j:Int):Zt K (.int i) (.int j) H Q=Q (.bl (!(((decide (i=j)))))) H:=rfl
def Ba (i j:Str):aaV K (.str i) (.str j) H Q=Q (.bl (decide (i=j))) H:=rfl
def Mc (i j:Str):Zt K (.str i) (.str j) H Q=Q (.bl (!(((decide (i=j)))))) H:=rfl
def J7 {d e:NP}(hr:(isRef x || isRef y)=true)(h1:Den K H x d)(h2:Den K H y e)(s1:NC d=true)(s2:NC e=true)(q:Q (.bl (QO d e)) H):aaV K x y H Q:=A7 hr (.inr ⟨hr,(TV d e h1 h2 s1 s2 q)⟩)
def J8 {d e:NP}(hr:(isRef x || isRef y)=true)(h1:Den K H x d)(h2:Den K H y e)(s1:NC d=true)(s2:NC e=true)(q:Q (.bl (!((QO d e)))) H):Zt K x y H Q:=A7 hr (.inr ⟨hr,(TV d e h1 h2 s1 s2 q)⟩)
def yT (i j:Int):rLt (.int i) (.int j) H Q=Q (.bl (decide (i < j))) H:=rfl
def Mf (i j:Str):rLt (.str i) (.str j) H Q=Q (.bl (decide (i.11 < j.11))) H:=rfl
def Mg (i j:Int):rLe (.int i) (.int j) H Q=Q (.bl (decide (i<=j))) H:=rfl
def Mh (i j:Str):rLe (.str i) (.str j) H Q=Q (.bl (!((decide (j.11 < i.11))))) H:=rfl
def Mi (i:Str):acK K [.str i] H Q=∃l,i=S l/\l.4<=sizeLine/\Q (.int l.4) H:=by simp[acK]
def cO (h:G' K H p ys)(q:Q (.int ys.4) H):acK K [.ref p] H Q:=.inl (ϕ p ys rfl (.inl h) q)
def J9 (h:Of K H p ys)(q:Q (.int ys.4) H):acK K [.ref p] H Q:=.inl (ϕ p ys rfl (.inr h) q)
def Mj (i j:Str):aaW K (.str i) (.str j) H Q=Q (.bl (Zs j i)) H:=by simp[aaW,rIn]
def yU (h:G' K H p xs\/Of K H p xs)(f:N1 x=true)(g:xs.all N1=true)(q:Q (.bl (inV x xs)) H):aaW K x (.ref p) H Q:=.inl (TV p xs rfl h f g q)
def Ka (h:MG H p x o)(q:Q (.bl o.12) H):aaW K x (.ref p) H Q:=.inr (.inr (ϕ p o rfl h q))
def Fp (h:MG H p x o)(q:Q (.bl (!((o.isSome)))) H):aj0 K x (.ref p) H Q:=.inr (.inr (ϕ p o rfl h q))
def nP (h:G' K H p ys\/Of K H p ys)(q:∀l,H l=none->Q (.ref l) (upd H l (.lst ys))):aaq K [.ref p] H Q:=(ϕ p ys rfl h q)
def Ml (i:Str):Rl K (.str i) y H Q=acJ (.str i) y H Q:=by simp[Rl,agJ,agK]
def bx {i:Int}{v:V}(h:G' K H p xs)(e:Za xs i=!v)(q:Q v H):Rl K (.ref p) (.int i) H Q:=.inl (SV p xs i v rfl rfl h e q)
def bc {i:Int}{v:V}(h:Of K H p xs)(e:Za xs i=!v)(q:Q v H):Rl K (.ref p) (.int i) H Q:=.inr (.inl (SV p xs i v rfl rfl h e q))
def ay (h:MG H p y (!v))(q:Q v H):Rl K (.ref p) y H Q:=.inr (.inr (.inr (ϕ p v rfl h q)))
def yV {lo hi:Option Int}(h:G' K H a xs)(q:∀p,H p=none->Q (.ref p) (upd H p (.lst (S0 xs lo hi)))):ag5 K (.ref a) lo hi H Q:=.inl (ϕ a xs rfl h q)
def Mm (z:Str):acL K (.str z) H R=R (Its z) H:=by simp[acL]
def bS (h:G' K H a xs)(q:R (Itl K a) H):acL K (.ref a) H R:=.inl (ϡ a rfl ⟨xs,h⟩ q)
def Kb (h:Of K H a xs)(q:R (Itt K a) H):acL K (.ref a) H R:=.inr (.inl (ϡ a rfl ⟨xs,h⟩ q))
def vm (h:H p=!.lst xs)(e:ixN xs.4 k=!j)(q:Qh (upd H p (.lst (xs.set j v)))):VB (.ref p) (.int k) v H Qh:=.inl (SV p xs k j rfl rfl h e q)
def cu (h:Qc H p y v H')(q:Qh H'):VB (.ref p) y v H Qh:=.inr (ϕ p H' rfl h q)
def Mn (b k:Bool):Wt K (.bl b) H k=(k=b):=rfl
def Mo (k:Bool):Wt K .k4 H k=(k=false):=rfl
def Mp (i:Int)(k:Bool):Wt K (.int i) H k=(k=(i != 0)):=rfl
end
section
variable {X:Cx} {K:Ψ} {a b o l:tz} {tb tl:TE} {t:TA} {p2:Pos} {f:Str} {lo hi:Option tz} {tlo thi:TO}
def aX (hK: ~~~(X.K=K)):M7 X (binaryOp .Add) (YB K):=hK▸Hn
def bp (hu:X.A.23+64 < cLine)(hK: ~~~(X.K=K)):M7 X (compareOp .Eq) (aaV K):=hK▸JT hu
def eA (hu:X.A.23+64 < cLine)(hK: ~~~(X.K=K)):M7 X (compareOp .NotEq) (Zt K):=hK▸JU hu
def a9 (hK: ~~~(X.K=K)):MF X (.builtin "len") (acK K):=hK▸B6
def nQ:MF X (.builtin "ord") aob:=B8
def dU:M7 X (compareOp .Lt) rLt:=JX
def fJ:M7 X (compareOp .LtE) rLe:=JY
def bF (hK: ~~~(X.K=K)):MF X (.builtin "isinstance") (Oh K):=hK▸nO
def di (hK: ~~~(X.K=K)):MF X (.type "list") (aaq K):=hK▸vg
def HE (hu:X.A.23+1 < cLine)(hK: ~~~(X.K=K)):IxR X (Rl K):=hK▸J0 hu
def vn (hK: ~~~(X.K=K)):SlR X (ag5 K):=hK▸J1
def lh (hu:X.A.23+1 < cLine)(hK: ~~~(X.K=K)):M7 X (compareOp .In) (aaW K):=hK▸J3 hu
def tZ (hu:X.A.23+1 < cLine)(hK: ~~~(X.K=K)):M7 X (compareOp .NotIn) (aj0 K):=hK▸Ca hu
def mw (hK: ~~~(X.K=K)):MtR X "str.join" (rJoin K):=hK▸Hr
def bb (hl:PE X l tl)(hK: ~~~(X.K=K)):PI X tg l (ag6 K tl):=hK▸J4 hl
def HF (he:PE X e ta)(hb:attributeBase e f X.9 (eval e X.9)=eval e X.9)(hK: ~~~(X.K=K)):PE X (.Attribute e f pos) (agG K ta f):=hK▸JD he hb
def bg (ha:PE X a ta)(he:∀whole,isTrue a X.9 whole=(do let v <-whole;standAt a.pos;holding [v] (truthy v)))(hK: ~~~(X.K=K)) :
  PT X a (aoc K ta):=hK▸EZ ha he
def HG {id:String}{r:V->-V->Hp->VK->Prop}(pa:Y6 T)(slot:Slot T name id)(hty:typeOf (.builtin id)=pure (.type "method_descriptor"))(hm:MtR X id r)(ho:PE X o to)
  (S6: ~~~(attributeBase o name X.9 (eval o X.9)=eval o X.9)) (S7: ~~~((apos.64 == MP.53)=true)) (hK: ~~~(X.K=K)):PE X (.Call (.Attribute o name apos) [] [] MP) (ajG K T r to):=hK▸JH pa slot hty hm ho S6 S7
def bM {id:String}{r:V->-V->Hp->VK->Prop}(pa:Y6 T)(slot:Slot T name id)(hty:typeOf (.builtin id)=pure (.type "method_descriptor"))(hm:MtR X id r)(ho:PE X o to)(ha:PA X (e::es) t)
  (S6: ~~~(attributeBase o name X.9 (eval o X.9)=eval o X.9))
  (acB:autoParam (((backTo MP (starEach (e::es) X.9)).all (λx=>!((x.1))) && (backToKw MP (keywordEach [] X.9)).all (λx=>x.1.12)
   && decide ((e::es).4+([]:-Qo).4+(if ([]:-Qo).49 then 0 else 1) < 30))=true) L2.ϩ._auto_1)
  (S7: ~~~((apos.64 == MP.53)=true)) (hs: ~~~(StE X e es)) (Sv: ~~~((backTo MP (starEach es X.9)).any (·.1)=false)) (hK: ~~~(X.K=K)) :
  PE X (.Call (.Attribute o name apos) (e::es) [] MP) (tBM K T r to t):=hK▸Lu pa slot hty hm ho ha S6 acB S7 hs Sv
def cg {t:TGs}(hc:X.39=true)(h:PGs X es t)
  (hn: ~~~((assignEach es X.9).4=n)) (MZ: ~~~((assignEach es X.9).findIdx? (·.1)=none)) (hK: ~~~(X.K=K)):PG X (.Tuple es k pos) (ajq K n t):=hK▸Jx hc h hn MZ
end
section
variable {X:Cx}
abbrev aod (neg:Bool)(ta:TE)(tr:TA):TE:=λσ H Q=>ta σ H λx H1=>tr σ H1 λvs H2=>∃i a b,x=.int i/\vs=[.int a,.int b]/\Q (.bl (if neg then !(((decide (a<=i) && decide (i < b)))) else(decide (a<=i) && decide (i < b)))) H2
abbrev ame (neg:Bool)(ta:TE)(tr:TA):TE:=λσ H Q=>ta σ H λx H1=>tr σ H1 λvs H2=>∃i b,x=.int i/\vs=[.int b]/\Q (.bl (if neg then !(((decide (0<=i) && decide (i < b)))) else(decide (0<=i) && decide (i < b)))) H2
def wQ :∀{us:-Υ},Vals (bs.map V.bl) us->LSm.BoolsAre us bs:=by
 induction bs with
 | nil=>intro us r;cases r;show .nil
 | cons a r ih=>
  intro us h;cases h with
  | cons h1 h2=>
   cases (h1);show .cons _ (ih h2)
abbrev ag7 (K:Ψ):-V->Hp->VK->Prop:=λxs H Q=>∃(p:Ι) (bs:-Bool),xs=[.ref p]/\G' K H p (bs.map V.bl)/\Q (.bl (bs.all id)) H
def yW {h h':be}(hk:∀b x,b∉[h.7]->(h.push o).get? b=!x->h'.get? b=!x):∀b x,h.get? b=!x->h'.get? b=!x:=
 λb x e=>hk b x (λhm=>by rw[Ζ.mp hm] at e;show Nj _ (π e)) (Τ _ e)
def Cc (hc:X.39=true):MF X (.builtin "all") (ag7 X.K):=by
 intro pins s σ H xs us Q I r h;(revert h;show MM λp bs μ hq q=>?_;subst μ);(show ι (vals1 r) λu μ ru=>?_;subst μ);cases ru;(show ϱ (I.list hq) λfT rv pl hz=>?_);let hb:=wQ rv;let hl:=pl.21;let OM:p < s.5:=by (revert hl;show ϭ λ_ e _=>?_);show π e
 show call_all_walk (MR hl ?_)
 show(Da s.5 ([s.5,p]) ([s.5]) fT.18 _ _ (UM (λi=>(bs[i]?).getD true) rfl (aij (A:=X.A.in1) (I.ok.hd hc) _ p (Ϧ OM) fT.10) 
  ⟨(ϡ _ (ώ _ rfl) rfl rfl),hl.push _⟩ (λi v s' Q' E' hP hQ=>?_) (λh' tk hk=>?_)))
 ·(show ι (hb.get i v (by simpa using hP)) λb e μ=>?_;subst μ)
  simp only[e,aaH] at hQ;show ut hQ
 ·let e:((Ϟ fT.18).all λi=>(bs[i]?).getD true)=bs.all id:=by
   rw[Ϙ,hb.4];show LSm.range_all bs
  rw[e];show(ϕ (.bl _) H (I.kept (yW hk)) rfl q)
abbrev ag8 (K:Ψ):-V->Hp->VK->Prop:=λxs H Q=>∃(p:Ι) (ns:-Int),xs=[.ref p]/\G' K H p (ns.map V.int)/\Q (.int ns.76) H
def Cd (hc:X.39=true):MF X (.builtin "sum") (ag8 X.K):=by
 intro pins s σ H xs us Q I r h;(revert h;show MM λp ns μ hq q=>?_;subst μ);(show ι (vals1 r) λu μ ru=>?_;subst μ);cases ru;(show ϱ (I.list hq) λfT rv pl hz=>?_);let hi:=intsAre_of rv;obtain⟨xs,hx⟩:=hi.allInts.items;show sum_intListG (I.ok.hd hc) (hx▸pl.21) λh' tk t' hk=>?_;let e1:ns=xs.toList.map (·.1):=by
  rw[<-nums_intItems,<-hx];show(hi.numsOf).17
 let e2:preSum (numAt xs) xs.82=ns.76:=by
  rw[preSum_eq,Oz ∅,e1]
 rw[e2];show(ϕ (.int _) H (I.kept hk) ⟨_,rfl⟩ q)
def fz {K:Ψ}(hc: ~~~(X.39=true))(hK: ~~~(X.K=K)):MF X (.builtin "all") (ag7 K):=hK▸Cc hc
def nR {K:Ψ}(hc: ~~~(X.39=true))(hK: ~~~(X.K=K)):MF X (.builtin "sum") (ag8 K):=hK▸Cd hc
def nS {K:Ψ}{p:Ι}{bs:-Bool}(h:G' K H p (bs.map V.bl))(q:Q (.bl (bs.all id)) H):ag7 K [.ref p] H Q:=(ϕ p bs rfl h q)
def Fq {K:Ψ}{p:Ι}(h:G' K H p (ns.map V.int))(q:Q (.int ns.76) H):ag8 K [.ref p] H Q:=(ϕ p ns rfl h q)
abbrev aoe:-V->Hp->VK->Prop:=λxs H Q=>∃i j,xs=[.int i,.int j]/\Q (.int (max i j)) H
abbrev aof:-V->Hp->VK->Prop:=λxs H Q=>∃i j,xs=[.int i,.int j]/\Q (.int (min i j)) H
def Ce (hc:X.39=true):MF X (.builtin "max") aoe:=by
 intro pins s σ H xs us Q I r h;(revert h;show v0 λi j μ q=>?_;subst μ);show BP hc pins s σ H _ us Q I r (cr i j rfl ?_);rw[show(if j > i then j else i)=max i j by split<;>lk];show q
def Cf (hc:X.39=true):MF X (.builtin "min") aof:=by
 intro pins s σ H xs us Q I r h;(revert h;show v0 λi j μ q=>?_;subst μ);show BQ hc pins s σ H _ us Q I r (cr i j rfl ?_);rw[show(if j < i then j else i)=min i j by split<;>lk];show q
abbrev MO (i:Int):-Nat:=(toString i:Str).11
abbrev aj1:-V->Hp->VK->Prop:=λxs H Q=>∃i,xs=[.int i]/\i.83 < 1920/\Q (.str (S (MO i))) H
def fC {K:Ψ}:MF X (.type "str") aj1:=by
 intro pins s σ H xs us Q I r h;(revert h;show Nq λi μ hz q=>?_;subst μ);show u6 pins s σ H _ us Q I r (ϡ i rfl hz ?_);let e:(toString i:Str)=S (MO i):=qI _;rw[e];show q
end
structure Qg (K:Ψ)(x qual:Str)(st:ϟ)(f:Ι)(fd:Mx)(items:-Υ):Prop where
 ex:∃(oc:Υ) (od:Option Ι) (kV doc pm:Υ) (an:Option Ι) (Nd ct:Υ) (W1:Array (Option Υ)) (tD:Ι) (o:Obj) (n:Nat),
  fd=Nu x qual (My st) (wE st) (Ο st) (.ref tD) kV doc pm an Nd ct/\K.lookup f=!⟨oc,od,.func fd,W1⟩/\Rp K Nd qual=true/\K.lookup tD=!o/\o.52=.seq items.10 n
 kp:NI K (.ref f)=true
section
variable {P:ϯ} {K:Ψ} {base:be}
def Qg.ok {st:ϟ}{items:-Υ}(F:Qg K x qual st f fd items)(S:ζ N ps (Ο st))(len:∀vs H Q E,sp vs H Q E->vs.4=ps.4)
  (RB:∀(Nd:Υ) (A:QH) (outer:-Env) (s:η) (H:Hp) (vs:-V) (Q:VK) (E:XK),MW k (A.deeper (envOfC qual (Ο st) s.5 f Nd))->sp vs H Q E->
   ∃t,W2 (Su Yx P w K mg base N qual (Ο st) f Nd A outer s H E).SW (wE st) t/\t { nx:=λ_ H'=>Q .k4 H',rt:=Q } (start N vs) H):OZ P w K mg base Yx (k+1) f fd ps sp:=by
 (show UQ F.ex λoc od kV doc pm an=>L6 λNd ct W1 tD o n=>QT λμ lk TD _=>?_;subst μ);show AZ lk TD S len λA outer s H vs Q E hr PX=>?_;(show ι (RB Nd A outer s H vs Q E hr PX) λt h q=>?_);show(Λ t h.SW q)
def Qg.binds {st:ϟ}{items:-Υ}(ds:-Υ)(m:Nat)(hm:m+ds.4=ps.4)(F:Qg K x qual st f fd items)
  (h:∀(tD:Ι) (kV doc pm:Υ) (an:Option Ι) (Nd ct:Υ) (us:-Υ),us.4=m->
   ∃kk,bindArgs (Nu x qual (My st) (wE st) (Ο st) (.ref tD) kV doc pm an Nd ct) ⟨us,[]⟩=seqItems? (.ref tD) >>= kk/\kk (!items.10)=pure (ps.zip (us++ds))):Binds K fd ps ds:=by
 (show UQ F.ex λoc od kV doc pm an=>L6 λNd ct W1 tD o n=>Qy λμ lk TD ho hs=>?_;subst μ);intro s us X hl;rw[Χ] at hl;(show ι (h tD kV doc pm an Nd ct us ()) λkk h1 h2=>?_);show awk rfl (X _ _ ho) hs h1 h2
def df {st:ϟ}{kV:Υ}{td:Option Ι}{items:-Υ}
  (l:K.lookup f=!⟨oc,od,.func (Nu x qual (My st) (wE st) (Ο st) (.ref tD) kV doc pm an Nd ct),W1⟩)
  (c:Rp K Nd qual=true) (k:NI K (.ref f)=true) (dl:K.lookup tD=!⟨tc,td,.seq items.10 tn,tsl⟩):Qg K x qual st f (Nu x qual (My st) (wE st) (Ο st) (.ref tD) kV doc pm an Nd ct) items:=
 ⟨(Da oc od kV doc pm an (Da Nd ct W1 tD _ tn ⟨rfl,l,c,dl,rfl⟩)),k⟩
end
structure ϛ (A:-Ι)(H H':Hp):Prop where
 keep:∀b o,H b=!o->b∉A->H' b=!o
 tup:∀b xs,H b=!.tup xs->H' b=!.tup xs
def ϛ.refl {A:-Ι}(H:Hp):ϛ A H H:=⟨λ_ _ h _=>h,λ_ _ h=>h⟩
def ϛ.of_same {A:-Ι}(s:Ω H H'):ϛ A H H':=⟨λb o h _=>s b o h,λb xs h=>s b _ h⟩
def ϛ.trans {A:-Ι}(x:ϛ A H H1)(y:ϛ A H1 H2):ϛ A H H2:=⟨λb o h n=>y.keep b o (x.keep b o h n) n,λb xs h=>y.tup b xs (x.tup b xs h)⟩
def ϛ.mono {A B:-Ι}(x:ϛ A H H')(h:∀b,b∈A->b∈B):ϛ B H H':=⟨λb o e n=>x.keep b o e λz=>n (h b z),x.tup⟩
def ϛ.upd {A:-Ι}(ha:a∈A)(hm:∀xs,H a≠!.tup xs):ϛ A H (L2.upd H a o):=by
 show⟨λb u e n=>?_,λb xs e=>?_⟩
 ·let hb:b≠a:=λz=>by subst z;show n ha
  rw[ag hb];show e
 ·let hb:b≠a:=λz=>by subst z;show hm xs e
  rw[ag hb];show e
def ϛ.new {A:-Ι}(ha:H a=none):ϛ A H (L2.upd H a o):=.of_same (Ω.upd ha)
def cP (h:H a=!.dK ϓ):∀xs,H a≠!.tup xs:=λxs z=>by rw[h] at z;cases z
def cv {ϓ:-V}(h:H a=!.lst ϓ):∀xs,H a≠!.tup xs:=λxs z=>by rw[h] at z;cases z
def bA (h:H a=!.ins C dx fs):∀xs,H a≠!.tup xs:=λxs z=>by rw[h] at z;cases z
def mx {K:Ψ}(hl:G' K H a xs)(hn:xs.4<=sizeLine)(p:V->Bool)(f:V->V)
  (ht:∀x H',x∈xs->Ω H H'->∀Qt,(∀OP,Ω H' OP->Qt (p x) OP)->tt (some x::σ) H' Qt)
  (he:∀x H',x∈xs->p x=true->Ω H H'->∀Qe,(∀OP,Ω H' OP->Qe (f x) OP)->te (some x::σ) H' Qe)
  (hd:∀D H',H D=none->Ω H H'->H' D=!.lst ((xs.filter p).map f)->Q (.ref D) H'):Sj (Itl K a) tt te σ H Q:=λD hD=>
 kg xs.4 hn hD (λi=>xs.getD i .k4) (λi=>f (xs.getD i .k4)) (λi=>p (xs.getD i .k4)) (λH' s=>(Λ xs (s.seq hl) (δ _)))
  (λi H' s h=>(cr xs (xs[i]) (s.seq hl) ∅))
  (λi H' x OP s hi y=>by
   obtain⟨rfl,z⟩:=y;show⟨rfl,?_⟩;rw[ε,z xs (s.seq hl)]
   rfl)
  (λi H' h s Qt q=>ht _ H' (by rw[ε,Ε h];show ON h) s Qt q)
  (λi H' h hp s Qe q=>he _ H' (by rw[ε,Ε h];show ON h) hp s Qe q)
  (λH' s h=>hd D H' hD s (by
   rw[h];congr 2;let e:(Ϟ xs.4).map (λi=>xs.getD i .k4)=xs:=by
    show QP ∅ λi h1 h2=>?_;simp at h1 h2 ⊢;rw[Ε h2];rfl
   conv=>rhs;rw[<-e]
   rw[List.filter_map,ϣ]
   rfl))
def qJ {K:Ψ}(hl:G' K H a xs)(hn:xs.4<=sizeLine)(f:V->V)
  (he:∀x H',x∈xs->Ω H H'->∀Qe,(∀OP,Ω H' OP->Qe (f x) OP)->te (some x::σ) H' Qe)
  (hd:∀D H',H D=none->Ω H H'->H' D=!.lst (xs.map f)->Q (.ref D) H'):Sj (Itl K a) UT te σ H Q:=
 mx hl hn (λ_=>true) f (λx H' _ s Qt q=>q H' (Ω.refl _)) (λx H' h _ s Qe q=>he x H' h s Qe q) (λD H' h s e=>hd D H' h s (by rw[dh] at e;show e))
def LC {l:-Ι}(h:l.14)(ha:l[i]?=!a)(hb:l[j]?=!b)(hij:i≠j):a≠b:=by
 intro e;subst e;obtain⟨hi,ea⟩:=Α.mp ha;obtain⟨hj,eb⟩:=Α.mp hb;let hp:=gl.mp h;rcases Ob hij with q | q
 ·show hp i j hi hj q (ea.trans eb.17)
 ·show hp j i hj hi q (eb.trans ea.17)
section
variable {X:Cx} {s:η} {h':be}
def Inv.RT {l:-Ι}(I:Inv X pins σ H s)(k:∀b o,b∉l->s.heap.get? b=!o->h'.get? b=!o)(hf:∀b∈l,Rk X pins H b):Inv X pins σ H { s with heap:=h',toks:=t' }:=by
 let nit:∀b u,H b=!u->b∉l:=λb u e z=>by rw[(hf b z).1] at e;cases e
 show I.step (λb hb=>?_) (λb o _ _ hc e _=>k b o hc e) (λb o _ _ hc e _=>⟨o.68,k b o hc e⟩) (λ_ _ _ _ n=>n)
  (λb o hc e=>⟨o,k b o hc e⟩) (λ_ _ e=>e) (λ_ _ _ e=>e) (λb ps e=>⟨#[],by rw[e];simp⟩) (λm hm=>?_) (λb u e=>?_) I.46
 ·(show UP (hf b hb) λf0 f1 f2 f3 f4 f5=>?_)
  show⟨f3,f1,f4,f5⟩
 ·(revert hm;show Rw λo es ep ho r=>?_)
  show(SU o es ep (k _ o (λz=>(hf _ z).2.1 rfl) ho) r)
 ·show(I.lu b u e).Qa (λc v hc q=>k c v ?_ q) (λ_ q=>q) λ_ _ q=>q
  rcases hc with z | z
  ·rw[z];show nit b u e
  ·show nit c _ z
def Inv.acM {T:Ι}(I:Inv X pins σ H s)(f:Rk X pins H T)(new:Na X.24 X.w (upd H T o) s.8 T o)(ht:∀xs,o=.tup xs->True):Inv X pins σ (upd H T o) { s with toks:=t' }:=by
 (revert f;show RY λf0 f1 f2 f3 f4 f5=>?_);show I.step (ch:=[T]) (λb hb=>?_) (λb ob _ _ hc e _=>e) (λb ob _ _ hc e _=>⟨ob.68,e⟩) (λb ob hc e n=>?_)
  (λb ob hc e=>⟨ob,e⟩) (λb xs e=>?_) (λb ob u e=>?_) (λb ps e=>⟨#[],?_⟩) (λm hm=>hm) (λb u e=>?_) I.46
 ·let e:b=T:=by simpa using hb
  subst e;show⟨f3,f1,f4,f5⟩
 ·rw[ag (λz=>hc (by simp[z]))];show n
 ·rw[ag (aq e f0)];show e
 ·rw[ag (aq e f0)];show e
 ·rw[ag (aq e f0),e];simp
 ·by_cases hb:b=T
  ·subst hb
   rw[aa] at e;cases e;show new
  ·rw[ag hb] at e
   show(I.lu b u e).Qa (λc v _ q=>q) (λc q=>?_) λc xs q=>?_
   ·rw[ag (aq q f0)];show q
   ·rw[ag (aq q f0)];show q
end
abbrev Itz (K:Ψ)(a b:Ι):It:=
 ⟨λi H=>∃xs ys x y,G' K H a xs/\G' K H b ys/\xs[i]?=!x/\ys[i]?=!y,
  λi H v H'=>∃T x y,v=.ref T/\H T=none/\H'=upd H T (.tup [x,y])/\(∀xs,G' K H a xs->xs[i]?=!x)/\∀ys,G' K H b ys->ys[i]?=!y,
  λi H=>∃xs ys,G' K H a xs/\G' K H b ys/\(xs.4<=i\/ys.4<=i)⟩
section
variable {X:Cx}
abbrev atJ (K:Ψ)(ta:TA):TI:=λσ H R=>ta σ H λvs H1=>∃a b xs ys,vs=[.ref a,.ref b]/\G' K H1 a xs/\G' K H1 b ys/\R (Itz K a b) H1
end
abbrev Ite (K:Ψ)(a:Ι):It:=
 ⟨λi H=>∃xs x,G' K H a xs/\xs[i]?=!x,
  λi H v H'=>∃T x,v=.ref T/\H T=none/\H'=upd H T (.tup [.int (i:Nat),x])/\∀xs,G' K H a xs->xs[i]?=!x,
  λi H=>∃xs,G' K H a xs/\xs.4<=i⟩
def Cg {P:ϯ}{K:Ψ}(a e it:Ι)(hei:e≠it) :
  Turn P w K (.Tuple elts k0 pos) (Ite K a) [e,it] e (λi h=>(∃old,abT h e it ((i:Nat):Int) old)/\h.IsListIter it a i) where
 mem:=by simp
 obj:=λi h st c hc=>by
  obtain⟨⟨old,he⟩,⟨o1,e1,c1,d1⟩⟩:=st;simp only[Κ,Μ,χ] at hc;rcases hc with rfl | rfl
  ·show(Λ _ he (λv q=>by cases q))
  ·show(Λ _ e1 (λv q=>by rw[d1] at q;cases q))
 keep:=λi h h' st k=>by
  obtain⟨⟨old,he⟩,h1⟩:=st;show⟨⟨old,k _ ∅ _ he⟩,h1.at λo e=>k _ ∅ o e⟩
 item:=by
  intro X hP hw hK hc i pins s σ H E I hf st hg;subst hP hw hK;obtain⟨⟨old,he⟩,h1⟩:=st;(revert hg;show v0 λxs x hx ex=>?_);(show ϱ (I.list hx) λfT rv p _=>?_);(show ι (rv.get ex) λu hu ru=>?_);show wpAny_pyNext_enum_item he h1 p.21 (by simpa using hu) hei λh' a1 a2 a3 a4 hk=>?_;show(Λ _ rfl (Y7 a1 λh'' ag9 sb=>?_));let I2:Inv X pins σ (upd H s.5 (.tup [.int i,x])) { s with heap:=h'',toks:=s.29+1 }:=(I.RT (t':=s.29+1) (λc o hc q=>sb.extBut _ _ (λz=>hc (by simp[z])) (hk c o (λz=>hc (by simp[z])) (λz=>hc (by simp[z])) q)) hf).acM (I.Xx (δ _) I.72) ⟨(by show 2<=sizeLine;decide),(Λ ([.int i s.29,u]) (.cons ⟨_,rfl⟩ (.cons ru .nil)) (ϡ _ (sb.extBut _ _ (K4 (π he)) a3) rfl (N' _ rfl)))⟩ (λ_ _=>trivial);show(TV (.ref s.5) _ I2 rfl (Fk _ x rfl I.72 rfl (λzs hq=>by rw[I.mf hq hx];show ex)) ?_ (λc hc=>?_))
  ·show⟨⟨u,by rw[show(((i+1:Nat)):Int)=(i:Int)+1 by lk];show ag9⟩,a2.extBut sb.34 (ψ hei)⟩
  ·let RS:c < s.5:=by
    (revert h1;show ϭ λo1 e1 _=>?_);simp only[Κ,Μ,χ] at hc;rcases hc with rfl | rfl
    ·show π he
    ·show π e1
   rw[ag (Ϧ RS)];show(hf c hc).1
 done:=by
  intro X hP hw hK hc i pins s σ H E I hf st hg;subst hP hw hK;obtain⟨⟨old,he⟩,h1⟩:=st;(revert hg;show ϭ λxs hx aj3=>?_);(show ϱ (I.list hx) λfT rv p _=>?_);let l1:=rv.4;show wpAny_pyNext_enum_end (I.ok.hd hc) he h1 p.21 (by simp;lk) λh' hk=>⟨rfl,(I.RT (λc o hc q=>hk c o (λz=>hc (by simp[z])) q) hf)⟩
 self:=λ_ _ _ _ _ st h=>by
  obtain⟨⟨old,he⟩,_⟩:=st;show Re he h
section
variable {X:Cx}
abbrev afM (K:Ψ)(ta:TA):TI:=λσ H R=>ta σ H λvs H1=>∃a xs,vs=[.ref a]/\G' K H1 a xs/\R (Ite K a) H1
def Fs {a:tz}{ta:TA}(hg:Gl X "enumerate")(hm:X.mg "enumerate"=none)(ha:PA X [a] ta)(hs: ~~~(starEach [a] X.9=[(false,eval a X.9)])) :
  PI X (.Tuple elts k0 aee) (.Call (.Name "enumerate" p) [a] [] pos) (afM X.K ta):=by
 intro pins s σ H R I h;show agk (eY I hg hm alS (bn (UR (ha pos pins s σ H _ I h) λus s1 vs H1 I1 r1 q1=>?_) hs rfl));(revert q1;show MM λl1 xs μ hx q=>?_;subst μ);(show ι (vals1 r1) λu μ ru=>?_;subst μ);cases ru;(show ϱ (I1.list hx) λfT rx px _=>?_);show call_enumerate_list px.21 λh' z1 z2 z3 hk=>Re z1 (QA _ _ _ _ H1 rfl (I1.kept hk) (Cg l1 _ _ (K4 (MX _))) ⟨⟨_,z1⟩,z2⟩ (λc hc=>?_) q);let RS:s1.5<=c:=by
  simp only[Κ,Μ,χ] at hc;rcases hc with rfl | rfl<;>lk
 show I1.Xx RS (I1.lu.fresh RS)
def fk {K:Ψ}{a:tz}{ta:TA}(hg:Gl X "enumerate")(hm:X.mg "enumerate"=none)(ha:PA X [a] ta)(hs: ~~~(starEach [a] X.9=[(false,eval a X.9)]))
  (hK: ~~~(X.K=K)):PI X (.Tuple elts k0 aee) (.Call (.Name "enumerate" p) [a] [] pos) (afM K ta):=hK▸Fs hg hm ha hs
end
def ki {K:Ψ}(Pv:Nat->St->Hp->Prop)(h0:Pv 0 σ H)(hl:∀i σ H,i<=xs.4->Pv i σ H->G' K H a xs)
  (hs:∀i x T σ H,xs[i]?=!x->H T=none->Pv i σ H->g (.ref T) σ (upd H T (.tup [.int (i:Nat),x])) λσ2 H2=>tb { D with nx:=Pv (i+1),ct:=Pv (i+1),bk:=D.nx } σ2 H2)
  (hd:∀σ H,Pv xs.4 σ H->D.nx σ H):XD (Ite K a) g tb D σ H:=by
 show(Λ (λi m σ H=>m=xs.4 - i/\i<=xs.4/\Pv i σ H) (ϡ _ rfl (Ϡ _) h0) ?_)
 rintro i m σ H ⟨rfl,hi,p⟩
 let lx:=hl i σ H hi p
 by_cases OM:i < xs.4
 ·show .inr ⟨(cr xs (xs[i]) lx ∅),(Λ (Pv (i+1)) (λσ' H' p'=>(MD (xs.4 - (i+1)) () rfl OM p')) (λv H' y=>?_))⟩
  (revert y;show P9 λT x μ hT M0 h1=>?_;subst μ;subst M0);show hs i x T σ _ (h1 xs lx) hT p
 ·let e:i=xs.4:=by lk
  subst e;show .inl ⟨(Λ xs lx ()),hd σ H p⟩
abbrev wn (c k:Int):Int:=((c % 2147483647 * 48271+7919 * k+1) % 2147483647) * ((c % 2147483647 * 48271+7919 * k+1) % 2147483647) % 2147483647
def Bb (c k:Int):0<=wn c k/\wn c k < 2147483647:=by unfold wn;lk
abbrev Ft:Sp:=aI λc=>aI λk=>aN λH Q _=>Q (.int (wn c k)) H
abbrev yX (K:Ψ):Sp:=aR λp=>aI λk=>aN λH Q _=>∃(ns:-Int),G' K H p (ns.map V.int)/\0<=k/\Q (.int (ns.getD k.6 0)) H
abbrev T62:-Nat:=[48,49,50,51,52,53,54,55,56,57,97,98,99,100,101,102,103,104,105,106,107,108,109,110,111,112,113,114,115,116,117,118,119,120,121,122,65,66,67,68,69,70,71,72,73,74,75,76,77,78,79,80,81,82,83,84,85,86,87,88,89,90]
abbrev T34:-Nat:=[32,33,34,35,36,38,39,40,41,42,43,44,45,46,47,58,59,60,61,62,63,64,91,92,93,94,95,96,123,124,125,126,10,9]
abbrev T96:-Nat:=T62++T34
abbrev sgn (n m:Int):Nat:=T96.getD (n % m).toNat 0
abbrev HH:Sp:=aI λn=>aI λm=>aN λH Q _=>0 < m/\m<=96/\Q (.str (S [sgn n m])) H
def Fu (n m:Int)(h0:0 < m)(h1:m<=96):T96[(n % m).6]?=!sgn n m:=by
 let hl:(n % m).6 < T96.length:=by
  let h2:=Nb n h0;let h3:=A' n (show m≠0 by lk);let h4:T96.length=96:=by decide
  lk
 change T96[(n % m).6]?=!T96.getD (n % m).toNat 0;rw[ε,Ε hl];rfl
abbrev Oi (c:Nat):Bool:=decide (32<=c) && decide (c<=126) && decide (c≠37)
def Fv (n:Int):Oi (sgn n 94)=true:=by
 let OM:(n % 94).6 < 94:=by lk
 let key:∀i,i < 94->∀c,T96[i]?=!c->Oi c=true:=by decide +kernel
 show key _ OM _ (Fu n 94 "!" "!")
abbrev yY (K:Ψ):Sp:=λvs H Q _=>∃(p:Ι) (ns:-Int),vs=[.ref p]/\G' K H p (ns.map V.int)/\ns.4<=63/\∀H',Q (.bl true) H'
def qK (z:-Nat):wS [] (z.map λk=>[k])=z:=by
 rw[Cb]
 induction z with
 | nil=>rfl
 | cons x r ih=>simp_all
def t7 (z:-Nat):(PP K' (z.map λk=>[k])).76=z.4:=by
 induction z with
 | nil=>rfl
 | cons x r ih=>simp_all;lk
def aj4 (a b:Nat):([a] < [b])↔a < b:=by
 rw[List.cons_lt_cons_iff];simp
def nU (hn:l.4<=sizeLine)(f:Nat->V)
  (he:∀c H',c∈l->Ω H H'->∀Qe,(∀OP,Ω H' OP->Qe (f c) OP)->te (some (.str (S [c]))::σ) H' Qe)
  (hd:∀D H',H D=none->Ω H H'->H' D=!.lst (l.map f)->Q (.ref D) H'):Sj (Its (S l)) UT te σ H Q:=λD hD=>
 kg l.4 hn hD (λi=>.str (S [l.getD i 0])) (λi=>f (l.getD i 0)) (λ_=>true) (λ_ _=>by show(S l).26<=l.4;simp) (λi _ _ h=>by show i < (S l).26;simpa using h)
  (λi H' x OP _ hi y=>by
   (revert y;show Nl λμ=>ϭ λc hc M0=>?_;subst μ;subst M0);let Yf:l[i]?=!c:=by simpa using hc
   show⟨rfl,?_⟩;rw[ε,Yf]
   rfl)
  (λi H' _ _ Qt q=>q H' (Ω.refl _))
  (λi H' h _ s Qe q=>he _ H' (by rw[ε,Ε h];show ON h) s Qe q)
  (λH' s h=>hd D H' hD s (by
   rw[dh] at h;rw[h];congr 2;show QP ∅ λi h1 h2=>?_;simp at h1 h2 ⊢;rw[Ε h2]
   rfl))
def yZ {i:Int}(h0:0<=i)(h1:i.6 < n):ixN n i=!i.6:=by
 unfold ixN;rw[γ h0,γ ()]
abbrev XE (l:-Nat):Prop:=∀c∈l,c < 1114112
def eE {i:Int}(h0:-(((2 ^ 64))) < i)(h1:i < 2 ^ 64):i.83 < 1920:=by
 by_cases hz:i.natAbs=0
 ·rw[hz];decide
 ·show Ϥ ((Nat.log2_lt hz).mpr (show i.natAbs < 2 ^ 64 by lk)) "!"
abbrev wd (n:Nat)(d:NP):Prop:=d.canLay0=true/\d.78<=n
def Kc (n:Nat):wd n .none:=⟨rfl,Ϡ _⟩
def LD (n:Nat)(b:Bool):wd n (.bool b):=⟨rfl,Ϡ _⟩
def Fw (n:Nat)(i:Int):wd n (.int i):=⟨rfl,Ϡ _⟩
def Kd (n:Nat)(h:XE l):wd n (.str (S l)):=by
 show⟨?_,Ϡ _⟩;show(S l).cps.all (· < 0x110000)=true;simp;show h
def y6 {n:Nat}:∀{ds:-NP},(∀d∈ds,wd n d)->aaf ds=true/\abU ds<=n
 | [],_=>⟨rfl,Ϡ _⟩
 | d::r,h=>by
  obtain⟨h1,h2⟩:=h d ϳ;obtain⟨h3,h4⟩:=y6 (n:=n) (ds:=r) λx hx=>h x (θ _ hx);show⟨?_,?_⟩
  ·rw[aaf,h1,h3];rfl
  ·rw[abU];show Nat.max_le.mpr ⟨h2,h4⟩
def Bc {ds:-NP}(h:∀d∈ds,wd n d):wd (n+1) (.list ds):=by
 obtain⟨h1,h2⟩:=y6 h;show⟨by rw[ace];show h1,by rw[ad'];lk⟩
def qL {ds:-NP}(h:∀d∈ds,wd n d):wd (n+1) (.tuple ds):=by
 obtain⟨h1,h2⟩:=y6 h;show⟨by rw[ace];show h1,by rw[ad'];lk⟩
def wd.shaped {d:NP}(h:wd n d)(hn:autoParam (n<=64) L2.M9._auto_1):NC d=true:=by
 unfold NC;rw[h.1,ϝ (ο h.2 hn)];rfl
def t8 {K:Ψ}{x:V}{d:NP}(h1:Den K H x d)(h2:Den K H y d)(hw:wd n d)(hr:(isRef x || isRef y)=true)(q:Q (.bl false) H)(hn:autoParam (n<=64) L2.M9._auto_1):Zt K x y H Q:=
 J8 hr h1 h2 (hw.shaped hn) (hw.shaped hn) (by rw[adM d hw.1];show q)
def nV {K:Ψ}{x:V}{d:NP}(h1:Den K H x d)(h2:Den K H y d)(hw:wd n d)(hr:(isRef x || isRef y)=true)(q:Q (.bl true) H)(hn:autoParam (n<=64) L2.M9._auto_1):aaV K x y H Q:=
 J7 hr h1 h2 (hw.shaped hn) (hw.shaped hn) (by rw[adM d hw.1];show q)
def oW {K:Ψ}:∀ns:-Int,Pq K H (ns.map V.int) (ns.map Zd)
 | []=>.nil
 | n::r=>.cons (.int n) (oW r)
def wR {K:Ψ}{p:Ι}(h:G' K H p (ns.map V.int)):Den K H (.ref p) (.list (ns.map Zd)):=.lst h (oW ns)
def HI (ns:-Int):wd 1 (.list (ns.map Zd)):=Bc λd hd=>by
 (show ι (ω.mp hd) λn _ μ=>?_;subst μ);show Fw 0 n
abbrev Scr (K:Ψ)(H:Hp)(A:-Ι)(p:Ι)(xs:-V):Prop:=(G' K H p xs/\p∉A)\/∀H',G' K H' p xs
def Scr.sq {K:Ψ}{A:-Ι}{p:Ι}(h:Scr K H A p xs):G' K H p xs:=h.elim (·.1) (· H)
def Scr.im {K:Ψ}{A:-Ι}{p:Ι}(h:Scr K H A p xs)(c:ϛ A H H'):Scr K H' A p xs:=by
 rcases h with⟨h,hp⟩ | h
 ·show .inl ⟨?_,hp⟩
  rcases h with(h | ⟨o,h⟩) | h
  ·show .inl (.inl (c.keep _ _ h hp))
  ·show .inl (.inr ⟨o,c.keep _ _ h hp⟩)
  ·show .inr h
 ·show .inr h
def Scr.of {K:Ψ}{A:-Ι}{p:Ι}(h:G' K H p xs)(f:∀b∈A,H b=none):Scr K H A p xs:=by
 rcases h with(h' | ⟨o,h'⟩) | h'
 ·show .inl ⟨.inl (.inl h'),λz=>by rw[f p z] at h';cases h'⟩
 ·show .inl ⟨.inl (.inr ⟨o,h'⟩),λz=>by rw[f p z] at h';cases h'⟩
 ·show .inr λ_=>.inr h'
abbrev W8:V->NP
 | .bl b=>.bool b
 | .int i=>.int i
 | .str x=>.str x
 | _=>.none
def Fx {K:Ψ}(f:N1 v=true):Den K H v (W8 v):=by
 cases v with
 | k4=>show .k4
 | bl b=>show .bl b
 | int i=>show .int i
 | str x=>show .str x
 | _=>show absurd (f) ρ
def dP {K:Ψ}:∀{vs:-V},vs.all N1=true->Pq K H vs (vs.map W8)
 | [],_=>.nil
 | v::r,h=>by
  rw[Xr,io] at h;show .cons (Fx h.1) (dP h.2)
abbrev YC:V->Prop
 | .str x=>XE x.11
 | _=>True
def vo (n:Nat)(h:YC v):wd n (W8 v):=by
 cases v with
 | str x=>have:=Kd n h;rwa [<-qI] at this
 | bl b=>show LD n b
 | int i=>show Fw n i
 | _=>show Kc n
abbrev M3 (H:Hp):-Ι->-(-V)->Prop:=Paired λt xs=>H t=!.tup xs
abbrev ϲ (H:Hp)(D:Ι)(rows:-(-V)):Prop:=∃ts,H D=!.lst (ts.map V.ref)/\M3 H ts rows
def M3.im {A:-Ι}(h:M3 H ts rows)(c:ϛ A H H'):M3 H' ts rows:=Paired.agt h λ_ _ e=>c.tup _ _ e
def ϲ.im {A:-Ι}(h:ϲ H D rows)(c:ϛ A H H')(hD:D∉A):ϲ H' D rows:=by
 (revert h;show ϭ λts e t=>?_);show(Λ ts (c.keep _ _ e hD) (t.im c))
def ϲ.same (h:ϲ H D rows)(s:Ω H H'):ϲ H' D rows:=h.im (A:=[]) (ϛ.of_same s) ∅
def M3.den {K:Ψ}(h:M3 H ts rows):(∀r∈rows,r.all N1=true)->Pq K H (ts.map V.ref) (rows.map λr=>.tuple (r.map W8)):=by
 intro f
 induction h with
 | nil=>show .nil
 | @cons t xs ts rows e r ih=>
  show .cons (.tup (.inl (.inl e)) (dP (f xs ϳ))) (ih λz hz=>f z (θ _ hz))
def ϲ.den {K:Ψ}(h:ϲ H D rows)(f:∀r∈rows,r.all N1=true):Den K H (.ref D) (.list (rows.map λr=>.tuple (r.map W8))):=by
 (revert h;show ϭ λts e t=>?_);show .lst (.inl (.inl e)) (t.den f)
def Bd (h:∀r∈rows,∀v∈r,YC v):wd 2 (.list (rows.map λr=>.tuple (r.map W8))):=Bc λd hd=>by
 (show ι (ω.mp hd) λr hr μ=>?_;subst μ);show qL λe he=>by
  (show ι (ω.mp he) λv hv μ=>?_;subst μ);show vo 0 (h r hr v hv)
def M3.get (h:M3 H ts rows):∀{i:Nat} {t:Ι},ts[i]?=!t->∃xs,rows[i]?=!xs/\H t=!.tup xs:=by
 induction h with
 | nil=>intro i t e;simp at e
 | @cons a b as bs e r ih=>
  intro i t q;cases i with
  | zero=>simp at q;subst q;show(Λ b rfl e)
  | succ i=>simpa using ih (by simpa using q)
def M3.length (h:M3 H ts rows):ts.4=rows.4:=Paired.length h
def M3.snoc {t:Ι}(h:M3 H ts rows)(e:H t=!.tup xs):M3 H (ts++[t]) (rows++[xs]):=by
 induction h with
 | nil=>show .cons e .nil
 | cons e' r ih=>show .cons e' ih
noncomputable abbrev Oa:=-Nat×Option (-Nat)×Int
abbrev wV:Option (-Nat)->V
 | none=>.k4
 | some l=>.str (S l)
abbrev Wv (x:Oa):-V:=[.str (S x.1),wV x.2.1,.int x.2.2]
structure MB where
 first:Int
 last:Int
 drawn:Int
 L:Int->Option Oa
abbrev XF:MB:=⟨0,0,0,λ_=>none⟩
abbrev YD (M:MB)(d:Ι):-(Str×V):=[("first",.int M.56),("end",.int M.19),("drawn",.int M.drawn),("letters",.ref d)]
abbrev VC (H:Hp):Option Oa->V->Prop
 | none,v=>v=.k4
 | some x,v=>∃t,v=.ref t/\H t=!.tup (Wv x)
abbrev Ps (H:Hp)(ϓ:-(Key×V))(L:Int->Option Oa):Prop:=∀p,VC H (L p) ((lc ϓ (.inl p)).getD .k4)/\((lc ϓ (.inl p)).12=(L p).12)
def VC.im {A:-Ι}(c:ϛ A H H')(h:VC H o v):VC H' o v:=by
 cases o with
 | none=>show h
 | some x=>(revert h;show ϭ λt e ht=>?_);show(Λ t e (c.tup _ _ ht))
def Ps.im {A:-Ι}(c:ϛ A H H')(h:Ps H ϓ L):Ps H' ϓ L:=λp=>⟨(h p).1.im c,(h p).2⟩
def Ps.put (h:Ps H ϓ L){p:Int}{x:Oa}{t:Ι}(ht:H t=afv (.tup (Wv x))):Ps H (putK ϓ (.inl p) (.ref t)) (λq=>if q=p then afv x else L q):=by
 intro q;rw[dB]
 by_cases e:q=p
 ·subst e
  rw[γ rfl];dsimp only;rw[γ rfl];show⟨(Λ t rfl ht),rfl⟩
 ·let e':¬(PL q:Key)=PL p:=λz=>e (Ya z)
  rw[Φ e'];dsimp only;rw[Φ e];show h q
def t9 [DecidableEq κ](ϓ:-(κ×V))(k j:κ):lc (Og ϓ k) j=if j=k then Ur else lc ϓ j:=by
 induction ϓ with
 | nil=>rw[show Og ([]) k=[] from rfl,Fa];split<;>rfl
 | cons p r ih=>
  by_cases e:p.1=k
  ·rw[BZ e,ih]
   by_cases ej:j=k
   ·rw[γ ej,γ ej]
   ·rw[Φ ej,Φ ej,bK (λz=>ej (z.symm.trans e))]
  ·rw[B0 e]
   by_cases ep:p.1=j
   ·rw[cf ep,cf ep,Φ (λz=>e (ep.trans z))]
   ·rw[bK ep,bK ep,ih]
def Ps.drop (h:Ps H ϓ L)(p:Int):Ps H (Og ϓ (.inl p)) (λq=>if q=p then Ur else L q):=by
 intro q;rw[t9]
 by_cases e:q=p
 ·subst e
  rw[γ rfl];dsimp only;rw[γ rfl];show⟨rfl,rfl⟩
 ·let e':¬(PL q:Key)=PL p:=λz=>e (Ya z)
  rw[Φ e'];dsimp only;rw[Φ e];show h q
structure ND (C:Ι)(H:Hp)(r d:Ι)(M:MB):Prop where
 obj:∃dx,H r=!.ins C dx (YD M d)
 dict:∃ϓ,H d=!.dK ϓ/\(ϓ.4:Int)<=M.19/\Ps H ϓ M.L
 f0:0<=M.56
 fl:M.56<=M.19
 dr:0<=M.drawn
 within:∀p,(M.L p).12=true->M.56<=p/\p < M.19
def ND.im {A:-Ι}(h:ND C H r d M)(c:ϛ A H H')(hr:r∉A)(hd:d∉A):ND C H' r d M:=by
 obtain⟨dx,e⟩:=h.30;(show ϱ h.51 λϓ e2 l t=>?_);show⟨⟨dx,c.keep _ _ e hr⟩,(ϡ ϓ (c.keep _ _ e2 hd) l (t.im c)),h.f0,h.fl,h.dr,h.within⟩
def ND.ne (h:ND C H r d M):r≠d:=by
 obtain⟨dx,e⟩:=h.30;(show ι h.51 λϓ e2 _=>?_);show bO e e2 (by intro z;cases z)
abbrev MB.add (M:MB)(x:Oa):MB:={ M with last:=M.19+1,L:=λq=>if q=M.19 then some x else M.L q }
abbrev MB.out (M:MB)(p:Int):MB:={ M with L:=λq=>if q=p then none else M.L q }
abbrev MB.Mu (M:MB)(lo:Int)(n:Nat):-Int:=((Ϟ n).map λ(i:Nat)=>lo+(i:Int)).filter λq=>(M.L q).12
def kG (M:MB)(lo:Int)(i:Nat):M.Mu lo (i+1)=M.Mu lo i++(if (M.L (lo+(i:Int))).12=true then[lo+(i:Int)] else[]):=by
 unfold MB.Mu;rw[AT,ϐ,MA];simp only[Ϗ,Po,NG,Rr]
def vp (M:MB)(lo:Int)(n:Nat):(M.Mu lo n).4<=n:=by
 show ο (sB _ _) ∅
abbrev MB.UU (M:MB)(p:Int):-V:=match M.L p with
 | some x=>[.int p,.str (S x.1),wV x.2.1]
 | none=>[]
abbrev wU (C:Ι):Sp:=aR λr=>aI λst=>aI λli=>aI λmo=>aN λH Q _=>∃d M,ND C H r d M/\M.19<=100000/\st=0/\M.56=0/\0<=li/\li<=M.19/\M.19 < mo/\
 ∀D H',H D=none->Ω H H'->ϲ H' D ((M.Mu 0 li.6).map M.UU)->Q (.ref D) H'
abbrev wW (C:Ι):Sp:=aR λx=>aN λH Q _=>∃dx,H x=!.ins C dx []/\∀d H',H d=none->d≠x->ϛ [x] H H'->ND C H' x d XF->Q .k4 H'
abbrev y8 (C:Ι):Sp:=aR λr=>aT λz2=>aV λz3=>aI λz4=>aN λH Q _=>∃d M x,z2=x.1/\z3=wV x.2.1/\z4=x.2.2/\ND C H r d M/\M.19<=100000/\∀H',ϛ [r,d] H H'->ND C H' r d (M.add x)->Q (.int M.19) H'
abbrev Ch (C:Ι):Sp:=aR λr=>aI λp=>aN λH Q _=>∃d M,ND C H r d M/\∀v,VC H (M.L p) v->Q v H
abbrev y9 (C:Ι):Sp:=aR λr=>aI λp=>aN λH Q _=>∃d M,ND C H r d M/\∀H',ϛ [d] H H'->ND C H' r d (M.out p)->Q (.bl (M.L p).12) H'
def za (M:MB)(d:Ι):(YD M d).lookup (ϒ "first")=!.int M.56:=rfl
def wX (M:MB)(d:Ι):(YD M d).lookup (ϒ "end")=!.int M.19:=rfl
def iD (M:MB)(d:Ι):(YD M d).lookup (ϒ "letters")=!.ref d:=rfl
def Fy (M:MB)(d:Ι):(YD M d).lookup (ϒ "add")=none:=rfl
def HJ (M:MB)(d:Ι):(YD M d).lookup (ϒ "at")=none:=rfl
section
variable {X:Cx}
abbrev T3 (lo:Int)(n:Nat):-V:=(Ϟ n).map λ(i:Nat)=>V.int (lo+(i:Int))
abbrev atK (ta:TA):TE:=λσ H Q=>ta σ H λvs H1=>∃j,vs=[.int j]/\-(((2 ^ 62)))<=j/\j<=sizeLine/\∀l,H1 l=none->Q (.ref l) (upd H1 l (.lst (T3 0 j.6)))
abbrev aoi (ta:TA):TE:=λσ H Q=>ta σ H λvs H1=>∃i j,vs=[.int i,.int j]/\(-(((2 ^ 62)))<=i/\i < 2 ^ 62/\-(((2 ^ 62)))<=j/\j < 2 ^ 62)/\j - i<=sizeLine/\∀l,H1 l=none->Q (.ref l) (upd H1 l (.lst (T3 i (j - i).6)))
def zc {lo:Int}(h:ItemsOf (λi v=>∃t,v=.int (lo+i * 1) t) acc n):Vals (T3 lo n) acc.37:=by
 obtain⟨hs,hv⟩:=h;let key:∀(k:Nat) l,l.4=k->∀lo:Int,(∀(j:Nat) v,l[j]?=!v->∃t,v=abK (lo+(j:Int) * 1) t)->Vals (T3 lo k) l:=by
  intro k
  induction k with
  | zero=>intro l hl lo _;cases l with
   | nil=>show .nil
   | cons=>cases hl
  | succ k ih=>
   intro l hl lo hv;cases l with
   | nil=>cases hl
   | cons u us=>
    let e:T3 lo (k+1)=V.int lo::T3 (lo+1) k:=by
     unfold T3;rw[List.range_succ_eq_map,Ϗ,ϣ];congr 1
     ·simp
     ·show NL λa _=>?_
      simp only[Vq];congr 1
      lk
    rw[e];obtain⟨t,ht⟩:=hv 0 u rfl;show .cons ⟨t,by rw[ht];simp⟩ (ih us (by simpa using hl) (lo+1) λj v hj=>?_);obtain⟨t',ht'⟩:=hv (j+1) v (by simpa using hj);show⟨t',by rw[ht'];congr 1;push_cast;lk⟩
 show key n acc.37 (by simpa using hs) lo λj v hj=>by simpa using hv j v (by simpa using hj)
def wY {lo hi:Int}{t u v:Tok}(hc:X.39=true)(I:Inv X pins σ H s)(h1:-(((2 ^ 62)))<=lo)(h2:lo < 2 ^ 62)(h3:-(((2 ^ 62)))<=hi)(h4:hi < 2 ^ 62)
  (hn:hi - lo<=sizeLine) (q:∀l,H l=none->Q (.ref l) (upd H l (.lst (T3 lo (hi - lo).6)))) :
  wpAny X.mo X.A (call (.type "list") [.ref s.5]) (EP X pins σ Q) E { s with heap:=s.heap.push (Rgo lo hi t u v),toks:=tk }:=by
 let I1:Inv X pins σ H { s with heap:=s.heap.push (Rgo lo hi t u v),toks:=tk }:=I.kept λb o e=>Τ _ e;let e2:TL lo hi 1=(((hi - lo).6):Int):=by rw[amZ];split<;>lk
 let hsl:sizeLine<=2 ^ 24:=by decide
 show call_list_range (I.ok.hd hc) (ad8 ..) (ax0 h1 h2 h3 h4) e2 () λh' tk' aoj c' kp e aok=>?_;show(ϕ (.ref _) _ (I1.laid kp (δ _) (show Na X.24 X.w _ h' _ (.lst _) from⟨by rw[T3];simp;lk,(cr aoj.37 c' (zc aok) e)⟩)) rfl (q _ (I1.lu.fresh (δ _))))
def sX {a b:tz}{ta:TA}(hc:X.39=true)(hg':Gl X "list")(hm':X.mg "list"=none)(hg:Gl X "range")(hm:X.mg "range"=none)(ha:PA X [a,b] ta)
  (hs: ~~~(starEach [a,b] X.9=[(false,eval a X.9),(false,eval b X.9)])) (hs2: ~~~(starEach [b] X.9=[(false,eval b X.9)]))
  (he: ~~~(starEach [.Call (.Name "range" p) [a,b] [] pos] X.9=[(false,eval (.Call (.Name "range" p) [a,b] [] pos) X.9)])) :
  PE X (.Call (.Name "list" p') [.Call (.Name "range" p) [a,b] [] pos] [] pos') (aoi ta):=by
 intro pins s σ H Q I h;show mD (eY I hg' hm' N0 (bn ?_ he rfl) "!" "!");show Ϻ (agk (eY I hg hm afq (bn (UR (ha pos pins s σ H _ I h) λus s1 vs H1 I1 r1 q1=>?_) (by rw[hs,hs2]) (by rw[hs2];rfl))));(revert q1;show P9 λi j e μ q5 q=>?_;obtain ⟨q1,q2,q3,q4⟩:=μ);subst e;cases r1 with
 | cons r rr=>
  cases rr with
  | cons r' rr=>
   cases rr;obtain⟨t,rfl⟩:=r;obtain⟨t',rfl⟩:=r';show aqz (pr (wY hc I1 q1 q2 q3 q4 q5 q))
end
abbrev Zu (l:-Str)(x:Str):-Str:=if l.any (· == x) then l else l++[x]
abbrev Oj (l:-Str):-Str:=l.foldl Zu []
def fK (l:-Str)(x:Str):Oj (l++[x])=Zu (Oj l) x:=by simp[Oj]
def Ci:∀n l,l.4=n->∀k,(Oj l).any (· == k)=l.any (· == k):=by
 intro n
 induction n with
 | zero=>intro l hl k;cases l with
  | nil=>rfl
  | cons=>cases hl
 | succ n ih=>
  intro l hl k;obtain⟨m,x,rfl⟩:∃m x,l=m++[x]:=⟨l.84,l.getLast (by intro z;rw[z] at hl;cases hl),(Pe _).17⟩
  let hm:m.4=n:=by simpa using hl
  rw[fK,Vr];unfold Zu
  split
  ·rename_i h
   rw[ih m hm] at h ⊢
   by_cases e:x=k
   ·subst e;rw[h];simp
   ·simp[e]
  ·rw[Vr,ih m hm]
def my:∀n l,l.4=n->(Oj l).4<=n:=by
 intro n
 induction n with
 | zero=>intro l hl;cases l with
  | nil=>show δ _
  | cons=>cases hl
 | succ n ih=>
  intro l hl;obtain⟨m,x,rfl⟩:∃m x,l=m++[x]:=⟨l.84,l.getLast (by intro z;rw[z] at hl;cases hl),(Pe _).17⟩
  have:=ih m (by simpa using hl);rw[fK];unfold Zu
  split
  ·lk
  ·rw[Χ,EQ];lk
def wZ:∀n l,l.4=n->l.14->(Oj l).4=n:=by
 intro n
 induction n with
 | zero=>intro l hl;cases l with
  | nil=>intro _;rfl
  | cons=>cases hl
 | succ n ih=>
  intro l hl hd;obtain⟨m,x,rfl⟩:∃m x,l=m++[x]:=⟨l.84,l.getLast (by intro z;rw[z] at hl;cases hl),(Pe _).17⟩
  let hm:m.4=n:=by simpa using hl
  let hx:=λz=>by
   have:=υ.mp hd;show this.2.2 x z x ∅ rfl
  rw[fK];unfold Zu;rw[Φ,Χ,ih m hm (υ.mp hd).1,EQ];rw[Ci n m hm];intro z;(show ι (acf.mp z) λy hy e=>?_);show hx (by rw[<-eq_of_beq e];show hy)
section
variable {s:η}
def w4 {K:Type}[DecidableEq K][BEq K][LawfulBEq K]{knd:KeyKind prog w K}{h:be}{S S':K->Bool}(hS:h.SetOf knd a S n)(e:∀k,S k=S' k)(en:n=n'):h.SetOf knd a S' n':=by
 rw[<-funext e,<-en];show hS
def Cj {I S:Ι}{ls:-Str}{P:Nat->Υ->Prop}{St:Nat->η->Prop}(W:WalksS prog w A.in1 I fp wr G ls.4 P St)(hSf:S∉fp)
  (aom:∀i v,P i v->∃x t,ls[i]?=!x/\v=.str x t) (hb:ls.4+1 < scanBound) :
  ∀(k i:Nat) (s:η),ls.4 - i=k->i<=ls.4->St i s->
   s.heap.SetOf (strKind prog w) S (λx=>(Oj (ls.take i)).any (· == x)) (Oj (ls.take i)).4->
   (∀s',Moved (S::wr) G s s'->s'.heap.SetOf (strKind prog w) S (λx=>(Oj ls).any (· == x)) (Oj ls).4->R (.ok (.ret .none)) s')->
   codeAny (model prog w) A (.builtin "set.update.loop" ⟨[.ref S,.ref I],[]⟩) R s:=by
 let hSw:=λh=>hSf (W.sub _ h);let YE:∀b∈wr,b∈S::wr:=λb hb=>θ _ hb;let carry:∀{T:Str->Bool} {m:Nat} {s s':η},Moved wr G s s'->s.heap.SetOf (strKind prog w) S T m->s'.heap.SetOf (strKind prog w) S T m:=by
  rintro T m s s' hm ⟨o,es,ep,t,ho,rest⟩
  show(Sr o es ep t (hm.heap S _ hSw ho) rest)
 intro k
 induction k with
 | zero=>
  intro i s hk hi MZ hS hR;let hin:i=ls.4:=by lk
  show So Qx ?_;rw[hin] at MZ hS;rw[bv] at hS;show Ν (W.done s _ _ MZ λs' hm=>ύ (hR s' (hm.mono YE) (carry hm hS)))
 | succ k ih=>
  intro i s hk hi MZ hS hR;show So Qx (Ν (W.item i s _ _ () MZ λv s' hP acO hm=>?_));(show Rh (aom i v hP) λx t hx μ=>?_;subst μ);let hS':=carry hm hS;show Ν (MC (MC ?_));show Ν ((strKind prog w).pyHash (awl _ _ _ _) ?_);let aj6:(Oj (ls.take i)).4+1 < scanBound:=by
   have:=my _ (ls.take i) rfl;rw[eF] at this;lk
  show wpAny_setAddHashed_of (awl _ _ _ _) rfl hS' aj6 λh' hsb hS2=>?_;let et:ls.take (i+1)=ls.take i++[x]:=by rw[aea,hx];rfl
  let hSi:h'.SetOf (strKind prog w) S (λy=>(Oj (ls.take (i+1))).any (· == y)) (Oj (ls.take (i+1))).4:=by
   show w4 hS2 (λy=>?_) ?_
   ·rw[et,fK]
    unfold Zu
    by_cases h:(Oj (ls.take i)).any (· == x)=true
    ·rw[γ h]
     by_cases e:y=x
     ·subst e;rw[h];rfl
     ·simp[e]
    ·rw[Φ h,Vr]
     by_cases e:y=x
     ·subst e;simp
     ·let e':¬x=y:=λz=>e z.17
      simp[e,e']
   ·rw[et,fK]
    unfold Zu
    split<;>simp
  show ύ ⟨plainId_quiet agn _,ih (i+1) _ () () (W.frame _ s' _ _ acO (Pc _) λb hb o e=>?_) hSi λs'' aoo aop=>?_⟩
  ·rw[hsb.2 b (λh:b=S=>hSf (by rw[<-h];show hb))];show e
  ·show hR s'' (Moved.trans W.gtrans ((hm.mono YE).then_heap (Pc _) λb o hb e=>?_) aoo) aop
   rw[hsb.2 b (λh:b=S=>hb (by rw[h];show ϳ))];show e
end
section
variable {s:η}
abbrev Nr (led:Bool):Obj:={ cls:=.type "set",dict:=none,data:=.set #[] 0 (.fresh 0 0 led) }
abbrev Vi (prog:ϯ)(w:J')(s:η)(ls:-Str)(s₂:η):Prop:=∃h' tk,s₂={ s with heap:=h',toks:=tk }/\h'.SetOf (strKind prog w) s.5 (λx=>(Oj ls).any (· == x)) (Oj ls).4/\
 ∀b o,s.heap.get? b=!o->h'.get? b=!o
def Cm {ls:-Str}(hh:A.48=none)(hl:s.heap.IsList l items)(hs:items.82=ls.4)(hi:∀(i:Nat) (v:Υ),items[i]?=!v->∃x t,ls[i]?=!x/\v=.str x t)(hb:ls.4+1 < scanBound) :
  wpAny (model prog w) A.in1.in1 (Wj.«set.__init__» ⟨[.ref s.5,.ref l],[]⟩)
   (λfin s'=>match fin with | .done f=>wants (λr s₂=>r=.none/\Vi prog w s ls s₂) E (.ok f) s' | .again c'=>c'.quiet=true/\codeAny (model prog w) A.in1 c' (wants (λr s₂=>r=.none/\Vi prog w s ls s₂) E) s')
   (λe s'=>wants (λr s₂=>r=.none/\Vi prog w s ls s₂) E (.error e) s') { s with heap:=s.heap.push (Nr led) }:=by
 (show ϱ (id hl) λμ hol RS=>Sq λnl Yg=>?_;obtain ⟨atP,aj7,aq4,ahb⟩:=μ);subst RS;subst Yg;let hlS:=π hol;let aoq:(s.heap.push (Nr led)).get? l=some { cls:=.type "list",dict:=aj7,data:=.seq items nl,slots:=ahb }:=Τ _ hol;let hS:(s.heap.push (Nr led)).get? s.5=!Nr led:=ώ _ rfl;let YF:(s.heap.push (Nr led)).IsList l items:=(ϡ _ aoq rfl (N' nl rfl))
 let atQ:=PySem.F.sub_list_set;let atR:=PySem.F.sub_list_frozenset;let hne:(We "list" == We "dict")=false:=by decide
 unfold Wj.«set.__init__» noKeywords adN;generalize hPI:pyIter=PI
 wp_walk
 subst hPI;show MR YF (Ν (wpAny_runValue ?_));let aor:l≠(s.heap.push (Nr led)).7:=by rw[bw];show Ϧ (Us hlS)
 let hSf:s.5∉[(s.heap.push (Nr led)).7,l]:=by
  rw[bw];simp only[Κ,Μ,χ,Yl];show⟨Ϧ (MX _),K4 hlS⟩
 let W:=(aij (prog:=prog) (w:=w) (A:=A.in1.in1.in1) (by simp[hh]) _ l aor items).toS;rw[hs] at W;show Cj W hSf hi hb (ls.4 - 0) 0 _ () (Ϡ _) ⟨(ϡ _ (ώ _ rfl) rfl rfl),(YF.push _)⟩ ?_ λs' hm hS'=>?_
 ·show w4 ((ai1 led).setOf (Τ _ hS) (by unfold scanBound;lk)) (λ_=>rfl) rfl
 ·obtain⟨h',g',d',tk',os'⟩:=s'
  let eg:=hm.80;let ed:=hm.drawn;let eo:=hm.os;subst eg;subst ed;subst eo;change wpAny _ _ _ _ _ _;show ύ ?_;change wpAny _ _ (ret NY) _ _ _;show ύ ⟨rfl,(ϕ h' tk' rfl hS' (λb o e=>?_))⟩;let Zv:=π e;show hm.heap b o ?_ (Τ _ (Τ _ e));rw[bw];simp only[Κ,Μ,χ,Yl];show⟨Ϧ Zv,Ϧ (Us Zv)⟩
def Cn {ls:-Str}{Q:Υ->η->Prop}(hh:A.48=none)(hl:s.heap.IsList l items)(hs:items.82=ls.4)(hi:∀(i:Nat) v,items[i]?=!v->∃x t,ls[i]?=!x/\v=.str x t)(hb:ls.4+1 < scanBound)
  (h:∀s',Vi prog w s ls s'->Q (.ref s.5) s'):wpAny (model prog w) A (call (.type "set") [.ref l]) Q E s:=by
 let ft:=PySem.F.called_set;(show acn ft.mro λc tl aos=>?_);let aj8:=ft.made;let YE:=ft.sub;show Pg (Yc (ύ ⟨PR _ (s!"d"),So PySem.F.entry_type_call ?_⟩))
 repeat (any_goals (first | assumption | wp_step))
 show MQ (code_set_new_1 (.ref l) (E:=E) (Q₁:=λobj s₁=>∃led,obj=.ref s.5/\s₁={ s with heap:=s.heap.push (Nr led) }) λled=>(Λ led rfl rfl)) λr s₁ hr=>?_;cases r with
 | error e=>show hr
 | ok fl=>
  cases fl with
  | ret obj=>
   (revert hr;show ϭ λled μ M0=>?_;subst μ;subst M0);let hS:(s.heap.push (Nr led)).get? s.5=!Nr led:=ώ _ rfl;let hT:ax7 { s with heap:=s.heap.push (Nr led) } (.ref s.5) "set":=(Λ _ hS rfl)
   let hli:=ft.init.lookup;let hbi:=ft.init.bind (.ref s.5)
   repeat (any_goals (first | assumption | wp_step))
   show MQ (NQ ft.init.plain PySem.F.entry_set_init (check_set_init_1 hT (Cm (E:=E) hh hl hs hi hb))) λr₂ s₂ ahc=>?_;cases r₂ with
   | error e=>show ahc
   | ok aot=>
    cases aot with
    | ret r=>
     obtain⟨rfl,hd⟩:=ahc
     repeat (any_goals (first | assumption | wp_step))
     show h _ hd
    | _=>show ahc.36
  | _=>show hr.36
end
section
variable {X:Cx}
def Be:∀{ls:-Str} {us:-Υ},Vals (ls.map V.str) us->∀(i:Nat) (v:Υ),us[i]?=!v->∃x t,ls[i]?=!x/\v=.str x t
 | [],us,r,i,v,h=>by cases r;simp at h
 | x::ls,us,r,i,v,h=>by
  cases r with
  | cons r1 r2=>
   cases i with
   | zero=>obtain⟨t,rfl⟩:=r1;simp at h;show(cr x t rfl h.17)
   | succ i=>simpa using Be r2 i v (by simpa using h)
abbrev aeD (K:Ψ)(te:TE):TE:=λσ H Q=>te σ H λx H1=>∃p ls,x=.ref p/\G' K H1 p (ls.map V.str)/\ls.4<=4000/\Q (.int (Oj ls).4) H1
def Co {K:Ψ}(hc:X.39=true)(hg':Gl X "len")(hm':X.mg "len"=none)(hg:Gl X "set")(hm:X.mg "set"=none)(hE:PE X e te)(hK: ~~~(X.K=K))
  (hs: ~~~(starEach [e] X.9=[(false,eval e X.9)]))
  (he: ~~~(starEach [.Call (.Name "set" p) [e] [] pos] X.9=[(false,eval (.Call (.Name "set" p) [e] [] pos) X.9)])) :
  PE X (.Call (.Name "len" p') [.Call (.Name "set" p) [e] [] pos] [] pos') (aeD K te):=by
 subst hK;intro pins s σ H Q I h;show mD (eY I hg' hm' zn (RW ?_ he rfl) "!" "!");show Ϻ (agk (eY I hg hm boot_set (bn ?_ hs rfl)));rw[hs];show Ϻ (L8 (hE pins s σ H _ I h) λu s1 v H1 I1 r1 q1=>?_);(revert q1;show P9 λa ls μ hq hl q=>?_;subst μ);cases r1;(show ϱ (I1.list hq) λfT rv pl hz=>?_);let hlen:fT.4=ls.4:=by have:=rv.4;simpa using this.17
 show pr (Cn (I1.ok.hd hc) pl.21 (by simpa using hlen) (λi v hi=>Be rv i v (by simpa using hi)) (by rw[show scanBound=4096 from rfl];lk) λs2 hd=>?_);(revert hd;show MM λh' tk μ hS kp=>?_;subst μ);let I2:Inv X pins σ H1 { s1 with heap:=h',toks:=tk }:=I1.kept kp;(revert hS;show N9 λo es ep t ho=>RY λhex hd Vg atW hb=>Nl λhf hn=>?_);let hle:=my _ ls rfl;show pr (call_len_set ho hex hd hf () ?_);rw[hn];show(ϕ (.int (Oj ls).4) H1 (I2.tok _) ⟨_,rfl⟩ q)
abbrev XG (K:Ψ)(mg:Str->Option Υ)(x:Str)(xs:-V):Prop:=∃p,mg x=!.ref p/\∀H,Of K H p xs
abbrev tCT (K:Ψ)(xs:-V):TE:=λ_ H Q=>∀p,(∀H',Of K H' p xs)->Q (.ref p) H
def ua {K:Ψ}(c:XG K X.mg x xs)(hg: ~~~(Gl X x))(hd:autoParam (Ws x) L2.M9._auto_1):PE X (.Name x pos) (tCT K xs):=by
 intro pins s σ H Q I h;(revert c;show ϭ λp hm hq=>?_);show u0 (v:=.ref p) hg hm rfl hd pins s σ H Q I (h p hq)
end
section
variable {X:Cx} {xs:-Str} {y:Str} {N M:-Str} {wi:TI} {g:TG}
def Cp (N3:X.39=true)(hX:X.N=N)(TF:X.15=sc)(O:P1 N M sc xs scope)(hi:PI X tg iter wi)
  (Sh:HtA X (Qf X xs scope M) ifs tt)
  (Vg:∀C s₀ H₀ fp,PE (Qf X xs scope M C s₀ H₀ fp) elt te) (hg:∀C s₀ H₀ fp,PG (Qf X xs scope M C s₀ H₀ fp) tg g) (hs:autoParam (FsI X iter) L2.Wr._auto_1) :
  PE X (.ListComp elt [⟨tg,iter,ifs,0⟩] scope pos) (VA xs.4 wi g tt te):=by
 intro pins s σ H Q I h;let RS:=iB λz hz hf=>by
  let q:=O.free z hz hf;rw[<-TF] at q;show I.ok.has z.1 q
 show Ov rfl hs RS O.62 O.31 (No (hi pins s σ H _ I h) λv s1 h1=>No h1 λitv s2 h2=>?_);(revert h2;show Vs λit fp tn J H2 e I2 T st2 f2 q2=>?_);subst e;show jn N3 hX TF O Sh Vg hg I2 T st2 f2 (λD hD=>q2 D hD) ?_;intro D C H' s' I' hC hm q';obtain⟨m,hm⟩:=hm;(revert hC;show RY λc0 c1 c2 c3 c4 c5=>?_);show(Λ m hm (λh' Vh=>(ϕ (.ref D) H' (I'.turned (λb o hb e=>Vh.extBut b o hb e) c0 c1 c3 c4 c5) rfl q')))
def Cq (N3:X.39=true)(hX:X.N=N)(TF:X.15=sc)(O:P1 N M sc xs scope)(hi:PI X tg iter wi)
  (Sh:HtA X (Qf X xs scope M) ifs tt)
  (Vg:∀C s₀ H₀ fp,PE (Qf X xs scope M C s₀ H₀ fp) elt te) (hg:∀C s₀ H₀ fp,PG (Qf X xs scope M C s₀ H₀ fp) tg g)
  (hNd:X.N.14) (hiy:X.N[i]?=!y) (hy:X.env.scope.names.lookup y=!.local)
  (hsw:swapsWith (.ListComp elt [⟨tg,iter,ifs,0⟩] scope pos) (!.Name y py) Yo.53 X.9=pure true) (hs:autoParam (FsI X iter) L2.Wr._auto_1) :
  PS X (.Assign [.Name y py] (.ListComp elt [⟨tg,iter,ifs,0⟩] scope pos) Yo) (Zg (VA xs.4 wi g tt te) (Vx i)):=by
 intro pins s σ H D I h;let RS:=iB λz hz hf=>by
  let q:=O.free z hz hf;rw[<-TF] at q;show I.ok.has z.1 q
 let key:wpAny X.mo X.A (comprehension (.ListComp elt [⟨tg,iter,ifs,0⟩] scope pos) scope X.9 (firstIterPos [⟨tg,iter,ifs,0⟩] pos) (newList []) false (eval iter X.9) (!assign (.Name y py) X.9))
   (λ_ s'=>SP X pins D .next s') X.xe s:=by
  show Ov rfl hs RS O.62 O.31 (No (hi pins s σ H _ I h) λv s1 h1=>No h1 λitv s2 h2=>?_);(revert h2;show Vs λit fp tn J H2 e I2 T st2 f2 q2=>?_);subst e;show jn N3 hX TF O Sh Vg hg I2 T st2 f2 (λD0 hD=>q2 D0 hD) ?_;intro D0 C H' s' I' hC hm q';obtain⟨m,hm⟩:=hm;(revert hC;show RY λc0 c1 c2 c3 c4 c5=>?_);show Wg (nI (v:=.ref D0) I' hNd hiy (.inl hy) rfl (λs'' I'' zz=>ι zz λa sb ha=>?_) (.inr hy));let hCa:C≠a:=by
   rcases ha with ha | ha
   ·rw[ha];show c1
   ·show(c4 _ _ ha).17
  show(Λ m (hm.sameBut sb hCa) (λh' Vh=>(cr _ H' (I''.turned (λb o hb e=>Vh.extBut b o hb e) c0 c1 c3 c4 c5) q')))
 rw[acb _ _ _ _ hsw];show Ν (Ou (Ν (Ν (lw key (λ_ s' hq=>ύ (ύ hq)) λ_ _ e=>e))))
def Fz (N M:-Str)(sc:QI)(xs:-Str)(O:P1 N M sc xs scope)(hi:PI X tg iter wi)(hg:∀C s₀ H₀ fp,PG (Qf X xs scope M C s₀ H₀ fp) tg g)(Vg:∀C s₀ H₀ fp,PE (Qf X xs scope M C s₀ H₀ fp) elt te)
  (N3: ~~~(X.39=true)) (hX: ~~~(X.N=N)) (TF: ~~~(X.15=sc)) (hs:autoParam (FsI X iter) L2.Wr._auto_1) :
  PE X (.ListComp elt [⟨tg,iter,[],0⟩] scope pos) (VA xs.4 wi g UT te):=
 Cp N3 hX TF O hi (λC s₀ H₀ fp pins s σ H Q I h=>Sn (Λ H I h)) Vg hg hs
def FA (N M:-Str)(sc:QI)(xs:-Str)(O:P1 N M sc xs scope)(hi:PI X tg iter wi)(hg:∀C s₀ H₀ fp,PG (Qf X xs scope M C s₀ H₀ fp) tg g)(Vg:∀C s₀ H₀ fp,PE (Qf X xs scope M C s₀ H₀ fp) elt te)
  (hNd:X.N.14) (hiy: ~~~(X.N[i]?=!y)) (hy: ~~~(X.env.scope.names.lookup y=!.local))
  (hsw: ~~~(swapsWith (.ListComp elt [⟨tg,iter,[],0⟩] scope pos) (!.Name y py) Yo.53 X.9=pure true))
  (N3: ~~~(X.39=true)) (hX: ~~~(X.N=N)) (TF: ~~~(X.15=sc)) (hs:autoParam (FsI X iter) L2.Wr._auto_1) :
  PS X (.Assign [.Name y py] (.ListComp elt [⟨tg,iter,[],0⟩] scope pos) Yo) (Zg (VA xs.4 wi g UT te) (Vx i)):=
 Cq N3 hX TF O hi (λC s₀ H₀ fp pins s σ H Q I h=>Sn (Λ H I h)) Vg hg hNd hiy hy hsw hs
end
abbrev Iti (d:Ι)(od:Obj)(ϓ:-(Key×V)):It:=
 ⟨λi H=>H d=!.Ve od (.dK ϓ)/\i < ϓ.4,λi H v H'=>∃T k x,v=.ref T/\H T=none/\H'=upd H T (.tup [kV k,x])/\ϓ[i]?=!(k,x)/\lc ϓ k=!x,λi H=>H d=!.Ve od (.dK ϓ)/\ϓ.4<=i⟩
abbrev Itk (d:Ι)(od:Obj)(ϓ:-(Key×V)):It:=
 ⟨λi H=>H d=!.Ve od (.dK ϓ)/\i < ϓ.4,λi H v H'=>H'=H/\∃k x,v=kV k/\ϓ[i]?=!(k,x)/\lc ϓ k=!x,λi H=>H d=!.Ve od (.dK ϓ)/\ϓ.4<=i⟩
noncomputable abbrev TIF:=St->Hp->(Ι->Obj->-(Key×V)->It->Hp->Prop)->Prop
abbrev aou (td:TE):TIF:=λσ H R=>td σ H λx H1=>∃d ϓ,x=.ref d/\H1 d=!.dK ϓ/\∀od,R d od ϓ (Iti d od ϓ) (upd H1 d (.Ve od (.dK ϓ)))
abbrev aq6 (td:TE):TIF:=λσ H R=>td σ H λx H1=>∃d ϓ,x=.ref d/\H1 d=!.dK ϓ/\∀od,R d od ϓ (Itk d od ϓ) (upd H1 d (.Ve od (.dK ϓ)))
abbrev afO (d:Ι)(od:Obj)(ϓ:-(Key×V))(D:Ends):Ends:=
 { D with nx:=λσ H=>H d=!.Ve od (.dK ϓ)/\D.nx σ (upd H d (.dK ϓ)),rt:=λv H=>H d=!.Ve od (.dK ϓ)/\D.rt v (upd H d (.dK ϓ)) }
abbrev aka (wi:TIF)(g:TG)(tb:TS):TS:=λD σ H=>wi σ H λd od ϓ J H1=>XD J g tb (afO d od ϓ D) σ H1
def LF (wi:TIF)(g:TG)(tb:TS)(D:Ends)(σ:St)(H:Hp):aka wi g tb D σ H=wi σ H λd od ϓ J H1=>XD J g tb (afO d od ϓ D) σ H1:=rfl
abbrev aeE (n:Nat)(l:-Nat):-Nat:=(τ n l).55
def nW (xs:-(Array Nat)):∀a,(xs.foldl (·++·) a).37=a.37++(xs.map Tz).55:=by
 induction xs with
 | nil=>intro a;simp
 | cons x r ih=>intro a;rw[Vo,ih];simp
def LG (l:-Nat)(n:Int):Txt.mul (S l) n=S (aeE n.6 l):=by
 unfold Txt.mul aeE
 by_cases h1:n < 1
 ·rw[γ h1]
  have:n.6=0:=by lk
  rw[this];rfl
 ·rw[Φ h1]
  by_cases h2:(n == 1 || (S l).4 == 0)=true
  ·rw[γ h2]
   rw[Bool.or_eq_true] at h2;rcases h2 with h2 | h2
   ·have:n=1:=by simpa using h2
    subst this;simp
   ·have:l=[]:=by
     have:(S l).4=0:=by simpa using h2
     show List.length_eq_zero_iff.mp this
    subst this;congr 1;simp
  ·rw[Φ h2]
   congr 1;apply Array.toList_inj.mp;rw[nW];simp
abbrev afP:R2:=λx y H Q=>∃l n,x=.str (S l)/\y=.int n/\-(((2 ^ 62)))<=n/\n<=65536/\l.4<=200/\Q (.str (S (aeE n.6 l))) H
section
variable {X:Cx}
def HK:M7 X (binaryOp .Mult) afP:=by
 intro pins s σ H x y v u Q I rx ry h;(revert h;show Qz λl n μ M0 h0 h1=>Nl λhl q=>?_;subst μ;subst M0);obtain⟨t,rfl⟩:=rx;obtain⟨t',rfl⟩:=ry;show SB.mul ⟨?_,λh2 _=>?_,λh2 _=>?_⟩ λt'' k=>(ϕ (.str (S (aeE n.6 l))) H (I.tok k) ⟨t'',by rw[LG]⟩ q)
 ·rw[Ϫ (),Ϫ ()];rfl
 ·rw[fc]
  intro h3;let h4:(2 ^ 63 - 1:Int) / n≥(2 ^ 63 - 1) / 65536:=by
   show Int.le_ediv_of_mul_le () ?_
   lk
  lk
 ·rw[fc]
  let h3:l.4 * n.6<=200 * 65536:=Nat.mul_le_mul hl ();let e:alT (l.4 * n.6)=decide (l.4 * n.6 > sizeLine):=rfl;rw[e,Ϫ];rw[OD];lk
abbrev acP:R2:=SY (rI acv λi j=>.int (i * j)) afP
def kj:M7 X (binaryOp .Mult) acP:=JA.i2 HK
def Md (i j:Int):acP (.int i) (.int j) H Q=(acv i j/\Q (.int (i * j)) H):=rfl
abbrev amg (td:TE):TE:=λσ H Q=>td σ H λx H1=>∃a ϓ,x=.ref a/\H1 a=!.dK ϓ/\Q .k4 (upd H1 a (.dK []))
end
abbrev aov (K:Ψ)(a:Ι)(n:Nat):It:=
 ⟨λi H=>i < n/\∃xs,G' K H a xs/\xs.4=n,λi H x H'=>H'=H/\∀xs,G' K H a xs->xs[n - 1 - i]?=!x,λi H=>n<=i⟩
section
variable {X:Cx}
abbrev at2 (K:Ψ)(ta:TA):TI:=λσ H R=>ta σ H λvs H1=>∃a xs,vs=[.ref a]/\G' K H1 a xs/\R (aov K a xs.4) H1
end
def FC (l:-V)(k j:Nat):S0 l (!(k:Int)) (!((k+j:Nat):Int))=(l.drop k).take j:=by
 unfold S0;rw[HT.A3,HT.A3]
 by_cases h:k<=l.4
 ·rw[Ph h]
  by_cases h2:k+j<=l.4
  ·rw[Ph h2];congr 1;lk
  ·rw[adK (),Oz (by rw[NF];lk),Oz (by rw[NF];lk)]
 ·rw[show min k l.4=l.4 by lk,Ym (δ _),Ym (),afw,afw]
abbrev Ww (H:Hp):V->-V
 | .ref t=>match H t with
  | some (.tup xs)=>xs
  | _=>[]
 | _=>[]
def M3.comp (h:M3 H ts rows)(q:-V->Bool)(g:-V->V):((ts.map V.ref).filter λx=>q (Ww H x)).map (λx=>g (Ww H x))=(rows.filter q).map g:=by
 induction h with
 | nil=>rfl
 | @cons t xs ts' aq8 e _ ih=>
  let et:Ww H (.ref t)=xs:=by simp only[Ww,e]
  simp only[Ϗ,NG,et];cases q xs with
  | true=>simp only[if_true,Ϗ,et];rw[ih]
  | false=>simpa using ih
def M3.mem (h:M3 H ts rows){x:V}(hx:x∈ts.map V.ref):∃t xs,x=.ref t/\xs∈rows/\H t=!.tup xs:=by
 (show ι (ω.mp hx) λt ht μ=>?_;subst μ);obtain⟨i,hi⟩:=Ϣ ht;(show ι (h.get hi) λxs h1 h2=>?_);show(ϕ t xs rfl (Δ h1) h2)
def vq {K:Ψ}(hl:ϲ H a rows)(hn:rows.4<=sizeLine)(q:-V->Bool)(g:-V->V)
  (ht:∀t xs H',xs∈rows->Ω H H'->H' t=!.tup xs->∀Qt,(∀OP,Ω H' OP->Qt (q xs) OP)->tt (some (.ref t)::σ) H' Qt)
  (he:∀t xs H',xs∈rows->Ω H H'->H' t=!.tup xs->∀Qe,(∀OP,Ω H' OP->Qe (g xs) OP)->te (some (.ref t)::σ) H' Qe)
  (hd:∀D H',H D=none->Ω H H'->H' D=!.lst ((rows.filter q).map g)->Q (.ref D) H'):Sj (Itl K a) tt te σ H Q:=by
 (revert hl;show ϭ λts e hT=>?_);show mx (.inl (.inl e)) (by rw[Θ,hT.4];show hn) (λx=>q (Ww H x)) (λx=>g (Ww H x)) ?_ ?_ ?_
 ·intro x H' hx s Qt qt
  (show Nm (hT.mem hx) λt xs μ hm h1=>?_;subst μ);let et:Ww H (.ref t)=xs:=by simp only[Ww,h1]
  rw[et] at qt;show ht t xs H' hm s (s _ _ h1) Qt qt
 ·intro x H' hx _ s Qe qe
  (show Nm (hT.mem hx) λt xs μ hm h1=>?_;subst μ);let et:Ww H (.ref t)=xs:=by simp only[Ww,h1]
  rw[et] at qe;show he t xs H' hm s (s _ _ h1) Qe qe
 ·intro D H' hD s h
  show hd D H' hD s ?_;rw[h,hT.comp]
def ll {K:Ψ}(hl:ϲ H a rows)(hn:rows.4<=sizeLine)(g:-V->V)
  (he:∀t xs H',xs∈rows->Ω H H'->H' t=!.tup xs->∀Qe,(∀OP,Ω H' OP->Qe (g xs) OP)->te (some (.ref t)::σ) H' Qe)
  (hd:∀D H',H D=none->Ω H H'->H' D=!.lst (rows.map g)->Q (.ref D) H'):Sj (Itl K a) UT te σ H Q:=
 vq hl hn (λ_=>true) g (λt xs H' _ s _ Qt qt=>qt H' (Ω.refl _)) he (λD H' h s e=>hd D H' h s (by rw[dh] at e;show e))
abbrev T36:-Nat:=[97,98,99,100,101,102,103,104,105,106,107,108,109,110,111,112,113,114,115,116,117,118,119,120,121,122,48,49,50,51,52,53,54,55,56,57]
def FD:"abcdefghijklmnopqrstuvwxyz0123456789"=S T36:=by decide +kernel
abbrev inN (c:Nat):Bool:=decide (c∈T36)
def HL (l:-Nat)(c:Nat):Zs (S l) (S [c])=decide (c∈l):=by
 have:=PySem.StrLaws.found_one (S l) c;unfold Zs;show this.trans ∅
abbrev Fm (l:-Nat)(a b:Nat)(p:Nat->Bool):Prop:=a<=l.4/\l.4<=b/\∀c∈l,p c=true
abbrev zd:Sp:=aT λl=>aI λlo=>aI λhi=>aN λH Q _=>l.4<=1000/\lo<=(l.4:Int)/\(l.4:Int)<=hi/\Q (.bl true) H
abbrev ze:Sp:=aT λl=>aN λH Q _=>Fm l 1 12 inN/\∀H',Ω H H'->Q (.bl true) H'
abbrev w6:Sp:=aI λi=>aI λlo=>aI λhi=>aN λH Q _=>lo<=i/\i<=hi/\Q (.bl true) H
def all_true {l:-Nat}:((l.map λ_=>true).all id)=true:=by simp
abbrev W9 (l:-Nat):Int:=l.foldl (λh (c:Nat)=>U8 (h * 37+(c:Int)) 65535) 1
abbrev YG (l:-Nat):Int:=abL (W9 l) (W9 l / 2 ^ (8:Int).6)
def zg {c:Nat}(h:(S l).cps[i]?=!c):W9 (l.take (i+1))=U8 (W9 (l.take i) * 37+(c:Int)) 65535:=by
 let h':l[i]?=!c:=by simpa using h
 rw[Ϲ,h'];simp[W9,Qs]
structure PN where
 name:-Nat
 rows:Nat
 kind:Str
abbrev PN.v (x:PN):-V:=[.str (S x.59),.int x.40,.str x.62]
abbrev afQ (x:PN):Prop:=(1<=x.name.4/\x.name.4<=12/\x.name.all inN=true)/\(1<=x.40/\x.40<=9)/\(x.62=ϒ "table" \/ x.62=ϒ "stream")
structure NV (xs:-PN):Prop where
 lo:1<=xs.4
 hi:xs.4<=6
 each:∀x∈xs,afQ x
 nd:(xs.map PN.name).14
structure T5 (C:Ι)(H:Hp)(s l:Ι)(xs:-PN):Prop where
 obj:∃dx,H s=!.ins C dx [("shelves",.ref l)]
 lst:ϲ H l (xs.map PN.v)
def T5.im {A:-Ι}{xs:-PN}(h:T5 C H s l xs)(c:ϛ A H H')(hs:s∉A)(hl:l∉A):T5 C H' s l xs:=by
 obtain⟨dx,e⟩:=h.30;show⟨⟨dx,c.keep _ _ e hs⟩,h.lst.im c hl⟩
abbrev Ϩ (xs:-PN)(k:Nat):Nat:=((xs.take k).map PN.rows).76
def bN {xs:-PN}{x:PN}(h:xs[k]?=!x):Ϩ xs (k+1)=Ϩ xs k+x.40:=by
 unfold Ϩ;rw[Ϲ,h];simp
def lq {xs:-PN}(h:∀x∈xs,x.40<=9):∀k,Ϩ xs k<=9 * k:=by
 intro k
 induction k with
 | zero=>simp[Ϩ]
 | succ k ih=>
  cases e:xs[k]? with
  | none=>
   have:Ϩ xs (k+1)=Ϩ xs k:=by unfold Ϩ;rw[Ϲ,e];simp
   lk
  | some x=>
   have:=h x (Δ e);rw[bN e];lk
abbrev zh (C:Ι):Sp:=aR λs=>aN λH Q _=>∃l xs,T5 C H s l xs/\xs.4<=1000/\∀H',Ω H H'->Q (.int (Ϩ xs xs.4)) H'
abbrev Uw (xs:-PN)(k:Nat)(x:PN)(key:-Nat):Nat:=Ϩ xs k+(YG key % (x.40:Int)).6
abbrev Cr:Sp:=aT λl=>aN λH Q _=>Q (.int (YG l)) H
abbrev Cs:Sp:=aT λl=>aI λm=>aN λH Q _=>0 < m/\Q (.int (YG l % m)) H
abbrev it (i:Nat)(xs:-V):V:=xs.getD i .k4
abbrev N4 (n:Int):Nat:=T36.getD (n % 36).toNat 0
def qM (n:Int):T36[(n % 36).6]?=!N4 n:=by
 let h:(n % 36).6 < T36.length:=by
  show(n % 36).6 < 36;lk
 unfold N4;rw[ε,Ε h];rfl
def qN (n:Int):inN (N4 n)=true:=by
 show ϝ (Δ (qM n))
def Ct {n m:Int}(h:N4 n=N4 m):n % 36=m % 36:=by
 let hn:T36.Nodup:=by decide
 let h1:=qM n;rw[h] at h1;obtain⟨i1,e1⟩:=Α.mp h1;obtain⟨i2,e2⟩:=Α.mp (qM m);let hp:=gl.mp hn;rcases acg (n % 36).toNat (m % 36).6 with z | z | z
 ·show absurd (e1.trans e2.17) (hp _ _ i1 i2 z)
 ·rw[<-aaI (A' n "!"),z,aaI (A' m "!")]
 ·show absurd (e2.trans e1.17) (hp _ _ i2 i1 z)
abbrev La:Sp:=aI λx=>aI λy=>aN λH Q _=>Q (.bl (decide (x=y))) H
abbrev Cu:Sp:=aI λn=>aN λH Q _=>Q (.str (S [N4 n])) H
def iE {lo:Int}(hn:n<=sizeLine)(Pv:Ι->Nat->-V->Hp->Prop)(h0:∀D,H D=none->Pv D 0 [] (upd H D (.lst [])))
  (hl:∀D i ys H',i<=n->Pv D i ys H'->H' D=!.lst ys/\ys.4<=i)
  (hs:∀D i ys H',H D=none->i < n->Pv D i ys H'->∀Qe,(∀y H5,H5 D=!.lst ys->Pv D (i+1) (ys++[y]) (upd H5 D (.lst (ys++[y])))->Qe y H5)->te (some (.int (lo+i))::σ) H' Qe)
  (hd:∀D ys H',H D=none->Pv D n ys H'->Q (.ref D) H'):Sj (Itr lo n) UT te σ H Q:=by
 intro D hD;show(Λ (λi m ys H=>m=n - i/\i<=n/\Pv D i ys H) (ϡ n rfl (Ϡ _) (h0 D hD)) ?_)
 rintro i m ys H2 ⟨rfl,hi,p⟩
 obtain⟨h1,h2⟩:=hl D i ys H2 hi p
 by_cases OM:i < n
 ·show .inr ⟨OM,(),λx H3 y=>?_⟩
  obtain⟨rfl,rfl⟩:H3=H2/\x=.int (lo+i):=y;show hs D i ys H3 hD OM p _ λy H5 z1 z2=>⟨z1,(MD (n - (i+1)) () rfl OM z2)⟩
 ·let e:i=n:=by lk
  subst e;show .inl ⟨δ _,h1,hd D ys H2 hD p⟩
def gq {K:Ψ}(hn:xs.4<=sizeLine)(Pv:Ι->Nat->-V->Hp->Prop)(h0:∀D,H D=none->Pv D 0 [] (upd H D (.lst [])))
  (hl:∀D i ys H',i<=xs.4->Pv D i ys H'->H' D=!.lst ys/\ys.4<=i/\G' K H' a xs)
  (hs:∀D i ys H' x,H D=none->xs[i]?=!x->Pv D i ys H'->∀Qe,(∀y H5,H5 D=!.lst ys->Pv D (i+1) (ys++[y]) (upd H5 D (.lst (ys++[y])))->Qe y H5)->te (some x::σ) H' Qe)
  (hd:∀D ys H',H D=none->Pv D xs.4 ys H'->Q (.ref D) H'):Sj (Itl K a) UT te σ H Q:=by
 intro D hD;show(Λ (λi m ys H=>m=xs.4 - i/\i<=xs.4/\Pv D i ys H) (ϡ xs.4 rfl (Ϡ _) (h0 D hD)) ?_)
 rintro i m ys H2 ⟨rfl,hi,p⟩
 (show sw (hl D i ys H2 hi p) λh1 h2 h3=>?_)
 by_cases OM:i < xs.4
 ·show .inr ⟨(cr xs (xs[i]) h3 ∅),(),λx H3 y=>?_⟩
  obtain⟨rfl,z⟩:=y;show hs D i ys _ x hD (z xs h3) p _ λy H5 z1 z2=>⟨z1,(MD (xs.4 - (i+1)) () rfl OM z2)⟩
 ·let e:i=xs.4:=by lk
  subst e;show .inl ⟨(Λ xs h3 (δ _)),h1,hd D ys H2 hD p⟩
def lz {xs:-PN}{x:PN}(hx:xs[a]?=!x)(h:a < b):Ϩ xs a+x.40<=Ϩ xs b:=by
 rw[<-bN hx];let mono:∀m n:Nat,m<=n->Ϩ xs m<=Ϩ xs n:=by
  intro m n hmn
  induction n with
  | zero=>
   have:m=0:=by lk
   subst this;show δ _
  | succ n ih=>
   by_cases e:m=n+1
   ·subst e;show δ _
   ·show ο (ih ()) ?_
    cases e2:xs[n]? with
    | none=>unfold Ϩ;rw[Ϲ,e2];simp
    | some y=>rw[bN e2];lk
 show mono _ _ h
def ϲ.at {K:Ψ}{p:Ι}(h:ϲ H p rows):∃ts:-Ι,G' K H p (ts.map V.ref)/\ts.4=rows.4/\∀(i:Nat) x,(ts.map V.ref)[i]?=!x->∃t r,x=.ref t/\rows[i]?=!r/\H t=!.tup r:=by
 (revert h;show ϭ λts h1 h2=>?_);show(ϡ ts (.inl (.inl h1)) h2.4 (λi x hx=>?_));rw[Ρ] at hx;cases e:ts[i]? with
 | none=>rw[e] at hx;cases hx
 | some t=>
  rw[e] at hx;(show ι (h2.get e) λr hr ht=>?_);show(ϕ t r ((Ϭ hx).17) hr ht)
def aP (s:Ω H H')(h:H' b=none):H b=none:=by
 cases e:H b with
 | none=>rfl
 | some o=>rw[s _ _ e] at h;cases h
def Ω.wr (s:Ω H H')(h:H b=none):Ω H (L2.upd H' b o):=λc u hc=>(ag (aq hc h)).trans (s c u hc)
abbrev acQ:R2:=λx y H Q=>∃b c,x=.bl b/\y=.bl c/\Q (.bl (!((decide (b=c))))) H
section
variable {X:Cx}
def Bf:M7 X (compareOp .IsNot) acQ:=by
 intro pins s σ H x y v u Q I rx ry h;(revert h;show MM λb c μ M0 q=>?_;subst μ;subst M0);cases (rx);cases (ry);show wpAny_isNot_plain (by cases b<;>cases c<;>rfl) (ϕ (.bl (!((decide (b=c))))) H I ?_ q);cases b<;>cases c<;>rfl
def LH (b c:Bool):acQ (.bl b) (.bl c) H Q=Q (.bl (!((decide (b=c))))) H:=by simp[acQ]
end
def ND.same (h:ND C H r d M)(s:Ω H H'):ND C H' r d M:=h.im (A:=[]) (ϛ.of_same s) ∅ ∅
abbrev oV:Option Int->V
 | none=>.k4
 | some p=>.int p
end
variable {mr:MB}
section
open PySem
abbrev TrD (h B:be)(e:Ι)(cls:Υ)(dc:Option Ι)(a0 fl:Υ):Prop:=
 ∃oe vs T oT ts,h.get? e=!oe/\oe.92=cls/\oe.51=dc/\oe.52=.fields vs/\vs[2]?=!a0/\vs[1]?=!.ref T/\B.get? T=none/\T≠e/\h.get? T=!oT/\oT.52=.fields ts/\ts[3]?=!fl
structure Fly (B:be)(l:-Env)(e:Ι)(cls:Υ)(dc:Option Ι)(a0 fl:Υ)(h:be):Prop where
 Qa:B.StaysIn h
 new:B.get? e=none
 akb:h.FunFrames B l
 aeG:TrD h B e cls dc a0 fl
section
variable {M:aaJ} {s:η}
def Cv (g:Array Υ->Array Υ)(o:Obj):(o.mapFields g).51=o.51:=by
 obtain⟨c,d,t,sl⟩:=o;cases t<;>rfl
def ub {B:be}{L e:Ι}{Q:Unit->η->Prop}
  (fr:A.32=!(env::out)) (ff:s.heap.FunFrames B (env::out)) (ef:env.81=!L) (ge:s.heap.get? e=!oe) (kb:B.StaysIn s.8) (nb:B.get? e=none) (dt:oe.52=.fields vs) (sz:1 < vs.82) (z0:vs[2]?=!a0)
  (k:∀h',Fly B (env::out) e oe.92 oe.51 a0 (rawInt L) h'->s.heap.UpToSlots h'->Q Unit.unit { s with heap:=h' }) :
  wpAny M A (do
   let fo <-frameOf env
   let pl <-entryPlaceOf L nx
   let en <-anj top fo .none (rawInt L) .none pl
   setField (.ref e) 1 en) Q E s:=by
 let apart:e∉(env::out).filterMap (·.frame):=by
  intro m;(show PV (ff.mem m) λ_=>ϭ λo g nf=>?_);rw[ge] at g;cases g;show nf vs dt
 show Ν (wpAny_frameOf_fun fr ff ef λg1 so=>Ν (wpAny_entryPlaceOf λpl ip=>Ν (Q9 ?_ (ip.sizeOk5 _ _ _ _ _))));generalize hen:([top,ϫ L,NY,rawInt L,NY]++(if pl.49 then τ 6 NY else pl)).10=ts;let e3:ts[3]?=!rawInt L:=by rw[<-hen];simp
 generalize ho:({ cls:=.type "traceback",dict:=none,data:=.fields ts }:Obj)=on;let ge1:=(so.2.1 e apart).trans ge;let kb1:B.StaysIn g1:=λb o q=>by
  show(so.2.1 b λm=>?_).trans (kb b o q);rw[(ff.mem m).1] at q;cases q
 let ge2:(g1.push on).get? e=!oe:=Τ _ ge1;let Ux:∀b o,s.heap.get? b=!o->(∀ws,o.52≠.fields ws)->b≠e:=λb o q nf z=>by
  subst z;rw[ge] at q;cases q;show nf vs dt
 show QK ge2 dt sz (k _ ?_ ?_)
 all_goals have nTe:=K4 (π ge1)
 all_goals have dt3:=Oc dt (·.setIfInBounds 1 (ϫ g1.7))
 all_goals have ge3:=Nk (OY (·.setIfInBounds 1 (ϫ g1.7))) ge2 (RN dt3)
 all_goals have gT:((g1.push on).update e (OY (·.setIfInBounds 1 (ϫ g1.7)))).get? g1.7=!on:=(KF _ _ (ψ nTe)).trans (ώ g1 (by rw[<-ho];rfl))
 all_goals have keep:∀b o,b≠e->g1.get? b=!o->((g1.push on).update e (OY (·.setIfInBounds 1 (ϫ g1.7)))).get? b=!o:=λb o nbe q=>(KF _ _ (ψ nbe)).trans (Τ _ q)
 ·show⟨λb o q=>keep b o (λz=>by rw[z,nb] at q;cases q) (kb1 b o q),nb,ff.of_keeps λb o q nf=>?_,?_⟩
  ·obtain⟨sl,q'⟩:=so.2.2 b o q
   show(Λ _ (keep b _ (Ux b o q nf) q') rfl)
  ·show(QA _ _ g1.7 on ts ge3 (ach _ _) (Cv _ _) dt3 ?_ ⟨by simp[sz],kb1.72,nTe,gT,⟨by rw[<-ho],e3⟩⟩)
   rw[Array.getElem?_setIfInBounds_ne "!"];show z0
 ·intro b o q nf
  obtain⟨sl,q'⟩:=so.2.2 b o q;show⟨sl,keep b _ (Ux b o q nf) q'⟩
def zi {L e:Ι}{Q:Unit->η->Prop}
  (fr:A.32=!(env::out)) (ff:s.heap.FunFrames B (env::out)) (ef:env.81=!L) (ge:s.heap.get? e=!oe) (kb:B.StaysIn s.8) (nb:B.get? e=none) (dt:oe.52=.fields vs) (z1:vs[1]?=!.none) (z0:vs[2]?=!a0)
  (k:∀h',Fly B (env::out) e oe.92 oe.51 a0 (rawInt L) h'->s.heap.UpToSlots h'->Q Unit.unit { s with heap:=h' }):wpAny M A (noteFrame (.ref e) env) Q E s:=by
 unfold noteFrame;simp only[ef];show Ν (nH ge dt z1 (ub fr ff ef ge kb nb dt (Nv.mp z1).1 z0 k))
def uc {L e:Ι}{Q:Unit->η->Prop}
  (fr:A.32=!(env::out)) (ef:env.81=!L) (fl:Fly B (env::out) e cls dc a0 .none s.8)
  (k:∀h',Fly B (env::out) e cls dc a0 (rawInt L) h'->s.heap.UpToSlots h'->Q Unit.unit { s with heap:=h' }):wpAny M A (noteFrame (.ref e) env) Q E s:=by
 obtain⟨kb,nb,ff,oe,vs,T,oT,ts,ge,hc,hdc,dt,z0,z1,nT,nTe,gT,dT,z3⟩:=fl;subst hc hdc;unfold noteFrame;simp only[ef];show Ν (nH ge dt z1 (Ν (nH gT dT z3 ?_)));show Ν (QK gT dT (Nv.mp z3).1 ?_);let oth:∀b,b≠T->(s.heap.update T (OY (·.setIfInBounds 3 NY))).get? b=s.heap.get? b:=λb q=>KF _ _ (ψ q);let Ux:∀b o,s.heap.get? b=!o->(∀ws,o.52≠.fields ws)->b≠T:=λb o q nf z=>by
  subst z;rw[gT] at q;cases q;show nf ts dT
 show ub fr (ff.of_keeps λb o q nf=>(Λ o ((oth b (Ux b o q nf)).trans q) rfl)) ef ((oth e (ψ nTe)).trans ge) (λb o q=>(oth b λz=>by rw[z,nT] at q;cases q).trans (kb b o q)) nb dt (Nv.mp z1).1 z0 λh' f' u'=>k h' f' λb o q nf=>u' b o ((oth b (Ux b o q nf)).trans q) nf
def gs {e:Ι}{Q:Unit->η->Prop}(f:Fly B l e cls dc a0 fl s.8)
  (k:∀h',Fly B l e cls dc a0 .none h'->s.heap.UpToSlots h'->Q Unit.unit { s with heap:=h' }):wpAny M A (setFlight (.ref e) none) Q E s:=by
 obtain⟨kb,nb,ff,oe,vs,T,oT,ts,ge,hc,hdc,dt,z0,z1,nT,nTe,gT,dT,z3⟩:=f;let z3':=(Nv.mp z3).1;let oth:∀b,b≠T->(s.heap.update T (OY (·.setIfInBounds 3 (none.elim NY λf=>rawInt f)))).get? b=s.heap.get? b:=λb q=>KF _ _ (ψ q);let Ux:∀b o,s.heap.get? b=!o->(∀ws,o.52≠.fields ws)->b≠T:=λb o q nf z=>by
  subst z;rw[gT] at q;cases q;show nf ts dT
 show Ν (nH ge dt z1 (QK gT dT z3' (k _ ⟨λb o q=>(oth b λz=>by rw[z,nT] at q;cases q).trans (kb b o q),nb,ff.of_keeps λb o q nf=>(Λ o ((oth b (Ux b o q nf)).trans q) rfl),?_⟩ λb o q nf=>⟨o.68,(oth b (Ux b o q nf)).trans q⟩)));show(QA oe vs T _ _ ((oth e (ψ nTe)).trans ge) hc hdc dt z0 ⟨z1,nT,nTe,Nk _ gT (RN (Oc dT _)),⟨Oc dT _,by simp[z3']⟩⟩)
def Fly.pop {e:Ι}(f:Fly B (env::out) e cls dc a0 fl h):Fly B out e cls dc a0 fl h:=
 ⟨f.Qa,f.new,let ⟨_,_,z⟩:=f.akb;z,f.aeG⟩
def w8 {L e:Ι}{Q:Unit->η->Prop}
  (fr:A.32=!(env::out)) (ff:s.heap.FunFrames B (env::out)) (ef:env.81=!L) (ge:s.heap.get? e=!oe) (kb:B.StaysIn s.8) (nb:B.get? e=none) (dt:oe.52=.fields vs) (z1:vs[1]?=!.none) (z0:vs[2]?=!a0)
  (k:∀h',Fly B out e oe.92 oe.51 a0 .none h'->s.heap.UpToSlots h'->Q Unit.unit { s with heap:=h' }):wpAny M A (leaving env (.ref e)) Q E s:=by
 show Ν (zi fr ff ef ge kb nb dt z1 z0 λh1 f1 u1=>gs f1 λh2 f2 u2=>k h2 f2.pop (u1.trans u2))
def zj {L e:Ι}{Q:Unit->η->Prop}
  (fr:A.32=!(env::out)) (ef:env.81=!L) (fl:Fly B (env::out) e cls dc a0 .none s.8)
  (k:∀h',Fly B out e cls dc a0 .none h'->s.heap.UpToSlots h'->Q Unit.unit { s with heap:=h' }):wpAny M A (leaving env (.ref e)) Q E s:=by
 show Ν (uc fr ef fl λh1 f1 u1=>gs f1 λh2 f2 u2=>k h2 f2.pop (u1.trans u2))
end
end
section
open PySem PySem.Spec PyProof.Rows
structure Bas (l:-Env)(H H':Hp)(h B:be):Prop where
 keep:∀b o,h.get? b=!o->H b=none->b∉TC l->B.get? b=!o
 free:∀b o,h.get? b=!o->H b=none->H' b=none
 there:∀b o,h.get? b=!o->b∉TC l->∃o',B.get? b=!o'
 Ri:∀b xs,H b=!.tup xs->H' b=!.tup xs
 QU:∀b o u,H b=!.Ve o u->H' b=!.Ve o u
 Rj:∀b ps,H b=!.tbl ps->∃more,H' b=!.tbl (ps++more)
abbrev Slo (l:-Env)(h h':be):Prop:=∀b o,b∈TC l->h.get? b=!o->∃sl,h'.get? b=some { o with slots:=sl }
structure Wl (P:ϯ)(w:J')(l:-Env)(H:Hp)(s:η)(ea C:Ι)(dx:Option Ι)(fl:Υ)(B:be)(H':Hp)(s':η):Prop where
 os:s'.os=s.os
 bare:Q7 s'.80
 fly:∃a0,Fly B l ea (.ref C) dx a0 fl s'.8
 lu:Rt P w H' B
 bas:Bas l H H' s.8 B
 slo:Slo l s.8 s'.8
abbrev CXv (P:ϯ)(w:J'):CXT:=λl H s E e s'=>∃ea C dx B H',e=.ref ea/\Wl P w l H s ea C dx .none B H' s'/\E (.ref C) dx H'
section
variable {P:ϯ} {l:-Env} {s:η} {dx:Option Ι} {B:be}
def Wl.Qa (t:Wl P w l H s ea C dx fl B H' s'):B.StaysIn s'.8:=let ⟨_,f⟩:=t.fly;f.Qa
def Wl.held (t:Wl P w l H s ea C dx fl B H' s'):Rt P w H' s'.8:=t.lu.kept t.Qa
def Wl.un (t:Wl P w l H s ea C dx fl B H' s'):Un (TC l) [] H H' s.8 s'.8 where
 keep:=λb o e n hb _=>t.Qa b o (t.bas.keep b o e n hb)
 slot:=λb o e _ hb _=>t.slo b o hb e
 free:=λb o e n _=>t.bas.free b o e n
 there:=λb o e _=>by
  by_cases hb:b∈TC l
  ·obtain⟨sl,q⟩:=t.slo b o hb e;show⟨_,q⟩
  ·obtain⟨o',q⟩:=t.bas.there b o e hb;show⟨o',t.Qa b o' q⟩
 Ri:=t.bas.Ri
 QU:=t.bas.QU
 Rj:=t.bas.Rj
def VD :Passes (CXv P w) X E0:=λ_ _ _ _ _ _ _ ⟨_,_,_,_,_,_,_,h⟩=>h.36
end
section
variable {X:Cx} {s:η} {dx:Option Ι} {B:be}
def Inv.low (I:Inv X pins σ H s)(e:X.s₀.heap.get? b=!o)(hb:b∉TC X.61):b∉TC X.20:=λz=>by
 rcases Κ.mp (I.Vv b z) with r | r
 ·show absurd (π e) (by rw[r];show WZ.mpr I.41)
 ·show hb r
def Bas.out (I:Inv X pins σ H s)(hex:X.ex=[])(t:Bas X.20 H H' s.8 B):Bas X.61 X.H₀ H' X.s₀.8 B where
 keep:=λb o e n hb=>t.keep b o (I.base.keep b o e n hb (by rw[hex];simp)) (I.base.free b o e n (by rw[hex];simp)) (I.low e hb)
 free:=λb o e n=>by
  obtain⟨o',q⟩:=I.base.there b o e (by rw[hex];simp);show t.free b o' q (I.base.free b o e n (by rw[hex];simp))
 there:=λb o e hb=>by
  obtain⟨o',q⟩:=I.base.there b o e (by rw[hex];simp);show t.there b o' q (I.low e hb)
 Ri:=λb xs q=>t.Ri b xs (I.base.Ri b xs q)
 QU:=λb o u q=>t.QU b o u (I.base.QU b o u q)
 Rj:=λb ps q=>by
  obtain⟨m1,e1⟩:=I.base.Rj b ps q;obtain⟨m2,e2⟩:=t.Rj b _ e1;show⟨m1++m2,by rw[e2,aad]⟩
def Inv.inner (I:Inv X pins σ H s)(hb:b∈TC X.61):b∈TC X.20:=by
 rcases I.96 with e | ⟨e,hf⟩
 ·rw[e];show hb
 ·rw[e]
  unfold TC;rw[pi,hf];show θ _ hb
def Slo.out (I:Inv X pins σ H s)(hex:X.ex=[])(t:Slo X.20 s.8 s'.8)(u:s'.heap.UpToSlots h'):Slo X.61 X.s₀.8 h':=λb o hb e=>by
 (show PV (I.ok.Ss.mem hb) λ_=>ϭ λo1 ho1 nf=>?_);rw[e] at ho1;cases ho1;obtain⟨sl,e1⟩:=I.base.slot b o e (I.ok.frf b hb) hb (by rw[hex];simp);obtain⟨sl2,e2⟩:=t b _ (I.inner hb) e1;obtain⟨sl3,e3⟩:=u b _ e2 nf;show⟨sl3,e3⟩
end
section
variable {P:ϯ} {K:Ψ} {base:be} {N:-Str} {s:η} {E:XK}
def Xa:Passes (CXv P w) (Su (CXv P w) P w K mg base N qual scope f cd A outer s H E) E:=by
 rintro pins σ H1 s1 e s' I ⟨ea,C,dx,B,H',rfl,T,q⟩
 obtain⟨a0,fl⟩:=T.fly;show zj I.ok.32 rfl fl λh2 f2 u2=>(Wq ea C dx B H' rfl ⟨T.os.trans I.os,T.46,⟨a0,f2⟩,T.lu,T.bas.out I rfl,T.slo.out I rfl u2⟩ q)
end
theorem R3 (C t:Ι)(dx:Option Ι):Obj:={ cls:=.ref C,dict:=dx,data:=.fields #[.ref t,.none,.none,.none,.bool false,.none] }
abbrev xo (ea C t:Ι)(dx:Option Ι):HO:=.ext λh=>h.get? ea=!R3 C t dx
def I8 {P:ϯ}{h:be}{t:Ι}{dx:Option Ι}(e:h.get? ea=!R3 C t dx):Na P w H h ea (xo ea C t dx):=
 ⟨e,⟨_,e⟩,λ_ _ q k=>k _ q⟩
def vt {P:ϯ}{h:be}{t:Ι}{dx:Option Ι}(x:Rt P w H h)(e:H ea=!xo ea C t dx):h.get? ea=!R3 C t dx:=
 (x _ _ e).1
abbrev del (H:Hp)(a:Ι):Hp:=λb=>if b=a then none else H b
def iF (h:b≠a):del H a b=H b:=by unfold del;rw[Φ h]
def FE:del H a a=none:=by unfold del;rw[γ rfl]
abbrev aau (X:Cx)(E:XK):Prop:=∀pins σ H s ea C t dx,Inv X pins σ H s->H ea=!xo ea C t dx->X.s₀.5<=ea->E (.ref C) dx (del H ea)->X.xe (.ref ea) s
section
variable {X:Cx} {s:η} {t:Ι} {dx:Option Ι}
abbrev XH (X:Cx)(s:η)(ea:Ι):be:=as1 s.8 (ea::TC X.20)
def Ke (I:Inv X pins σ H s)(he:H ea=!xo ea C t dx):Rt X.24 X.w (del H ea) (XH X s ea):=λb u q=>by
 let nb:b≠ea:=λz=>by rw[z,FE] at q;cases q
 rw[iF nb] at q;let acr:∀c y,H c=!.own y->c≠ea:=λc y r z=>by rw[z,he] at r;cases r
 let agu:∀c xs,H c=!.tup xs->c≠ea:=λc xs r z=>by rw[z,he] at r;cases r
 let nfr:∀c u,H c=!u->c∉TC X.20:=λc u r z=>by rw[I.Xw c z] at r;cases r
 show(I.lu b u q).Qa (λc v hc r=>TK _ r λm=>?_) (λc r=>by rw[iF (acr c b r)];show r) λc xs r=>by rw[iF (agu c xs r)];show r
 rcases Κ.mp m with z | z
 ·rcases hc with r' | r'
  ·show nb (r'.symm.trans z)
  ·show acr c b r' z
 ·rcases hc with r' | r'
  ·rw[r'] at z;show nfr b u q z
  ·show nfr c _ r' z
def Kf (I:Inv X pins σ H s)(hex:X.ex=[])(he:H ea=!xo ea C t dx)(hn:X.s₀.5<=ea):Bas X.61 X.H₀ (del H ea) X.s₀.8 (XH X s ea) where
 keep:=λb o e n hb=>TK _ (I.base.keep b o e n hb (by rw[hex];simp)) λm=>by
  rcases Κ.mp m with z | z
  ·show absurd (π e) (by rw[z];show WZ.mpr hn)
  ·show I.low e hb z
 free:=λb o e n=>by
  rw[iF λz=>absurd (π e) (by rw[z];show WZ.mpr hn)];show I.base.free b o e n (by rw[hex];simp)
 there:=λb o e hb=>by
  obtain⟨o',q⟩:=I.base.there b o e (by rw[hex];simp);show⟨o',TK _ q λm=>?_⟩;rcases Κ.mp m with z | z
  ·show absurd (π e) (by rw[z];show WZ.mpr hn)
  ·show I.low e hb z
 Ri:=λb xs q=>by
  let r:=I.base.Ri b xs q;rw[iF λz=>by rw[z,he] at r;cases r];show r
 QU:=λb o u q=>by
  let r:=I.base.QU b o u q;rw[iF λz=>by rw[z,he] at r;cases r];show r
 Rj:=λb ps q=>by
  obtain⟨m,r⟩:=I.base.Rj b ps q;show⟨m,by rw[iF λz=>by rw[z,he] at r;cases r];show r⟩
def HM (I:Inv X pins σ H s):s.heap.FunFrames (XH X s ea) X.20:=by
 show W.funFrames_hide I.20 λenv hm a e=>θ _ (PQ.mpr (Λ env hm e))
end
section
variable {P:ϯ} {K:Ψ} {base:be} {N:-Str} {s:η} {E:XK}
def acR:aau (Su (CXv P w) P w K mg base N qual scope f cd A outer s H E) E:=by
 intro pins σ H1 s1 ea C t dx I he hn q;show w8 I.ok.32 (HM I) rfl (vt I.lu he) (λb o z=>alH _ z) (aie _ ϳ) rfl rfl rfl λh2 f2 u2=>?_;show(Wq ea C dx _ _ rfl ⟨I.os,I.46,⟨_,f2⟩,Ke I he,Kf I rfl he hn,Slo.out I rfl (λb o _ e=>⟨o.68,e⟩) u2⟩ q)
end
section
variable {P:ϯ} {K:Ψ} {base:be}
def Fun.okX {st:ϟ}(F:Fun K x qual st f fd)(S:ζ N ps (Ο st))(len:∀vs H Q E,sp vs H Q E->vs.4=ps.4)
  (RB:∀(Nd:Υ) (A:QH) (outer:-Env) (s:η) (H:Hp) (vs:-V) (Q:VK) (E:XK),MW k (A.deeper (envOfC qual (Ο st) s.5 f Nd))->sp vs H Q E->
   ∃t,W2 (Su (CXv P w) P w K mg base N qual (Ο st) f Nd A outer s H E) (wE st) t/\t { nx:=λ_ H'=>Q .k4 H',rt:=Q } (start N vs) H):OZ P w K mg base (CXv P w) (k+1) f fd ps sp:=by
 (show UQ F.ex λoc od kV doc pm an=>Rx λNd ct W1 μ lk TD=>?_;subst μ);show AZ lk TD S len λA outer s H vs Q E hr PX=>RB Nd A outer s H vs Q E hr PX
end
end
section
open PySem PySem.Spec PyProof.Rows Builtin Builtin.ObjectAttr
abbrev S9:-Υ:=[.type "ValueError",.type "Exception",.type "BaseException",.type "object"]
abbrev Uy:-Υ->Bool
 | .ref _::r=>Uy r
 | l=>l == S9
def jo:∀{l:-Υ},Uy l=true->∃rs:-Ι,l=rs.map ϫ++S9
 | [],h=>by cases h
 | v::r,h=>by
  cases v with
  | ref a=>
   obtain⟨rs,e⟩:=jo (l:=r) h;show⟨a::rs,by rw[e];rfl⟩
  | _=>show⟨[],UH.mp h⟩
def w9 {X:String}{b:Bool}(e:S9.contains (.type X)=b):∀rs:-Ι,(rs.map ϫ++S9).contains (.type X)=b
 | []=>e
 | a::r=>by
  rw[Ϗ,u8,F1,w9 e r];rfl
def eG (h:Uy l=true){b:Bool}(e:S9.contains (.type X)=b):l.contains (.type X)=b:=by
 obtain⟨rs,rfl⟩:=jo h;show w9 e rs
def zk (self:Υ)(h:Uy l=true):refuseLoop self "__setattr__" l=pure Unit.unit:=by
 obtain⟨rs,rfl⟩:=jo h;clear h
 induction rs with
 | nil=>show PySem.F.store_ValueError.passes self
 | cons a r ih=>rw[Ϗ,u8,alU];show ih
abbrev xIn (K:Ψ)(C:Ι):Bool:=match K.lookup C with
 | some ⟨.type "type",_,.cls cd,sl⟩=>(match cd.mro,sl.37 with
  | .ref C'::bm,[_,_,_,_,!.builtin n,_]=>C' == C && (!((cd.hasDel)) && (cd.hasDict && (Uy bm && n == "ValueError.__new__")))
  | _,_=>false)
 | _=>false
def mB {K:Ψ}(q:xIn K C=true):∃nm qn N bs bm sn sub ab col dd k0 k1 k2 k3 k5,
  K.lookup C=!excClassObj nm qn C N bs bm true sn sub ab col dd k0 k1 k2 k3 k5 "ValueError.__new__"/\Uy bm=true:=by
 unfold xIn at q
 split at q
 ·rename_i dd cd sl ho
  split at q
  ·rename_i C' bm k0 k1 k2 k3 n k5 hm hs
   simp only[io,UH,TN] at q;(revert q;show Qy λμ q1 q2 q3 M0=>?_;subst μ;subst M0);obtain⟨nm,bs,mro,ns,qn,hd,sn,sub,ab,col,de⟩:=cd;subst hm q1 q2;obtain⟨sl⟩:=sl;subst hs;show(Da nm qn ns bs bm sn (Da sub ab col dd k0 k1 (SU k2 k3 k5 ho q3)))
  ·cases q
 ·cases q
structure Wx (K:Ψ)(C:Ι):Prop where
 x:xIn K C=true
 kp:NI K (.ref C)=true
 sa:F2 K (.ref C) "__setattr__"=!some (.builtin "object.__setattr__")
 ga:F2 K (.ref C) "__getattribute__"=!some (.builtin "BaseException.__getattribute__")
 gn:F2 K (.ref C) "__getattr__"=!none
 hd:Wo K C=true
section
variable {M:aaJ} {h:be} {g:Array adO} {d:as8} {t:Nat} {os:ago}
variable {nm:Str} {N:Ι} {bs:-Υ} {dd:Option Ι} {k0:Option Υ}
def HN {Q:Unit->η->Prop}(hC:h.get? C=!excClassObj nm qn C N bs bm ai9 sn sub ab col dd k0 k1 k2 k3 k5 "ValueError.__new__")(ho:Uy bm=true)
  (q:Q Unit.unit ⟨h,g,d,t,os⟩):wpAny M A (checkBuiltinCall "ValueError.__new__" ⟨.ref C::us,[]⟩) Q E ⟨h,g,d,t,os⟩:=by
 let F:=PySem.F.excBase_ValueError;let c1:(ϫ C::bm).contains (.type "ValueError")=true:=by rw[F1,eG ho (b:=true) "!",Rf]
 simp only[checkBuiltinCall,F.newKind,F.newSplit]
 repeat (first | (show MS hC ?_) | (show P8 hC ?_;rw[c1]) | (show wpAny_staticBase_exc hC ?_) | (show aik hC ?_) | (simp only[Bool.false_eq_true]) | wp_step)
 show q
end
section
variable {R:abQ->η->Prop} {h:be} {g:Array adO} {d:as8} {t:Nat} {os:ago}
variable {nm:Str} {N:Ι} {bs:-Υ} {dd:Option Ι} {k0:Option Υ}
theorem aaX (us:-Υ):Obj:={ cls:=.type "tuple",data:=.seq us.10 }
def LI (hC:h.get? C=!excClassObj nm qn C N bs bm ai9 sn sub ab col dd k0 k1 k2 k3 k5 "ValueError.__new__")(ho:Uy bm=true)
  (q:R (.ok (.ret (.ref (h.7+1)))) ⟨(h.push (aaX us)).push (R3 C h.7 none),g,d,t,os⟩) (hl:us.4<=sizeLine) :
  codeAny (model prog w) A (.builtin "ValueError.__new__" ⟨.ref C::us,[]⟩) R ⟨h,g,d,t,os⟩:=by
 let F:=PySem.F.excBase_ValueError;let en:=F.ends;let c1:(ϫ C::bm).contains (.type "ValueError")=true:=by rw[F1,eG ho (b:=true) "!",Rf]
 let c2:(ϫ C::bm).contains (.type "AttributeError")=false:=by rw[F1,eG ho (b:=false) "!"];rfl
 let c3:(ϫ C::bm).contains (.type "NameError")=false:=by rw[F1,eG ho (b:=false) "!"];rfl
 show codeAny_builtinAt F.entry (PySem.wpAt_bind ?_);show PySem.wpAt_bind (PySem.wpAt_stack λ_ _=>PySem.wpAt_of_wpAny ?_)
 wp_walk
 show PySem.wpAt_of_wpAny ?_;rw[F.owner]
 repeat (first | (with_reducible show wpAny_madeHere_exc F.canon hC ?_) | (with_reducible show MS hC ?_) | (with_reducible show P8 hC ?_;first | rw[c1] | rw[c2] | rw[c3]) | wp_step)
 rw[bw];show q
def HP {K:Ψ}{Q:Fin->η->Prop}(X:K.In hh)(c:Wx K C)(hi:F2 K (.ref C) "__init__"=!some (.ref f))(hf:Wh K (.ref f)=true)(hl:us.4<=sizeLine)
  (hq:wpAny (model prog w) A (call (.ref f) (.ref (hh.7+1)::us)) (λr s'=>r=.none/\Q (.done (.ret (.ref (hh.7+1)))) s') E ⟨(hh.push (aaX us)).push (R3 C hh.7 none),g,d,t,os⟩) :
  wpAny (model prog w) A (Wj.«type.__call__» ⟨.ref C::us,[]⟩) Q E ⟨hh,g,d,t,os⟩:=by
 (show UQ (mB c.x) λnm qn N bs bm sn=>L6 λsub ab col dd k0 k1=>Rw λk2 k3 k5 hK ho=>?_);let hC:=X _ _ hK;let k:∀b o,hh.get? b=!o->((hh.push (aaX us)).push (R3 C hh.7 none)).get? b=!o:=λb o e=>Τ _ (Τ _ e)
 repeat (first | (with_reducible show MS hC ?_) | (with_reducible show aik hC ?_) | wp_step)
 show codeAny_call_builtin_code (PR _ PySem.F.excBase_ValueError.quiet) (HN hC ho (LI hC ho ?_ hl))
 let c4:(ϫ C::bm).contains (.ref C)=true:=by simp
 repeat (first | (with_reducible show MS hx ?_) | (with_reducible show P8 (k _ _ hC) ?_;rw[c4]) | wp_step)
 show((Qp X hi).keeps k).at (MC (Ν (((as4 X (.ref (hh.objs.size+1)) (UH.mp hf)).keeps k).at ?_)));show Ν (lw hq (λr s' z=>?_) λ_ _ z=>z);obtain⟨rfl,z⟩:=z
 wp_walk
 show z
def Kg {K:Ψ}{Q:Υ->η->Prop}(X:K.In s.8)(c:Wx K C)(hi:F2 K (.ref C) "__init__"=!some (.ref f))(hf:Wh K (.ref f)=true)(hl:us.4<=sizeLine)
  (hq:wpAny (model prog w) (A.under (.builtin "type.__call__" ⟨.ref C::us,[]⟩)) (call (.ref f) (.ref (s.5+1)::us)) (λr s'=>r=.none/\Q (.ref (s.5+1)) s') E
   { s with heap:=(s.heap.push (aaX us)).push (R3 C s.5 none) }):wpAny (model prog w) A (call (.ref C) us) Q E s:=by
 obtain⟨hh,g,d,t,os⟩:=s;(show UQ (mB c.x) λnm qn N bs bm sn=>L6 λsub ab col dd k0 k1=>Rw λk2 k3 k5 hK ho=>?_);let hC:=X _ _ hK;let f1:=tc_lookup;let f2:=tc_bind (.ref C)
 show Pg (Yc ?_)
 repeat (any_goals (first | assumption | (with_reducible show MS hC ?_) | wp_step))
 show⟨rfl,codeAny_call_builtin_at (PR _ (s!"d")) entry_typeCall (wpAny_check_type_call_sub hC (HP X c hi hf hl hq))⟩
end
section
variable {s:η} {K:Ψ} {x:Ι} {v:Υ}
def LJ {od:Option Obj}{Q:Υ->η->Prop}(X:K.In s.8)(I:U9 s.8 x ox C od)(c:xIn K C=true)(hga:F2 K (.ref C) "__getattribute__"=!some (.builtin "BaseException.__getattribute__"))(hgn:F2 K (.ref C) "__getattr__"=!none)
  (hf:W.findObj K C od name=!.value v) (hh:adF v=true) (h:Q v { s with toks:=s.29+1 }):wpAny (model prog w) A (getAttr (.ref x) name expr) Q E s:=by
 obtain⟨h0,g,d,t,os⟩:=s;(show UQ (mB c) λnm qn N bs bm sn=>L6 λsub ab col dd k0 k1=>Rw λk2 k3 k5 hK ho=>?_);let L0:=I.type (M:=model prog w);show Ν (wpAny_mkText (MC (Ν (L0.at (Ν ((Qp X hga).at ?_))))));let e1:callGetattribute (.ref x) (.str name t) (.builtin "BaseException.__getattribute__") expr=boundAndCalled (.builtin "BaseException.__getattribute__") (.ref x) (.str name t):=by
  cases expr<;>rfl
 let LB:aag (model prog w) h0 (isInstance (.ref x) (.type "BaseException")) true:=L0.andThen (ai2 X (by
  obtain⟨cd,hc,hcm⟩:∃cd,aeb K C=!cd/\cd.mro=.ref C::bm:=(Λ _ (by unfold aeb;rw[hK]) rfl)
  unfold alL
  rw[hc,TQ,hcm,Φ ∅,F1,eG ho (b:=true) "!",Rf]))
 show Ν ((Qp X hgn).at (Ν (UI (MC ?_))));rw[e1];show Ν (ύ (Pg (NQ PySem.F.excAttr_ValueError.ga.plain PySem.F.entry_bexc_ga (@alV (model prog w) _ _ ⟨h0,g,d,t+1,os⟩ "BaseException.__getattribute__" "BaseException" "__getattribute__" (.ref x) [.str name t] [] _ (s!"d") (s!"d") LB (PySem.F.args_bexc_ga _ _) (Ν (ύ (Ν (ύ (Ν (L0.at (Ν ((W.looks_find X I hf).at ?_))))))))))));show ύ ?_;change wpAny _ _ (handedOut v) _ _ _;rw[W.handedOut_of hh];show ύ h
end
end
section
open PySem PySem.Spec PyProof.Rows Builtin Builtin.ObjectAttr
abbrev xdo (d:Ι)(fs:-(Str×V)):HO:=.ext λh=>∃mA,h.Ns1 d mA/\∀f,OE (fs.lookup f) (mA f)
def FF (e:h.Ns1 d mA)(r:∀f,OE (fs.lookup f) (mA f)):Na P w H h d (xdo d fs):=by
 show⟨(Λ mA e r),?_,λh1 h2 ⟨m,e1,r1⟩ k=>(Λ m ?_ r1)⟩
 ·(revert e;show Rw λo _ _ e1 _=>?_)
  show⟨o,e1⟩
 ·show e1.at k
def Bg (x:Rt P w H h)(e:H d=!xdo d fs):∃mA,h.Ns1 d mA/\∀f,OE (fs.lookup f) (mA f):=
 (x _ _ e).1
def Cw {fs:-(Str×V)}(r:∀f,OE (fs.lookup f) (mA f)):PySem.Within mA (fs.map (·.1)):=λy hy=>by
 cases e:fs.lookup y with
 | none=>
  have:=r y;rw[e] at this;show absurd (OE.none_of this) hy
 | some v=>show ω.mpr (Λ (y,v) (PySem.mem_of_lookup e) rfl)
section
variable {s:η} {K:Ψ} {x t:Ι} {v:Υ}
def Ja {od:Option Obj}(X:K.In s.8)(I:U9 s.8 x ox C od)(c:Wx K C)(ht:SO K C name=!none)
  (h:∀b,wpAny (model prog w) A.in1 (storeInOwnDict (.ref x) (.ref C) (.str name tk) name v b)
   (λfin s'=>match fin with | .done f=>R (.ok f) s' | .again c'=>c'.quiet=true/\codeAny (model prog w) A c' R s') (λe s'=>R (.error e) s') s) :
  codeAny (model prog w) A (.call (.builtin "object.__setattr__") ⟨[.ref x,.str name tk,v],[]⟩) R s:=by
 let SF:=PySem.F.store_object;(show UQ (mB c.x) λnm qn N bs bm sn=>L6 λsub ab col dd k0 k1=>Rw λk2 k3 k5 hK ho=>?_);obtain⟨cd,hc,hcm⟩:∃cd,aeb K C=!cd/\cd.mro=.ref C::bm:=(Λ _ (by unfold aeb;rw[hK]) rfl)
 let YE:aag (model prog w) s.8 (isInstance (.ref x) (.type "object")) true:=I.type.andThen (ai2 X (by
  unfold alL;rw[hc,TQ,hcm,Φ ∅]
  rw[F1,eG ho (b:=true) "!",Rf]))
 show NQ SF.slot.plain SF.entry (@alV (model prog w) _ _ s "object.__setattr__" "object" "__setattr__" (.ref x) [.str name tk,v] [] _ SF.62 SF.split YE (SF.args (.ref x) (.str name tk) v) ?_);(show ι (ax8.mp ht) λattr ha hr=>?_);let hm:aag (model prog w) s.8 (mroOf (.ref C)) (.ref C::bm):=hcm▸(TM X hc).andThen .now;let L3:aag (model prog w) s.8 (storeTaker? attr) none:=by
  cases attr with
  | none=>cases hr;show .now
  | some a=>
   (show ι (ξ.mp hr) λb hb e=>?_);cases b with
   | true=>cases e
   | false=>show(W.looks_takesIn X hb).andThen .now
 rw[W.osa_eq,refuse_eq];show Ν (Ν (I.type.here (Ν (hm.here ?_))));rw[alU,zk _ ho];show ύ (Ν (I.type.here (Ν ((Qp X ha).here (Ν (L3.here (h _)))))))
def Kh {Q:Unit->η->Prop}(X:K.In s.8)(hx:s.heap.get? x=!R3 C t none)(c:Wx K C)(ht:SO K C name=!none)
  (h:∀h' tk,h'.Ns1 s.5 (λy=>if y=name then some v else none)->h'.get? x=!R3 C t (!s.5)->(∀b o,b≠x->s.heap.get? b=!o->h'.get? b=!o)->Q Unit.unit { s with heap:=h',toks:=tk }) :
  wpAny (model prog w) A (setAttr (.ref x) name v) Q E s:=by
 let J:U9 s.8 x (R3 C t none) C none:=⟨hx,rfl,rfl,trivial⟩
 show abN X J c.sa (Ja X J c ht λb=>?_);(show ι (adG c.hd) λcd hc hd=>?_);obtain⟨hh,g,dr,tk,os⟩:=s;show Ν (ύ (Ν (Ν (Y3 hx (Ν (QJ (TM X hc) ?_))))));rw[hd];let Xb:(hh.push Mz).get? x=!R3 C t none:=Τ _ hx;let nx:=Ϧ (π hx);show Ν (wpAny_alloc' (Ν (wpAny_update' Xb (ύ (Ν (ύ (Ν ?_)))))));let gd:((hh.push Mz).update x λo=>{ o with dict:=some hh.7 }).get? hh.7=!Mz:=
  (aah _ _ _ _ (ψ nx)).trans (Heap.get?_push_at rfl rfl)
 let nd:((hh.push Mz).update x λo=>{ o with dict:=some hh.7 }).Ns hh.7 (λ_=>none):=(ϰ _ (#[]) _ gd rfl (λe he=>absurd he ∅) (λ_=>rfl))
 show abO (Y4 nd) λh' n' sb=>?_;(show aco (n'.count (afx name v ax9)) λoD esD epD hoD hdD hcD=>?_);show Ν (WV hoD (by rw[hdD];show WW (ο hcD (by rw[ς,ϸ,OD];lk))) (ύ (h h' _ n' ?_ λb o hb e=>?_)))
 ·show(sb.2 x nx).trans (Nk _ Xb rfl)
 ·show(sb.2 b (Ϧ (π e))).trans ((aah _ _ _ _ hb).trans (Τ _ e))
def Ki {ns:-Str}{Q:Unit->η->Prop}(X:K.In s.8)(hx:s.heap.get? x=!R3 C t (!dx))(hn:s.heap.Ns1 dx mA)(ne:dx≠x)(c:Wx K C)(ht:SO K C name=!none)
  (hw:PySem.Within mA ns) (hz:ns.4<=1000) (h:∀h' tk,h'.Ns1 dx (λy=>if y=name then some v else mA y)->Pn dx s.8 h'->Q Unit.unit { s with heap:=h',toks:=tk }) :
  wpAny (model prog w) A (setAttr (.ref x) name v) Q E s:=by
 (show ι (nK hn) λod ho _=>?_);let J:U9 s.8 x (R3 C t (!dx)) C (!od):=⟨hx,rfl,rfl,ho⟩
 show abN X J c.sa (Ja X J c ht λb=>?_);(show ι (adG c.hd) λcd hc hd=>?_);show Ν (ύ (Ν (Ν (Y3 hx (Ν (QJ (TM X hc) ?_))))));rw[hd];show ύ (Ν (ύ (Ν (abO hn λh' n' sb=>?_))));(show aco (n'.count (afx name v hw)) λoD esD epD hoD hdD hcD=>?_);show Ν (WV hoD (by rw[hdD];show WW (ο hcD (by rw[ς,OD];lk))) (ύ (h h' _ n' sb)))
end
abbrev sXs (K:Ψ)(ta tv:TE)(f:Str):TS:=λD σ H=>tv σ H λy H1=>ta σ H1 λx H2=>∃ea C t,x=.ref ea/\Wx K C/\i' K C f/\
 ((H2 ea=!xo ea C t none/\∀d,H2 d=none->d≠ea->D.nx σ (upd (upd H2 d (xdo d [(f,y)])) ea (xo ea C t (!d))))\/
  ∃d fs,d≠ea/\H2 ea=!xo ea C t (!d)/\H2 d=!xdo d fs/\fs.4<=100/\D.nx σ (upd H2 d (xdo d (QB f y fs))))
section
variable {X:Cx} {o:tz} {f:Str}  
def Bh (ha:PE X o ta)(hv:PE X value tv)(hs:swapsWith value (!.Attribute o f pos') pos.53 X.9=pure false):PS X (.Assign [.Attribute o f pos'] value pos) (sXs X.K ta tv f):=by
 intro pins s σ H D I h;show Wp (L8 (hv pins s σ H _ I h) λu s1 y H1 I1 ry q=>No (ha pins s1 σ H1 _ I1 q) λov s2 zz=>Nm zz λx H2 I2 rx=>Yp λea C t ex c n q2=>?_) hs;subst ex;obtain rfl:ov=ϫ ea:=rx;rcases q2 with⟨he,q3⟩ | ⟨d,fs,nd,he,hd,hl,q3⟩
 ·let ge:=vt I2.lu he
  show Kh I2.QV ge c n.acx λh' tk n' gx k=>?_;let hfr:=I2.lu.fresh (δ _);show(cr σ _ (I2.un ?_ ?_) (q3 _ hfr (K4 (π ge))))
  ·let ne1:∀b,H2 b=none->b≠ea:=λb e z=>by rw[z,he] at e;cases e
   let kp:=λb o e n=>k b o (ne1 b n) e;show⟨λb o e n _ _=>kp b o e n,λb o e n _ _=>⟨o.68,kp b o e n⟩,λb o e n _=>?_,λb o e _=>?_,λb xs e=>?_,λb o u e=>?_,λb ps e=>⟨#[],?_⟩⟩
   ·rw[ag (ne1 b n),ag (Ϧ (π e))];show n
   ·by_cases hb:b=ea
    ·rw[hb];show⟨_,gx⟩
    ·show⟨o,k b o hb e⟩
   ·rw[ag (bO e he (by unfold xo;intro z;cases z)),ag (aq e hfr)];show e
   ·rw[ag (bO e he (by unfold xo;intro z;cases z)),ag (aq e hfr)];show e
   ·rw[ag (bO e he (by unfold xo;intro z;cases z)),ag (aq e hfr),e];simp
  ·intro b u e
   by_cases hb:b=ea
   ·subst hb;rw[aa] at e;cases e;show I8 gx
   ·rw[ag hb] at e
    by_cases hb2:b=s2.5
    ·subst hb2;rw[aa] at e;cases e
     show FF n' λg=>?_
     by_cases z:g=f
     ·subst z;simp only[M6,beq_self_eq_true];show ry
     ·let zb:=Np.mpr z
      rw[Φ z];simp only[M6,zb];trivial
    ·rw[ag hb2] at e
     let nc:∀c z,H2 c=!z->(∀φ,z≠.ext φ)->c≠ea/\c≠s2.5:=λc z r hz=>⟨λw'=>by rw[w',he] at r;show hz _ (Ϭ r).17,aq r hfr⟩
     show(I2.lu b u e).Qa (λc v hc r=>k c v ?_ r) (λc r=>?_) λc xs r=>?_
     ·rcases hc with z | z
      ·rw[z];show hb
      ·show(nc c _ z (λφ w'=>by cases w')).1
     ·rw[ag (nc c _ r (λφ w'=>by cases w')).1,ag (nc c _ r (λφ w'=>by cases w')).2];show r
     ·rw[ag (nc c _ r (λφ w'=>by cases w')).1,ag (nc c _ r (λφ w'=>by cases w')).2];show r
 ·let ge:=vt I2.lu he
  (show ι (Bg I2.lu hd) λmA hn hr=>?_);show Ki I2.QV ge hn nd c n.acx (Cw hr) (by rw[Θ];lk) λh' tk n' sb=>?_;show(cr σ _ (I2.write (by rw[hd];show FS) (.inl rfl) (λb o hb e=>(sb.2 b hb).trans e) ?_ (FF n' λg=>?_)) q3)
  ·(revert n';show Rw λo _ _ e _=>?_);show⟨o,e⟩
  ·change OE ((QB f y fs).lookup g) (if g=f then some u else mA g)
   rw[ji]
   by_cases z:g=f
   ·rw[γ z,γ z];show ry
   ·rw[Φ z,Φ z];show hr g
end
abbrev Bj (C:Ι)(names:-Str):Sp:=λvs H Q _=>∃ea t ys,vs=.ref ea::ys/\ys.4=names.4/\H ea=!xo ea C t none/\
 ∀d H',H d=none->d≠ea->(∀b,b≠d->b≠ea->H' b=H b)->H' ea=!xo ea C t (!d)->H' d=!xdo d (names.zip ys)->Q .k4 H'
abbrev ahe (C:Ι)(names:-Str)(E:XK)(t:TA):TS:=λ_ σ H=>t σ H λys H1=>ys.4=names.4/\∀d H',H1 d=none->Ω H1 H'->H' d=!xdo d (names.zip ys)->E (.ref C) (!d) H'
section
variable {X:Cx} {k:Nat} {ps names:-Str} {E:XK} {t:TA}
def xa (c:Wx X.K C)(hi:F2 X.K (.ref C) "__init__"=!some (.ref f))(hf:Wh X.K (.ref f)=true)(F:X.Fo Yx k f fd ps (Bj C names))(hr:MW (k+1) X.A)
  (hg:Gl X x) (hm:X.mg x=!.ref C) (hb:Binds X.K fd ps []) (hnl:names.4<=100) (hx:aau X E) (ha:PA X (e::es) t) (Zm:autoParam (Ws x) L2.M9._auto_1)
  (MZ: ~~~(StE X e es)) (Pm: ~~~((backTo MP (starEach es X.9)).any (·.1)=false)) :
  PS X (.Raise (!(.Call (.Name x np) (e::es) [] MP)) none pos) (ahe C names E t):=by
 intro pins s σ H D I h;show Ν (Ou (Ν (Ν (No (Q:=λu s1=>∃ea tt dx H2,u=ϫ ea/\X.s₀.5<=ea/\Inv X pins σ H2 s1/\H2 ea=!xo ea C tt dx/\E (.ref C) dx (del H2 ea)) ?_ ?_))))
 ·show mD (ke I hg hm (PY I.54 c.kp (No (ha MP pins s σ H _ I h) λus s1 zz=>RA zz λys H1 I1 r hlen q=>⟨I1.QV,?_⟩) MZ Pm) Zm);let hul:us.4<=100:=by rw[<-r.4,hlen];show hnl
  show Kg I1.QV c hi hf (ο hul "!") (Pg ?_);let e2:((s1.heap.push (aaX us)).push (R3 C s1.5 none)).get? (s1.5+1)=!R3 C s1.5 none:=by
   have:=ώ (s1.heap.push (aaX us)) (o:=R3 C s1.5 none) rfl
   rwa [bw] at this
  let I2:=(I1.kept (t':=s1.29) (λb u q=>Τ _ q)).laid (t':=s1.29) (λb u q=>Τ _ q) (Uq (bw _ _)) (I8 e2);let r2:Vals (V.ref (s1.5+1)::ys) (ϫ (s1.5+1)::us):=.cons rfl r;let PX:Bj C names (V.ref (s1.5+1)::ys) (upd H1 (s1.5+1) (xo (s1.5+1) C s1.5 none))
    (λv H2=>v=.k4/\∃tt dx,H2 (s1.5+1)=!xo (s1.5+1) C tt dx/\E (.ref C) dx (del H2 (s1.5+1))) E0:=by
   show(ϰ _ _ ys rfl hlen aa (λd H' hd nd ho hea hdd=>⟨rfl,(cr _ _ hea (q d _ ?_ (λb o hb=>?_) ?_))⟩))
   ·rw[ag nd] at hd;show hd
   ·let n1:=aq hb (I1.lu.fresh (Pc _))
    let n2:b≠d:=λz=>by rw[z,<-ag (H:=H1) nd,hd] at hb;cases hb
    rw[iF n1,ho b n2 n1,ag n1];show hb
   ·rw[iF nd];show hdd
  let hl:(ϫ (s1.5+1)::us++[]).4=ps.4:=by
   let e:=r2.4;rw[F.len _ _ _ _ PX] at e;rw[Ix];show e.17
  let hbd:=hb _ (ϫ (s1.5+1)::us) I2.QV hl;rw[Ix] at hbd;show MQ (F.run _ X.20 _ _ ⟨ϫ (s1.5+1)::us,[]⟩ _ _ _ E0 (hr.make C us []) (I2.aeq.make C us []) hbd r2 PX) λr s' hq'=>?_;cases r with
  | error e=>show Ϸ hq'
  | ok fl=>
   cases fl with
   | ret u=>
    (show RA (I2.after hq') λv H' I3 rv ev=>v0 λtt dx g1 g2=>?_);subst ev;show⟨rv,(SV _ tt dx H' rfl (ο I1.sz (Pc _)) I3 g1 g2)⟩
   | next=>show Ϸ hq'
   | brk=>show Ϸ hq'
   | cont=>show Ϸ hq'
 ·rintro u s1 ⟨ea,tt,dx,H2,rfl,hn,I2,he2,q2⟩
  show Ν (Ou (ύ ?_));let ge:=vt I2.lu he2;let hE:=hx pins σ H2 s1 ea C tt dx I2 he2 hn q2;(show UQ (mB c.x) λnm qn N bs bm sn=>L6 λsub ab col dd k0 k1=>Rw λk2 k3 k5 hK ho=>?_);let hC:=I2.QV _ _ hK;let cB:(ϫ C::bm).contains (.type "BaseException")=true:=by rw[F1,eG ho (b:=true) "!",Rf]
  obtain⟨hp,g,d,tk,os⟩:=s1
  repeat (first | (with_reducible show MS ge ?_) | (with_reducible show MS hC ?_) | (with_reducible show P8 hC ?_;rw[cB]) | wp_step)
  show wpAny_raiseNew_none hr.hd hE
end
end
section
open PySem PySem.Spec PyProof.Rows
def Na.here (x:Na P w H h a o):∃u,h.get? a=!u:=by
 cases o with
 | lst xs=>(revert x;show Nl λ_=>v0 λ_ _ _ e=>?_);show⟨_,e⟩
 | tup xs=>(revert x;show Nl λ_=>ϭ λ_ _=>ϭ λob e _=>?_);show⟨_,e⟩
 | dK ϓ=>(revert x;show N8 λ_ _=>ϭ λ_ _=>Rw λo _ _ e _=>?_);show⟨_,e⟩
 | dT ϓ=>(revert x;show N8 λ_ _=>ϭ λ_ _=>Rw λo _ _ e _=>?_);show⟨_,e⟩
 | set S n=>(revert x;show N9 λo _ _ _ e _=>?_);show⟨_,e⟩
 | ins C dx fs=>(revert x;show Qy λ_ _ _ e _=>?_);show⟨_,e⟩
 | own y=>show x
 | xd fs=>(revert x;show ϭ λ_ μ _=>?_;obtain ⟨_,_,_,e,_⟩:=μ);show⟨_,e⟩
 | rng lo hi=>(revert x;show SS λ_ _ _ e=>?_);show⟨_,e⟩
 | Ve ob u=>obtain⟨e,_⟩:=x;show⟨_,e⟩
 | tbl ps=>show⟨_,(x)⟩
 | met f y=>show⟨_,(x)⟩
 | ext φ=>(revert x;show N8 λ_ e _=>?_);show e
abbrev aav (X:Cx)(pins:-(Ι×Obj))(σ:St)(E:XK)(e:Υ)(s':η):Prop:=
 ∃s H ea C dx B H',e=.ref ea/\Inv X pins σ H s/\Wl X.24 X.w X.20 H s ea C dx .none B H' s'/\E (.ref C) dx H'
noncomputable abbrev TX:=XK->St->Hp->Prop
abbrev PEx (X:Cx)(e:tz)(t:TX):Prop:=∀pins s σ H E,Inv X pins σ H s->t E σ H->wpAny X.mo X.A (eval e X.9) (λ_ _=>False) (aav X pins σ E) s
abbrev PSx (X:Cx)(st:ϟ)(t:TX):Prop:=∀pins s σ H E,Inv X pins σ H s->t E σ H->wpAny X.mo X.A (exec st X.9) (λ_ _=>False) (aav X pins σ E) s
abbrev aeK (X:Cx)(st:-ϟ)(t:TX):Prop:=∀pins s σ H E,Inv X pins σ H s->t E σ H->wpAny X.mo X.A (execs st X.9) (λ_ _=>False) (aav X pins σ E) s
abbrev are (sp:Sp)(RQ:-V)(t:TA):TX:=λE σ H=>t σ H λvs H1=>sp (vs++RQ) H1 (λ_ _=>False) E
abbrev akh (C:Ι)(m:Str)(sp:Sp)(RQ:-V)(ta:TE)(t:TA):TX:=λE σ H=>ta σ H λx H1=>∃a dx fs,x=.ref a/\H1 a=!.ins C dx fs/\fs.lookup m=none/\t σ H1 λvs H2=>sp (x::(vs++RQ)) H2 (λ_ _=>False) E
abbrev arf (C:Ι)(sp:Sp)(RQ:-V)(t:TA):TX:=λE σ H=>t σ H λvs H1=>∀x dx,H1 x=none->H1 dx=none->dx≠x->sp (.ref x::(vs++RQ)) (upd (upd H1 dx (.own x)) x (.ins C dx [])) (λ_ _=>False) E
abbrev xNo:TX:=λ_ _ _=>False
section
variable {X:Cx} {k:Nat} {ps:-Str} {E:XK} {m:Str} {o:tz} {t:TA} {s:η}
def thx {t:Sem α}{Q Q':α->η->Prop}{E:Υ->η->Prop}(h:wpAny M A t Q (λ_ _=>False) s)(hQ:∀a s,Q a s->Q' a s):wpAny M A t Q' E s:=lw h hQ λ_ _ z=>z.36
def LK {vs:-V}(F:OZ X.24 X.w X.K X.mg X.50 (CXv X.24 X.w) k f fd ps sp)(hr:MW k X.A)(hb:Binds X.K fd ps ds)(hd:Vals RQ ds)
  (I:Inv X pins σ H s) (r:Vals vs us) (h:sp (vs++RQ) H (λ_ _=>False) E):wpAny X.mo X.A (call (.ref f) us) (λ_ _=>False) (aav X pins σ E) s:=by
 let r2:=r.append hd;let hl:(us++ds).4=ps.4:=by rw[<-r2.4];show F.len _ _ _ _ h
 show Pg (MQ (F.run X.A X.20 s H ⟨us,[]⟩ (us++ds) (vs++RQ) _ E hr I.aeq (hb s us I.QV hl) r2 h) λr s' hq=>?_);cases r with
 | error e=>
  (revert hq;show SS λea C dx=>MM λB H' μ T q=>?_;subst μ);show(Da s H ea C dx B (MD H' rfl I T q))
 | ok fl=>
  cases fl with
  | ret u=>(revert hq;show Qz λ_ _ _ _ _ _=>Nl λ_ q=>?_);show q
  | next=>show Ϸ hq
  | brk=>show Ϸ hq
  | cont=>show Ϸ hq
def ql (he:PE X.SW o ta)(c:Wu X.K C)(hm:Xz X.K C m f)(F:OZ X.24 X.w X.K X.mg X.50 (CXv X.24 X.w) k f fd ps sp)(hr:MW k X.A)(hb:Binds X.K fd ps ds)(hd:Vals RQ ds)(ha:PA X.SW (e::es) t)
  (MZ: ~~~(StE X e es)) (Pm: ~~~(BkA X pos es))
  (ht:autoParam (eval (.Call (.Attribute o m apos) (e::es) [] pos) X.9=(do
   let ov <-eval o X.9
   standAt apos.99
   let (f,first) <-holding [ov] (getMethod ov m pl)
   callWith pos f first (backTo pos (starEach (e::es) X.9)) (backToKw pos (keywordEach [] X.9)))) L2.ϩ._auto_1) :
  PEx X (.Call (.Attribute o m apos) (e::es) [] pos) (akh C m sp RQ ta t):=by
 intro pins s σ H E I h;show WX (thx (he pins s σ H _ (I.RZ _) h) λu s1 zz=>Nm zz λx H1 I1 rx=>Yp λa dx fs ex ea l q=>?_) ht;subst ex;obtain rfl:u=ϫ a:=rx;show k8 I1.ME ea c hm l (PY I.54 hm.kp (thx (ha pos pins s1 σ H1 _ I1 q) λus s2 zz=>Nm zz λvs H2 I2 r q2=>⟨I2.QV,?_⟩) MZ Pm);show LK (vs:=.ref a::vs) F hr hb hd I2.ME (.cons rfl r) q2
def vv {y:Str}{tx:TX}(he:PEx X e tx)(hs: ~~~(swapsWith e (!.Name y pos') pos.53 X.9=pure false)):PSx X (.Assign [.Name y pos'] e pos) tx:=by
 intro pins s σ H E I h;show agj (No (he pins s σ H E I h) λ_ _ z=>z.36) hs
def Jb {a b:-ϟ}{t u:TX}(hc:PT X.SW c tc)(ha:aeK X a t)(hb:aeK X b u):PSx X (.If c a b pos) (λE σ H=>tc σ H λd H1=>if d=true then t E σ H1 else u E σ H1):=by
 intro pins s σ H E I h;show wpAny_If (thx (hc pins s σ H _ (I.RZ _) h) λd s1 zz=>ι zz λH1 I1 q1=>?_);cases d with
 | true=>show ha pins s1 σ H1 E I1.ME q1
 | false=>show hb pins s1 σ H1 E I1.ME q1
def km {st:ϟ}{t:TX}(h1:PSx X st t):aeK X (st::rest) t:=by
 intro pins s σ H E I h;show RL (No (h1 pins s σ H E I h) λ_ _ z=>z.36)
end
abbrev xh (ea C:Ι)(dx:Option Ι):HO:=.ext λh=>∃o vs,h.get? ea=!o/\o.92=.ref C/\o.51=dx/\o.52=.fields vs
def LL {P:ϯ}{h:be}{dx:Option Ι}{o:Obj}(e:h.get? ea=!o)(e1:o.92=.ref C)(e2:o.51=dx)(e3:o.52=.fields vs):Na P w H h ea (xh ea C dx):=
 ⟨(Fk o vs e e1 e2 e3),⟨_,e⟩,λ_ _ ⟨o,vs,q,r⟩ k=>(cr o vs (k _ q) r)⟩
def Kj {P:ϯ}{h:be}{dx:Option Ι}(x:Rt P w H h)(e:H ea=!xh ea C dx):∃o vs,h.get? ea=!o/\o.92=.ref C/\o.51=dx/\o.52=.fields vs:=
 (x _ _ e).1
abbrev afU (K:Ψ)(ta:TE)(f:Str):TE:=λσ H Q=>ta σ H λx H1=>∃ea C d fs v,x=.ref ea/\H1 ea=!xh ea C (!d)/\H1 d=!xdo d fs/\Wx K C/\i' K C f/\fs.lookup f=!v/\Q v H1
section
variable {X:Cx} {f:Str}  
def HQ (he:PE X e ta)(hb:attributeBase e f X.9 (eval e X.9)=eval e X.9):PE X (.Attribute e f pos) (afU X.K ta f):=by
 intro pins s σ H Q I h;show AY hb (No (he pins s σ H _ I h) λu s1 zz=>Nm zz λx H1 I1 rx=>aef λea C d fs v ex hea hd c n l q=>?_);subst ex;obtain rfl:u=ϫ ea:=rx;(show RA (Kj I1.lu hea) λo vs ge gc gd gf=>?_);(show ι (Bg I1.lu hd) λmA hn hr=>?_);(show ι (nK hn) λod ho hl=>?_);(show ι (OE.mh (by rw[<-l];show hr f)) λu hu ru=>?_);let J:U9 s1.8 ea o C (!od):=by
  obtain⟨oc,odd,oda,W1⟩:=o;subst gc gd gf;show⟨ge,rfl,rfl,ho⟩
 show LJ I1.QV J c.x c.ga c.gn (aiW c.hd n rfl (by rw[hl,hu])) (tM ru) (ϕ v H1 (I1.tok _) ru q)
end
def xb {K:Ψ}{f:Str}(he:PE X e ta)(hb:attributeBase e f X.9 (eval e X.9)=eval e X.9)(hK: ~~~(X.K=K)):PE X (.Attribute e f pos) (afU K ta f):=hK▸HQ he hb
theorem Cx.han (X:Cx)(ea:Ι):Cx:={ X with A:=X.A.mark (!.ref ea),calm:=false }
def Inv.han (I:Inv X pins σ H s)(ea:Ι):Inv (X.han ea) pins σ H s:=
 ⟨⟨I.95,I.38,I.91,I.ok.blt,I.41,I.ok.inj,I.ok.has,I.ok.cab,(λz=>nomatch z),I.ok.32,I.96,I.ok.exf,I.ok.bs,I.97,I.ok.Yv,I.ok.aaP,I.ok.Ss,I.ok.frf⟩,I.os,I.46,I.50,I.87,I.98,I.58,I.P0,I.pin,I.lu,I.25⟩
def Inv.aaw (ok:X.Ok)(I:Inv (X.han ea) pins σ H s):Inv X pins σ H s:=
 ⟨ok,I.os,I.46,I.50,I.87,I.98,I.58,I.P0,I.pin,I.lu,I.25⟩
section
variable {X:Cx} {s:η} {dx:Option Ι} {B:be} 
def Wl.new (T:Wl X.24 X.w X.20 H s ea C dx fl B H' s')(I:Inv X pins σ H s)(e:s.heap.get? b=!o):b≠ea:=by
 rintro rfl
 obtain⟨a0,f⟩:=T.fly
 by_cases hb:b∈TC X.20
 ·obtain⟨sl,e1⟩:=T.slo b o hb e
  (show TY f.aeG λoe vs _=>Qz λ_ _ ge _ _ dt _=>?_);(show PV (f.akb.mem hb) λ_=>ϭ λo1 ho1 nf=>?_);rw[ge] at ho1;cases ho1;show nf _ dt
 ·obtain⟨o',e1⟩:=T.bas.there b o e hb
  rw[f.new] at e1;cases e1
def Wl.none (T:Wl X.24 X.w X.20 H s ea C dx fl B H' s'):H' ea=none:=by
 obtain⟨a0,f⟩:=T.fly;cases q:H' ea with
 | none=>rfl
 | some u=>
  obtain⟨o,e⟩:=(T.lu ea u q).here;rw[f.new] at e;cases e
def Wl.inv (T:Wl X.24 X.w X.20 H s ea C dx fl B H' s')(I:Inv X pins σ H s):Inv X pins σ H' s':=I.acs T.os T.un T.held T.46 (λb z=>nomatch z)
def Wl.seen (T:Wl X.24 X.w X.20 H s ea C dx fl B H' s')(I:Inv X pins σ H s):Inv X pins σ (upd H' ea (xh ea C dx)) s':=by
 let hn:=T.none;obtain⟨a0,f⟩:=T.fly;(show TY f.aeG λoe vs _=>Qz λ_ _ ge gc gd dt _=>?_);let un:=T.un;show I.acs T.os ⟨un.keep,un.slot,λb o e n hx=>?_,un.there,λb xs e=>?_,λb o u e=>?_,λb ps e=>?_⟩ (λb u e=>?_) T.46 (λb z=>nomatch z)
 ·rw[ag (T.new I e)];show un.free b o e n hx
 ·have:=un.Ri b xs e;rw[ag (aq this hn)];show this
 ·have:=un.QU b o u e;rw[ag (aq this hn)];show this
 ·obtain⟨m,this⟩:=un.Rj b ps e;show⟨m,by rw[ag (aq this hn)];show this⟩
 ·by_cases hb:b=ea
  ·subst hb;rw[aa] at e;cases e;show LL ge gc gd dt
  ·rw[ag hb] at e
   show(T.held b u e).Qa (λc v _ r=>r) (λc r=>by rw[ag (aq r hn)];show r) λc xs r=>by rw[ag (aq r hn)];show r
def Wl.on (T:Wl X.24 X.w X.20 H s ea C dx fl B H' s')(f2:Fly B X.20 ea (.ref C) dx a0 fl' h2)(u:s'.heap.UpToSlots h2)(I:Inv X pins σ H s):Wl X.24 X.w X.20 H s ea C dx fl' B H' { s' with heap:=h2 }:=
 ⟨T.os,T.46,⟨a0,f2⟩,T.lu,T.bas,λb o hb e=>by
  obtain⟨sl,e1⟩:=T.slo b o hb e;(show PV (I.stack.mem hb) λ_=>ϭ λo1 ho1 nf=>?_);rw[e] at ho1;cases ho1;obtain⟨sl2,e2⟩:=u b _ e1 nf
  show⟨sl2,e2⟩⟩
end
section
variable {X:Cx} {s:η} {M:aaJ}  
def qm {n:Str}{Q:Unit->η->Prop}(I:Inv X pins σ H s)(hN:X.N.14)(hi:X.N[i]?=!n)(hk:X.env.kindOf n=!.local)(h:∀s',Inv X pins (σ.set i none) H s'->Q Unit.unit s') :
  wpAny M A (do bindName X.9 n .none;unbindBehindTheSuite X.9 n pos) Q E s:=by
 (show ι (id I.87) λm hn hl=>?_);let agy:(X.env.27 == .class || (X.env.27 == .module && X.env.locals != X.60))=false:=by rw[I.38];rfl
 show wpAny_nameGoes_keeps hk hn agy λh' v hn' hs=>h _ ?_;let low:∀b o,X.s₀.heap.get? b=!o->b≠X.16:=λb o e=>Ϧ (Ϥ (π e) I.41);show⟨I.ok,I.os,I.46,⟨λb o e n hb hx=>(hs.2 b (low b o e)).trans (I.base.keep b o e n hb hx),λb o e n hb hx=>?_,I.base.58,λb o e hx=>?_,I.base.Ri,I.base.QU,I.base.Rj⟩,(Λ _ hn' (λj y v' e1 e2 e3=>?_)),λy c e=>?_,I.58,I.P0,λp hp=>?_,λb ob e=>?_,by simpa using I.25⟩
 ·obtain⟨sl,e1⟩:=I.base.slot b o e n hb hx
  show⟨sl,(hs.2 b (low b o e)).trans e1⟩
 ·obtain⟨o',e1⟩:=I.base.there b o e hx
  show⟨o',(hs.2 b (low b o e)).trans e1⟩
 ·by_cases hj:j=i
  ·subst hj
   rw[TR] at e2;simp only[if_true] at e2
   split at e2<;>cases e2
  ·rw[ϔ (ψ hj)] at e2
   (show ι (hl j y v' e1 e2 e3) λu' r' q=>?_);show(Λ u' r' ?_);rcases q with⟨k,e⟩ | ⟨k,c,e,z⟩
   ·show .inl ⟨k,?_⟩
    have:y≠n:=λe=>hj (qv hN e1 (e▸hi));simp[this,e]
   ·show .inr ⟨k,(Λ c e (z.sameBut hs (I.cne y c e)))⟩
 ·obtain⟨v,z⟩:=I.cell y c e
  show⟨v,z.sameBut hs (I.cne y c e)⟩
 ·(show aaM (I.pin p hp) λe n1 ne nf d=>?_)
  show⟨(hs.2 _ ne).trans e,n1,ne,nf,d⟩
 ·show(I.lu b ob e).Qa (λc w' hc q=>(hs.2 c ?_).trans q) (λ_ q=>q) λ_ _ q=>q
  rintro rfl
  rcases hc with rfl | hc
  ·rw[I.58] at e;cases e
  ·rw[I.58] at hc;cases hc
end
noncomputable abbrev THs:=Ι->Ι->Option Ι->TS
abbrev PH (X:Cx)(hs:-aai)(th:THs):Prop:=
 ∀pins σ H H' D s s' ea C dx B,Inv X pins σ H s->Wl X.24 X.w X.20 H s ea C dx .none B H' s'->th C ea dx D σ H'->
  wpAny X.mo X.A (handleBy (.ref ea) X.9 hs) (SP X pins D) X.xe s'
abbrev Ends.less (D:Ends)(i:Nat):Ends:={ nx:=λσ H=>D.nx (σ.set i none) H,rt:=D.rt,bk:=λσ H=>D.bk (σ.set i none) H,ct:=λσ H=>D.ct (σ.set i none) H }
abbrev tAs (K:Ψ)(Ck:Ι)(i:Nat)(ts:TS)(rest:THs):THs:=λC ea dx D σ H=>
 (Yd K (.ref C) (.ref Ck)=!true/\ts (D.less i) (σ.set i (!.ref ea)) (upd H ea (xh ea C dx)))\/(Yd K (.ref C) (.ref Ck)=!false/\rest C ea dx D σ H)
abbrev arh (K:Ψ)(Ck:Ι)(ts:TS)(rest:THs):THs:=λC ea dx D σ H=>
 (Yd K (.ref C) (.ref Ck)=!true/\ts D σ (upd H ea (xh ea C dx)))\/(Yd K (.ref C) (.ref Ck)=!false/\rest C ea dx D σ H)
abbrev aoA:THs:=λ_ _ _ _ _ _=>False
abbrev aoB (tb:TS)(tx:TX)(th:THs):TS:=λD σ H=>tb D σ H\/∃E,tx E σ H/\∀C dx H' ea,E (.ref C) dx H'->H' ea=none->th C ea dx D σ H'
section
variable {X:Cx} {n:Str} {acT:Pos} {b₀:ϟ} {afW:-ϟ} {h₀:aai} {rest:-aai} {Ck:Ι} {ts:TS} {tx:TX} {tr:THs}
def FG:PH X [] aoA:=λ_ _ _ _ _ _ _ _ _ _ _ _ _ h=>h.36
def Wl.afX {M:aaJ}{P:ϯ}{l:-Env}{s:η}{dx:Option Ι}{B:be}(T:Wl P w l H s ea C dx fl B H' s'):aag M s'.8 (typeOf (.ref ea)) (.ref C):=by
 obtain⟨a0,f⟩:=T.fly;(show TY f.aeG λoe vs _=>MM λ_ _ ge gc _=>?_);show gc▸(awm ge).andThen .now
def Jc (hg:Gl X x)(hm:X.mg x=!.ref Ck)(hN:X.N.14)(hi:X.N[i]?=!n)(hk:X.env.kindOf n=!.local)(hs:∀ea,W2 (X.han ea).SW (b₀::afW) ts)(hr:PH X rest tr)(Zm:autoParam (Ws x) L2.M9._auto_1) :
  PH X (.ExceptHandler (!.Name x np) (!n) (b₀::afW) acT::rest) (tAs X.K Ck i ts tr):=by
 intro pins σ H H' D s s' ea C dx B I T h;let I1:=T.inv I;show wpAny_handleBy_cons (codeAny_handlers_test (ke (I1.han ea) hg hm ?_ Zm)) (by intro q;cases q);rcases h with⟨hx,h⟩ | ⟨hx,h⟩
 ·show QJ (as9 I1.QV T.afX hx) (codeAny_handlers_suite_as ?_);obtain⟨a0,f⟩:=T.fly;show gs f λh2 f2 u2=>me (X:=X.han ea) (v:=.ref ea) (((T.on f2 u2 I).seen I).han ea) hN hi (.inl hk) rfl (λs3 I3=>?_) (.inr hk);show lw (hs ea pins s3 _ _ _ (I3.RZ _) h) (λfl s4 q=>?_) (λ_ _ z=>z.36);cases fl with
  | next=>(revert q;show v0 λσ4 H4 I4 q=>?_);show qm (I4.ME.aaw I.ok) hN hi hk λs5 I5=>(cr _ _ I5 q)
  | brk=>(revert q;show v0 λσ4 H4 I4 q=>?_);show qm (I4.ME.aaw I.ok) hN hi hk λs5 I5=>(cr _ _ I5 q)
  | cont=>(revert q;show v0 λσ4 H4 I4 q=>?_);show qm (I4.ME.aaw I.ok) hN hi hk λs5 I5=>(cr _ _ I5 q)
  | ret u=>(revert q;show Rx λv σ4 H4 I4 r q=>?_);show qm (I4.ME.aaw I.ok) hN hi hk λs5 I5=>(UL v _ _ I5 r q)
 ·show QJ (as9 I1.QV T.afX hx) (hr pins σ H H' D s s' ea C dx B I T h)
def FH (hb:W2 X.SW body tb)(hx:aeK X body tx)(hh:PH X (h₀::rest) tr)(hk: ~~~(X.20=X.9::X.61))(hf: ~~~(X.env.81=!X.16)):PS X (.Try body (h₀::rest) [] [] pos) (aoB tb tx tr):=by
 intro pins s σ H D I h;show wpAny_Try_except ?_;rcases h with h | ⟨E,h,q⟩
 ·show lw (hb pins s σ H D (I.RZ _) h) (λf s1 z=>?_) (λ_ _ z=>z.36)
  cases f with
  | next=>show Ox z.ME
  | brk=>show z.ME
  | cont=>show z.ME
  | ret u=>show z.ME
 ·show lw (hx pins s σ H E I h) (λ_ _ z=>z.36) ?_
  rintro e s1 ⟨s0,H0,ea,C,dx,B,H',rfl,I0,T,qE⟩
  obtain⟨a0,f⟩:=T.fly;rw[hk] at f;show uc (by rw[I0.ok.32,hk]) hf f λh1 f1 u1=>?_;rw[<-hk] at f1;show gs f1 λh2 f2 u2=>?_;let T2:=(T.on f1 u1 I0).on f2 u2 I0;show hh pins σ H0 H' D s0 _ ea C dx B I0 T2 (q C dx H' ea qE T2.none)
end
def PS.SW {st:ϟ}{t:TS}(h:PS X.SW st t):PS X st t:=λpins s σ H D I hw=>
 lw (h pins s σ H D (I.RZ _) hw) (λ_ _ q=>q.ME) λ_ _ z=>Ϸ z
abbrev Pt (E:XK)(H:Hp)(C:Ι)(fs:-(Str×V)):Prop:=∀d H',H d=none->Ω H H'->H' d=!xdo d fs->E (.ref C) (!d) H'
abbrev Got (H:Hp)(C:Ι)(fs:-(Str×V)):XK:=λc dx H'=>c=.ref C/\∃d,dx=!d/\H d=none/\Ω H H'/\H' d=!xdo d fs
def Got.at {dx:Option Ι}(g:Got H C fs (.ref D) dx H')(he:H' ea=none):D=C/\∃d,dx=!d/\Ω H (upd H' ea (xh ea C (!d)))/\upd H' ea (xh ea C (!d)) ea=!xh ea C (!d)/\upd H' ea (xh ea C (!d)) d=!xdo d fs:=by
 (revert g;show Nl λe=>Xv λd μ hd sm hdd=>?_;subst μ);cases e;let ned:d≠ea:=λz=>by rw[z,he] at hdd;cases hdd
 show⟨rfl,(MD d rfl (λb o hb=>(ag (aq (sm _ _ hb) he)).trans (sm _ _ hb)) aa ((ag ned).trans hdd))⟩
end
section
open PySem PySem.Spec PyProof.Rows PySem.Calls
abbrev amj (C:Ι)(E:XK):TS:=λ_ _ H=>E (.ref C) none H
end
section
def FJ (a b:Nat):a ^^^ b=2 * ((a / 2) ^^^ (b / 2))+(if a % 2≠b % 2 then 1 else 0):=by
 let h1:(a ^^^ b) / 2=(a / 2) ^^^ (b / 2):=Nat.xor_div_two;let h2:(a ^^^ b) % 2=(if a % 2≠b % 2 then 1 else 0):=by
  rw[show(a ^^^ b) % 2=(a % 2) ^^^ (b % 2) from Nat.xor_mod_two_pow (n:=1)];rcases AC a with x | x<;>rcases AC b with y | y<;>rw[x,y]<;>rfl
 rw[<-h1,<-h2,Pi]
def xf (a b:Nat):a &&& b=2 * ((a / 2) &&& (b / 2))+(if a % 2=1/\b % 2=1 then 1 else 0):=by
 let h1:(a &&& b) / 2=(a / 2) &&& (b / 2):=Nat.and_div_two;let h2:(a &&& b) % 2=(if a % 2=1/\b % 2=1 then 1 else 0):=by
  rw[show(a &&& b) % 2=(a % 2) &&& (b % 2) from Nat.and_mod_two_pow (n:=1)];rcases AC a with x | x<;>rcases AC b with y | y<;>rw[x,y]<;>rfl
 rw[<-h1,<-h2,Pi]
def HR {X Y A B p q e f:Nat}(h:X+2 * Y=A+B)(h2:e+2 * f=p+q):2 * X+e+2 * (2 * Y+f)=2 * A+p+(2 * B+q):=by lk
def HS (a:Nat):∀b,(a ^^^ b)+2 * (a &&& b)=a+b:=by
 induction a using aec with
 | ind a ih=>
  intro b
  by_cases h:a=0
  ·subst h;simp
  ·rw[FJ a b,xf a b]
   show(HR (ih (a / 2) (Nat.div_lt_self (Nat.pos_of_ne_zero h) "!") (b / 2)) ?_).trans (by rw[Pi,Pi]);rcases AC a with h1 | h1<;>rcases AC b with h2 | h2<;>rw[h1,h2]<;>rfl
def qO (a b:Nat):PySem.Builtin.bitAnd (a:Int) (b:Int)=((a &&& b:Nat):Int):=by
 rfl
def zm (a b:Nat):PySem.Builtin.bitXor (a:Int) (b:Int)=((a ^^^ b:Nat):Int):=by
 let q:=HS a b;rw[ai3,qO];lk
abbrev rot (n:Nat):Nat:=2 * (n % 32768)+n / 32768
def Kk (h:n < 65536):rot n < 65536:=by unfold rot;lk
def FK (ha:a < 65536)(hb:b < 65536):a ^^^ b < 65536:=Nat.xor_lt_two_pow (n:=16) ha hb
abbrev sumF (h:Nat)(cs:-Nat):Nat:=cs.foldl (λh c=>rot h ^^^ c) h
def Bk (hc:∀c∈cs,c < 65536):∀{h:Nat},h < 65536->sumF h cs < 65536:=by
 induction cs with
 | nil=>intro h hh;show hh
 | cons c r ih=>intro h hh;show ih (λx hx=>hc x (θ _ hx)) (FK (Kk hh) (hc c ϳ))
def FL {c:Nat}(hn:n < 65536):PySem.Builtin.bitXor (PySem.Builtin.bitOr (PySem.Builtin.bitAnd ((n:Int) * 2) 65535) ((n:Int) / 32768)) (c:Int)=((rot n ^^^ c:Nat):Int):=by
 let e1:(n:Int) * 2 % 65536=((2 * (n % 32768):Nat):Int):=by lk
 let e2:(n:Int) / 32768=((n / 32768:Nat):Int):=by lk
 rw[ai4,e1,e2,ai5,qO,xf];let h1:n / 32768 / 2=0:=by lk
 rw[h1,Nat.and_zero,Φ ()];rw[<-zm];congr 1
def Cy {l:-Nat}{c:Nat}(h:l[i]?=!c):sumF 0 (l.take (i+1))=rot (sumF 0 (l.take i)) ^^^ c:=by
 rw[Ϲ,h];simp[sumF,Qs]
end
section
open PySem PySem.Spec PyProof.Rows
def OQ {t1:TS}(h:∀R,R=tR->OF t1 R D σ H):OF t1 tR D σ H:=h _ rfl
def Zw {t1 t2:TS}(h:∀R,R=tR->OF t1 (OF t2 R) D σ H):OF t1 (OF t2 tR) D σ H:=h _ rfl
def ahg {t1 t2 t3:TS}(h:∀R,R=tR->OF t1 (OF t2 (OF t3 R)) D σ H):OF t1 (OF t2 (OF t3 tR)) D σ H:=h _ rfl
def ahh {t1 t2 t3 t4:TS}(h:∀R,R=tR->OF t1 (OF t2 (OF t3 (OF t4 R))) D σ H):OF t1 (OF t2 (OF t3 (OF t4 tR))) D σ H:=h _ rfl
def elS {p:-α->Prop}{n:Nat}(h:∀a us,us.4=n->p (a::us))(us:-α)(e:us.4=n+1):p us:=by
 cases us with
 | nil=>cases e
 | cons a us=>show h a us (as' e)
def el1 {p:-α->Prop}(h:∀a,p [a]):∀us:-α,us.4=1->p us:=elS λa us e=>by cases us with | nil=>show h a | cons _ _=>cases e
def el2 {p:-α->Prop}(h:∀a b,p [a,b]):∀us:-α,us.4=2->p us:=elS λa=>el1 (h a)
def el3 {p:-α->Prop}(h:∀a b c,p [a,b,c]):∀us:-α,us.4=3->p us:=elS λa=>el2 (h a)
def el4 {p:-α->Prop}(h:∀a b c d,p [a,b,c,d]):∀us:-α,us.4=4->p us:=elS λa=>el3 (h a)
def el5 {p:-α->Prop}(h:∀a b c d e,p [a,b,c,d,e]):∀us:-α,us.4=5->p us:=elS λa=>el4 (h a)
def el6 {p:-α->Prop}(h:∀a b c d e f,p [a,b,c,d,e,f]):∀us:-α,us.4=6->p us:=elS λa=>el5 (h a)
def el7 {p:-α->Prop}(h:∀a b c d e f g,p [a,b,c,d,e,f,g]):∀us:-α,us.4=7->p us:=elS λa=>el6 (h a)
abbrev aoE (K:Ψ):-V->Hp->VK->Prop:=λxs H Q=>∃p ys,xs=[.ref p]/\((G' K H p ys/\∀l,H l=none->Q (.ref l) (upd H l (.tup ys)))\/(Of K H p ys/\Q (.ref p) H))
theorem Zx:Str:=ϒ "table"
theorem Zy:Str:=ϒ "stream"
abbrev xg:Sp:=aS λz=>aN λH Q _=>(z=Zx\/z=Zy)/\Q (.bl true) H
abbrev vw:Sp:=aR λt=>aN λH Q _=>∃x,H t=!.tup x.v/\afQ x/\∀H',Ω H H'->Q (.bl true) H'
abbrev pL:Sp:=aR λp=>aN λH Q _=>∃xs,ϲ H p (xs.map PN.v)/\NV xs/\∀H',Ω H H'->Q (.bl true) H'
abbrev xi (C:Ι):Sp:=aR λx=>aR λp=>aN λH Q _=>∃dx,H x=!.ins C dx []/\
 ∃xs,ϲ H p (xs.map PN.v)/\NV xs/\∀l H',H l=none->ϛ [x] H H'->T5 C H' x l xs->Q .k4 H'
abbrev zp (C:Ι):Sp:=aR λs=>aN λH Q _=>∃l xs,T5 C H s l xs/\∀D H',H D=none->Ω H H'->ϲ H' D (xs.map PN.v)->Q (.ref D) H'
abbrev qP (C:Ι):Sp:=aR λs=>aT λnm=>aN λH Q _=>∃l xs,T5 C H s l xs/\NV xs/\
 ∃k x,xs[k]?=!x/\x.59=nm/\∀D H',H D=none->Ω H H'->H' D=!.lst (T3 (Ϩ xs k) x.40)->Q (.ref D) H'
abbrev qQ (C:Ι):Sp:=aR λs=>aT λnm=>aT λkey=>aN λH Q _=>∃l xs,T5 C H s l xs/\NV xs/\
 ∃k x,xs[k]?=!x/\x.59=nm/\∀H',Ω H H'->Q (.int (Uw xs k x key)) H'
abbrev zq (C:Ι):Sp:=aR λs=>aI λr=>aN λH Q _=>∃l xs,T5 C H s l xs/\NV xs/\
 ∃k x,xs[k]?=!x/\(Ϩ xs k:Int)<=r/\r < Ϩ xs (k+1)/\∀t,H t=!.tup x.v->Q (.ref t) H
abbrev FN (i:Nat)(C:Ι):Sp:=aR λs=>aI λr=>aN λH Q _=>∃l xs,T5 C H s l xs/\NV xs/\
 ∃k x,xs[k]?=!x/\(Ϩ xs k:Int)<=r/\r < Ϩ xs (k+1)/\Q (it i x.v) H
abbrev sz5 (c:Int):Nat:=(1+wn c 61 % 12).6
abbrev at5 (c:Int):Nat:=(wn c 62 % (1+wn c 61 % 12)).6
abbrev nb5 (c:Int):-Nat:=(Ϟ (sz5 c)).map λ(k:Nat)=>N4 (wn c (70+(0+(k:Int))))
abbrev MH (c:Int)(k:Nat):-Nat:=(nb5 c).set (at5 c) (N4 (wn c 63 % 36+(0+(k:Int))))
abbrev names5 (c:Int)(m:Nat):-(-Nat):=(Ϟ m).map (MH c)
def Kl (c:Int):at5 c < sz5 c:=by
 unfold at5 sz5;let h1:=A' (wn c 62) (show 1+wn c 61 % 12≠0 by lk);let h2:=Nb (wn c 62) (show 0 < 1+wn c 61 % 12 by lk);lk
def zr (c:Int)(k:Nat):1<=(MH c k).4/\(MH c k).4<=12/\(MH c k).all inN=true:=by
 let hl:(MH c k).4=sz5 c:=by unfold MH nb5;rw[ϗ,Θ,rc]
 let hs:1<=sz5 c/\sz5 c<=12:=by unfold sz5;lk
 show⟨(),(),OO.mpr λx hx=>?_⟩;rcases Ev hx with hx | rfl
 ·(show ι (ω.mp hx) λk _ μ=>?_;subst μ)
  show qN _
 ·show qN _
def Bl {c:Int}(hk:k < 36)(hj:j < 36)(h:MH c k=MH c j):k=j:=by
 let e:=congrArg (λl=>l[at5 c]?) h;let hl:(nb5 c).4=sz5 c:=by unfold nb5;rw[Θ,rc]
 have:=Kl c;unfold MH at e;simp only[TR,if_true,hl,this] at e;have:=Ct (Ϭ e);lk
abbrev Cz:Sp:=aI λc=>aI λz2=>aN λH Q _=>∃(m:Nat),z2=m/\1<=m/\m<=36/\∀D H',H D=none->Ω H H'->H' D=!(.lst ((names5 c m).map λl=>.str (S l)))->Q (.ref D) H'
abbrev GE (c:Nat):-Nat->-(-Nat)
 | []=>[[]]
 | x::r=>if x=c then[]::GE c r else match GE c r with
  | []=>[[x]]
  | p::ps=>(x::p)::ps
def oX {c:Nat}:∀{p:-Nat},c∉p->GE c p=[p]
 | [],_=>rfl
 | x::r,h=>by
  rw[Κ,Yl] at h;rw[GE,Φ (ψ h.1),oX h.2]
def qR {c:Nat}{r:-Nat}:∀{p:-Nat},c∉p->GE c (p++c::r)=p::GE c r
 | [],_=>by rw[NZ,GE,γ rfl]
 | x::p,h=>by
  rw[Κ,Yl] at h;rw[u8,GE,Φ (ψ h.1),qR h.2]
def oY {c:Nat}:∀{ps:-(-Nat)},ps≠[]->(∀p∈ps,c∉p)->GE c (wS [c] ps)=ps
 | [],h,_=>absurd rfl h
 | [p],_,h=>by rw[wS];show oX (h p ∅)
 | p::q::r,_,h=>by
  change GE c (p++[c]++wS [c] (q::r))=_;rw[Oy];change GE c (p++c::wS [c] (q::r))=_;rw[qR (h p ∅),oY ∅ λz hz=>h z (θ _ hz)]
def HU (c:Nat)(a:-Nat):Txt.split (S a) (S [c])=(GE c a).map S:=by
 let e1:=awn (S a) (S [c]);let ne:Txt.split (S a) (S [c])≠[]:=by
  intro z;rw[z] at e1;have:a=[]:=by
   have:=congrArg (λz:Str=>z.11) e1;show this.17
  subst this;have:Txt.split (S []) (S [c])=[S []]:=by
   unfold Txt.split;rw[γ (by rfl)]
  cases z
 let e3:Txt.split (S a) (S [c])=((Txt.split (S a) (S [c])).map λz=>z.11).map S:=by
  rw[ϣ]
  conv=>lhs;rw[<-List.map_id (Txt.split (S a) (S [c]))]
  show NL λz _=>?_;cases z;simp[S]
 generalize hps:(Txt.split (S a) (S [c])).map (λz=>z.11)=ps at e3;rw[e3,vk] at e1;let e5:=oY (ps:=ps) (by intro z;rw[z] at hps;show ne (List.map_eq_nil_iff.mp hps)) λp hp=>by
  rw[<-hps] at hp;(show ι (ω.mp hp) λz hz μ=>?_;subst μ);show (awo (S a) c) z hz
 rw[e3,<-e5,tY e1]
def CC (c:Nat)(a z:-Nat):Txt.replace (S a) (S [c]) (S z)=S (wS z (GE c a)):=by
 have:=awp (S a) (S z) c;rw[show(⟨#[c]⟩:Str)=S [c] from rfl,HU,vk] at this;show this
section
variable {X:Cx}
abbrev rSw:V->-V->Hp->VK->Prop:=λx vs H Q=>∃a b,x=.str a/\vs=[.str b]/\Q (.bl (Txt.startswith a b)) H
abbrev aoF:V->-V->Hp->VK->Prop:=λx vs H Q=>∃a c,x=.str (S a)/\vs=[.str (S [c])]/\a.4<=1000000/\∀l,H l=none->Q (.ref l) (upd H l (.lst ((GE c a).map λp=>V.str (S p))))
end
def nX {M:aaJ}{t:Sem PySem.Fin}{e:End}(h:Runs M Γ p t fs s e s'):s.29<=s'.29:=by
 induction h<;>first
  | show δ _
  | assumption
  | (rename_i ih;show ih)
  | (rename_i ih1 ih2;show ο ih1 ih2)
  | (rename_i ih;show ο (Pc _) ih)
def zt {r:Resume}(h:Wakes M Γ p g r s res s'):s.29<=s'.29:=by
 unfold Wakes at h
 split at h
 ·show h.36
 ·split at h
  ·(revert h;show P9 λe s1 hr _ _ μ=>?_;subst μ)
   have:=nX hr;show this
  ·rw[h.2];show δ _
  ·rw[h.2];show δ _
 ·(revert h;show P9 λe s1 hr _ _ μ=>?_;subst μ)
  have:=nX hr;show this
 ·rw[h.2];show δ _
 ·rw[h.2];show δ _
def wp_toks (t:Sem α):∀Q E p s n,n<=s.29->alW M Γ t Q E p s->
  alW M Γ t (λa p' s'=>Q a p' s'/\n<=s'.29) (λe p' s'=>E e p' s'/\n<=s'.29) p s:=by
 induction t with
 | pure a=>intro Q E p s n hn h;show⟨h,hn⟩
 | raise a=>intro Q E p s n hn h;show⟨h,hn⟩
 | load a pt k ih=>intro Q E p s n hn h;(revert h;show ϭ λo h1 h2=>?_);show(Λ o h1 (ih _ _ _ _ _ _ hn h2))
 | update a pt f k ih=>intro Q E p s n hn h;show⟨h.1,ih _ _ _ _ _ _ hn h.2⟩
 | fresh k ih=>intro Q E p s n hn h;show ih _ _ _ _ _ _ (ο hn (Pc _)) h
 | choose src m k ih=>intro Q E p s n hn h;show⟨h.1,ih _ _ _ _ _ _ hn h.2⟩
 | call c hd g l k ih=>
  intro Q E p s n hn h;(revert h;show v0 λr s' hr h2=>?_);show(cr r s' hr (ih _ _ _ _ _ _ (ο hn (nX hr)) h2))
 | genState g k ih=>intro Q E p s n hn h;(revert h;show ϭ λo h1 h2=>?_);show(Λ o h1 (ih _ _ _ _ _ _ hn h2))
 | resume g r l k ih=>
  intro Q E p s n hn h;(revert h;show v0 λr s' hr h2=>?_);show(cr r s' hr (ih _ _ _ _ _ _ (ο hn (zt hr)) h2))
 | _=>
  intro Q E p s n hn h
  first
  | show h.36
  | (rw[alW];rename_i ih;show ih _ _ _ _ _ _ hn h)
def xj {t:Sem α}{Q:α->η->Prop}(h:wpAny M A t Q E s) :
  wpAny M A t (λa s'=>Q a s'/\s.29<=s'.29) E s:=λΓ p hΓ=>
 Sem.wp_mono M Γ t (λ_ _ _ x=>x) (λ_ _ _ x=>x.1) p s (wp_toks t _ _ p s s.29 (δ _) (h Γ p hΓ))
abbrev PE1 (X:Cx)(e:tz)(t:TE):Prop:=
 ∀pins s σ H Q,0 < s.29->Inv X pins σ H s->t σ H Q->wpAny X.mo X.A (eval e X.9) (λu s'=>EP X pins σ Q u s'/\0 < s'.29) X.xe s
abbrev ako (X:Cx)(st:-ϟ)(t:TS):Prop:=
 ∀pins s σ H D,0 < s.29->Inv X pins σ H s->t D σ H->wpAny X.mo X.A (execs st X.9) (SP X pins D) X.xe s
section
variable {X:Cx}   
def PE.one (h:PE X e te):PE1 X e te:=λpins s σ H Q h0 I q=>No (xj (h pins s σ H Q I q)) λ_ _ x=>⟨x.1,Ϥ h0 x.2⟩
def FO (he:PE1 X e te):ako X [.Return (!e) pos] (ajo te):=by
 intro pins s σ H D h0 I h;show RL (No (agi (Q:=SP X pins D) (No (he pins s σ H _ h0 I h) λv s1 ⟨⟨x,H1,I1,r1,q1⟩,_⟩=>(UL x σ H1 I1 r1 q1))) λf s1 q=>?_);cases f with
 | next=>show Ox q
 | ret v=>show q
 | brk=>show q
 | cont=>show q
abbrev akp (K:Ψ)(c:Nat)(z:-Nat)(to:TE):TE:=λσ H Q=>to σ H λx H1=>∃a,x=.str (S a)/\a.4+(a.4+1) * z.4<=16777216/\Q (.str (S (wS z (GE c a)))) H1
def xk {K:Ψ}{c:Nat}{z:-Nat}(ec:xc=S [c])(ez:xz=S z)(hcz:(S [c] == S z)=false)(ho:PE1 X o to)
  (S6: ~~~(attributeBase o "replace" X.env (eval o X.9)=eval o X.9))
  (acB:autoParam (((backTo MP (starEach [.Constant (.str xc) jc pc,.Constant (.str xz) jz pz] X.9)).all (λx=>!((x.1))) && (backToKw MP (keywordEach [] X.9)).all (λx=>x.1.12)
   && decide (([.Constant (.str xc) jc pc,.Constant (.str xz) jz pz]:-tz).4+([]:-Qo).4+(if ([]:-Qo).49 then 0 else 1) < 30))=true) L2.ϩ._auto_1)
  (S7: ~~~((apos.64 == MP.53)=true)) :
  PE1 X (.Call (.Attribute o "replace" apos) [.Constant (.str xc) jc pc,.Constant (.str xz) jz pz] [] MP) (akp K c z to):=by
 intro pins s σ H Q h0 I h;subst ec ez;show abS S6 acB S7 rfl (No (ho pins s σ H _ h0 I h) λv s1 ⟨⟨x,H1,I1,r1,a,ex,hz,q⟩,h1⟩=>?_);subst ex;obtain⟨t,rfl⟩:=r1;show(Yr ("str") ("str.replace") PySem.F.plainAttrs_str PySem.F.slot_str_replace PySem.F.type_str_replace (Y5 _ _ _) (λ_ e=>nomatch e) (xL rfl (MK ?_)));show Ϻ (SN (k:=jc) (pos:=pc) (Ϻ (SN (k:=jz) (pos:=pz) ?_)));show pr (No (xj (SC.replace (by show s1.29≠0;lk) (by show s1.29+1≠0;lk) (by show s1.29≠s1.29+1;lk) hcz (by rw[fc,fc];show hz) λt' k=>?_)) λu s2 x=>⟨x.1,Ϥ (by show 0 < s1.29+1+1;lk) x.2⟩)
 rw[CC];show(ϕ (.str _) H1 (I1.tok k) ⟨t',rfl⟩ q)
end
def CF (h:kd x=!.local):bindL kd [(x,u)] (λ_=>none)=λy=>([(x,u)]:-(Str×Υ)).reverse.lookup y:=by
 funext y;unfold bindL bindL;rw[γ h];show(if y=x then some u else none)=M6 y [(x,u)];rw[ϴ]
 by_cases e:y=x
 ·subst e;simp
 ·rw[Φ e,Np.mpr e];rfl
section
variable {P:ϯ} {K:Ψ} {base:be}
def Fun.ok1 {st:ϟ}{p1:Str}(F:Fun K x qual st f fd)(S:ζ N [p1] (Ο st))(hnc:∀x∈(Ο st).31,x.2≠.cell)
  (len:∀vs H Q E,sp vs H Q E->vs.4=1)
  (RB:∀(Nd:Υ) (A:QH) (outer:-Env) (s:η) (H:Hp) (vs:-V) (Q:VK) (E:XK),MW k (A.deeper (envOfC qual (Ο st) s.5 f Nd))->sp vs H Q E->
   ∃t,ako (Su Yx P w K mg base N qual (Ο st) f Nd A outer s H E) (wE st) t/\t { nx:=λ_ H'=>Q .k4 H',rt:=Q } (start N vs) H):OZ P w K mg base Yx (k+1) f fd [p1] sp:=by
 (show UQ F.ex λoc od kV doc pm an=>Rx λNd ct W1 μ lk TD=>?_;subst μ);show⟨len,λA outer s H args us vs Q E hr e0 hb r PX=>?_⟩;let hl:=len _ _ _ _ PX;let KX:=e0.mod.kin.keeps λb o e=>(e0.bs b o e).1;let akq:(Ο st).names.lookup p1=!.local:=by
  rcases S.par p1 ∅ with q | q
  ·show q
  ·show absurd rfl (hnc _ (PySem.mem_of_lookup q))
 let hus:us.4=1:=by rw[<-r.4];show hl
 obtain⟨u,rfl⟩:∃u,us=[u]:=Rg.mp hus
 let Vj:∀(l:-(Str×MJ)) n,(∀x∈l,x.2≠.cell)->cellsFrom n l []=[]:=by
  intro l
  induction l with
  | nil=>intro n _;rfl
  | cons a l ih=>
   intro n h;obtain⟨y,kd⟩:=a;unfold cellsFrom;rw[Φ (λz=>h (y,kd) ∅ (by simpa using z))];show ih n λx hx=>h x (θ _ hx)
 show codeAny_call_def hr.78 (KX _ _ lk) rfl (e0.mod.nolimit.keeps λb o e=>(e0.bs b o e).1) (alM KX TD) rfl hb hnc (λy hy=>by simp at hy;rw[hy];show akq) (λh1 hns hk=>?_) S.co S.gen S.kind;let ee:callEnv (Nu x qual (My st) (wE st) (Ο st) .none kV doc pm an Nd ct) s.5 f=envOfC qual (Ο st) s.5 f Nd:=by
  unfold envOfC;rw[Vj _ _ hnc];rfl
 rw[ee];let I:Inv (Su Yx P w K mg base N qual (Ο st) f Nd A outer s H E) [] (start N vs) H { s with heap:=h1,toks:=s.29+1 }:=by
  show tU S hr.hd e0 (by rw[hl];rfl) r ⟨⟨(Ny h1 _ rfl),?_,hk,δ _⟩,?_,?_,?_⟩
  ·change h1.Ns _ _
   rw[show([p1].zip [u]:-(Str×Υ))=[(p1,u)] from rfl,CF akq];show hns
  ·rw[Vj _ _ hnc];intro n c z;cases z
  ·rw[Vj _ _ hnc];show .nil
  ·rw[Vj _ _ hnc];intro n c z;cases z
 (show ι (RB Nd A outer s H vs Q E (hr.deeper _) PX) λt ht hq=>?_);show lw (ht [] _ (start N vs) H _ (Nat.succ_pos _) I hq) (λfl s' hs=>?_) λe s' hs=>hs;let fin:∀{σ':St} {H':Hp} {v:V} {u:Υ},Inv (Su Yx P w K mg base N qual (Ο st) f Nd A outer s H E) [] σ' H' s'->RelV v u->Q v H'->CE outer P w H s Q u s':=
  λ{σ' H' v u} J rv q=>(Yr v H' J.os J.46 J.50 J.lu rv q)
 cases fl with
 | ret u=>
  (revert hs;show Rx λv σ' H' J rv q=>?_);show fin J rv q
 | next=>
  (revert hs;show v0 λσ' H' J q=>?_);show fin (v:=V.k4) J rfl q
 | brk=>
  (revert hs;show v0 λ_ _ _ q=>?_);show Ϸ q
 | cont=>
  (revert hs;show v0 λ_ _ _ q=>?_);show Ϸ q
end
def CG (c:Nat):∀a,GE c a≠[]
 | []=>by simp[GE]
 | x::r=>by
  rw[GE]
  by_cases e:x=c
  ·rw[γ e];simp
  ·rw[Φ e]
   cases h:GE c r<;>simp
def gu (c:Nat)(z:-Nat):∀a:-Nat,wS z (GE c a)=a.flatMap λx=>if x=c then z else[x]
 | []=>rfl
 | x::r=>by
  let ih:=gu c z r;let ne:=CG c r;rw[GE,Qu];cases h:GE c r with
  | nil=>show absurd h ne
  | cons p ps=>
   rw[h] at ih
   by_cases e:x=c
   ·rw[γ e,γ e,<-ih]
    show[]++z++wS z (p::ps)=_;rw[NZ]
   ·rw[Φ e,Φ e,<-ih]
    cases ps with
    | nil=>rfl
    | cons q qs=>
     show(x::p)++z++wS z (q::qs)=[x]++(p++z++wS z (q::qs));simp
abbrev gd1 (c:Nat):-Nat:=if c=126 then[126,119] else if c=59 then[126,115] else[c]
abbrev gd (a:-Nat):-Nat:=a.flatMap gd1
def LM (a:-Nat):wS [126,115] (GE 59 (wS [126,119] (GE 126 a)))=gd a:=by
 rw[gu,gu,List.flatMap_assoc,gd];congr 1;funext x;unfold gd1
 by_cases h:x=126
 ·subst h;rfl
 ·rw[Φ h,Φ h]
  by_cases h':x=59
  ·subst h';rfl
  ·simp[h']
def HV (x:Nat)(a:-Nat):gd (x::a)=gd1 x++gd a:=Qu
def HW (c:Nat):(gd1 c).4<=2:=by
 unfold gd1
 by_cases h:c=126
 ·rw[γ h];decide
 ·rw[Φ h]
  by_cases h':c=59
  ·rw[γ h'];decide
  ·rw[Φ h'];simp
def vx:∀a:-Nat,(gd a).4<=2 * a.4
 | []=>δ _
 | x::a=>by
  have:=vx a;have:=HW x;rw[HV,Χ,ς];lk
def qS:∀{l:-Nat} {x:Nat},x∈l->x<=l.76
 | y::l,x,h=>by
  rcases Κ.mp h with rfl | h
  ·rw[lm];lk
  ·have:=qS h;rw[lm];lk
def qT {l:-α}{x:α}(h:l[i]?=!x):l.take (i+1)=l.take i++[x]:=by
 obtain⟨hi,rfl⟩:=Α.mp h;show(List.take_append_getElem hi).17
abbrev zu:Sp:=aT λa=>aN λH Q _=>a.4<=1000000/\Q (.str (S (gd a))) H
abbrev tx (l:-(-Nat)):-V:=l.map λa=>V.str (S a)
def vy (s:Ω H H')(h:H' a=none):H a=none:=by
 cases e:H a with
 | none=>rfl
 | some o=>rw[s _ _ e] at h;cases h
abbrev CH (K:Ψ):Sp:=aR λp=>aN λH Q _=>∃l,G' K H p (tx l)/\(l.map K').76+l.4<=1000000/\∀H',Ω H H'->Q (.str (S (wS [59] (l.map gd)))) H'
def qU (m:Nat):MO (m:Int)=(Ut 10 m).map Char.toNat:=W.KIN.signs_num m
def qo {m k:Nat}(hk:1<=k)(h:m < 10 ^ k):(MO (m:Int)).4<=k:=by
 rw[qU,Θ];show digits10_le hk h
def ud:∀d,d < 10->(Nat.digitChar d).6=48+d:=by decide
def mC (m:Nat):∀c∈MO (m:Int),48<=c/\c<=57:=by
 rw[qU]
 induction m using aec with
 | _ m ih=>
  by_cases h:m < 10
  ·rw[Yn h]
   intro c hc;simp at hc;rw[hc,ud m h];lk
  ·let hm:m % 10 < 10:=Nat.mod_lt m "!"
   let t:Ut 10 (m / 10)++Ut 10 (m % 10)=Ut 10 (10 * (m / 10)+m % 10):=Nat.toDigits_append_toDigits "!" () hm;rw[Pi] at t;rw[<-t,ϐ,Yn hm];intro c hc;rcases Ξ.mp hc with hc | hc
   ·show ih (m / 10) () c hc
   ·simp at hc
    rw[hc,ud _ hm];lk
def FP (m:Nat):1<=(MO (m:Int)).4:=by
 rw[qU,Θ];show tDigits_len_ge 10 m
abbrev zf (w m:Nat):-Nat:=τ (w - (MO (m:Int)).4) 48++MO (m:Int)
def nY {w m:Nat}(hw:1<=w)(h:m < 10 ^ w):(zf w m).4=w:=by
 have:=qo hw h;unfold zf;rw[Χ,jp];lk
def HX (m w:Nat):Txt.zfill (S (MO (m:Int))) (w:Int)=S (zf w m):=by
 unfold Txt.zfill zf;rw[fc]
 by_cases h:(w:Int)<=((MO m).4:Int)
 ·rw[γ h,show w - (MO m).4=0 by lk];rfl
 ·rw[Φ h,show((w:Int).6 - (MO m).4)=w - (MO m).length from rfl]
  let h0:=FP m;let hc:PySem.zfilled (S (MO m)) (w - (MO m).4)=W0 (S (MO m)) (w - (MO m).4) 0 48:=by
   cases hl:MO m with
   | nil=>rw[hl] at h0;simp at h0
   | cons c r=>
    let hc:=(mC m) c (by rw[hl];simp);unfold PySem.zfilled
    split
    ·rename_i e;let e':c=43:=by simpa using e
     lk
    ·rename_i e;let e':c=45:=by simpa using e
     lk
    ·rfl
  rw[hc];unfold W0;simp[S]
abbrev rZf:V->-V->Hp->VK->Prop:=λx vs H Q=>∃m w:Nat,x=.str (S (MO (m:Int)))/\vs=[.int (w:Int)]/\w<=1000/\Q (.str (S (zf w m))) H
section
variable {X:Cx}
open Builtin Builtin.Str in
def qV:MtR X "str.zfill" rZf:=by
 intro pins s σ H x vs v us Q I rx rv h;(revert h;show P9 λm w μ M0 hw q=>?_;subst μ;subst M0);obtain⟨t,rfl⟩:=rx;(show ι (vals1 rv) λu μ=>Sq λt' M0=>?_;subst μ;subst M0);show SC.zfill ?_ λt' k=>?_
 ·unfold PadOk fitsSsize tooLong sizeLine
  rw[io,TN,TN];show⟨?_,Ϫ ()⟩;rw[Bool.or_eq_false_iff];show⟨Ϫ (),Ϫ ()⟩
 ·rw[HX]
  show(ϕ (.str _) H (I.tok k) ⟨t',rfl⟩ q)
end
abbrev pfL (n:Nat)(b:-Nat):-Nat:=zf 6 n++[32]++zf 5 (sumF 0 b)++[32]
abbrev hdL (n:Nat)(b:-Nat):-Nat:=pfL n b++(zf 4 b.4++[32])
abbrev acU (n:Nat)(b:-Nat):-Nat:=hdL n b++b
structure VE (n:Nat)(b:-Nat):Prop where
 n:n < 1000000
 c:∀c∈b,c < 128
 l:b.4 < 10000
def VE.sum {b:-Nat}(g:VE n b):sumF 0 b < 65536:=Bk (λc hc=>Rq (g.c c hc) "!") "!"
def VE.pf {b:-Nat}(g:VE n b):(pfL n b).4=13:=by
 have:=g.76;unfold pfL;simp only[Χ,ς,ϸ];rw[nY "!" g.n,nY "!" (Rq this "!")]
def VE.hd {b:-Nat}(g:VE n b):(hdL n b).4=18:=by
 unfold hdL;rw[Χ,g.pf,Χ,nY "!" g.l];rfl
def iG (s:Ω H H'):Pt (Got H C fs) H' C fs:=λd OP hd s2 e=>⟨rfl,(MD d rfl (vy s hd) (s.trans s2) e)⟩
abbrev Km:Sp:=aT λl=>aN λH Q _=>(∀c∈l,c < 128)/\Q (.int (sumF 0 l:Nat)) H
abbrev CI:Sp:=aK λn=>aT λb=>aN λH Q _=>VE n b/\∀H',Ω H H'->Q (.str (S (acU n b))) H'
end
section
open PySem PySem.Spec PyProof.Rows
abbrev sgA:-(-Nat)->-(-Nat)
 | []=>[]
 | [b]=>[46::b]
 | b::c::r=>(43::b)::sgA (c::r)
def gv:∀act:-(-Nat),(sgA act).4=act.4
 | []=>rfl
 | [_]=>rfl
 | b::c::r=>by rw[sgA,ς,gv (c::r)];rfl
def Bm:∀(act:-(-Nat)) (k:Nat) (b:-Nat),act[k]?=!b->(sgA act)[k]?=!((if k+1 < act.4 then 43 else 46)::b)
 | [],k,b,h=>by simp at h
 | [c],k,b,h=>by
  cases k with
  | zero=>cases h;rfl
  | succ k=>simp at h
 | c::d::r,k,b,h=>by
  cases k with
  | zero=>cases h;rfl
  | succ k=>
   have:=Bm (d::r) k b h;rw[sgA,Ye,this];simp only[ς,Nat.add_lt_add_iff_right]
abbrev Zz:Nat->-(-Nat)->-(-Nat)
 | _,[]=>[]
 | n,b::r=>acU n b::Zz (n+1) r
def mE:∀(n:Nat) (bs:-(-Nat)),(Zz n bs).4=bs.4
 | _,[]=>rfl
 | n,b::r=>by rw[Zz,ς,mE (n+1) r];rfl
def Bo:∀(n:Nat) (a b:-(-Nat)),Zz n (a++b)=Zz n a++Zz (n+a.4) b
 | n,[],b=>rfl
 | n,x::a,b=>by
  rw[u8,Zz,Zz,Bo (n+1) a b,ς,u8];congr 3;lk
def xm (n:Nat)(a:-(-Nat))(b:-Nat):Zz n (a++[b])=Zz n a++[acU (n+a.4) b]:=Bo n a [b]
abbrev okB (b:-Nat):Prop:=(∀c∈b,c < 128)/\b.4<=4000
structure NW (C:Ι)(H:Hp)(r l:Ι)(ls:-(-Nat)):Prop where
 obj:∃dx,H r=!.ins C dx [("lines",.ref l)]
 lst:H l=!.lst (tx ls)
def NW.ne (R:NW C H r l ls):r≠l:=λz=>by
 obtain⟨dx,h⟩:=R.30;rw[z,R.28] at h;cases h
def NW.same (R:NW C H r l ls)(s:Ω H H'):NW C H' r l ls:=⟨let ⟨dx,h⟩:=R.30;⟨dx,s _ _ h⟩,s _ _ R.28⟩
abbrev zw (C:Ι):Sp:=aR λx=>aN λH Q _=>∃dx,H x=!.ins C dx []/\∀l H',H l=none->l≠x->ϛ [x] H H'->NW C H' x l []->Q .k4 H'
abbrev xp (C:Ι):Sp:=aR λr=>aR λp=>aN λH Q _=>∃l ls act,NW C H r l ls/\H p=!.lst (tx act)/\p≠l/\(∀b∈act,okB b)/\ls.4+act.4<=5000/\
 ∀H',ϛ [l] H H'->NW C H' r l (ls++Zz ls.4 (sgA act))->Q (.int ((ls.4+act.4:Nat):Int)) H'
abbrev Kn (C:Ι):Sp:=aR λr=>aN λH Q _=>∃l ls,NW C H r l ls/\∀p H',H p=none->Ω H H'->H' p=!.lst (tx ls)->Q (.ref p) H'
noncomputable abbrev Spot:=Int×Int
structure Q1 where
 L:Str->Option Int
 T:Str->Int
 P:Str->-Spot
 sz:Nat
abbrev YH:Q1:=⟨λ_=>none,λ_=>0,λ_=>[],0⟩
abbrev aax (l t p:Ι):-(Str×V):=[("lives",.ref l),("lasts",.ref t),("spots",.ref p)]
structure Mv (C:Ι)(H:Hp)(r l t p:Ι)(Z:-Ι)(M:Q1):Prop where
 obj:∃dx,H r=!.ins C dx (aax l t p)
 NT:∃ϓ,H l=!.dK ϓ/\ϓ.4<=M.sz/\∀z,lc ϓ (.inr z)=(M.L z).map V.int
 las:∃ϓ,H t=!.dK ϓ/\ϓ.4<=M.sz/\∀z,lc ϓ (.inr z)=(M.L z).map λ_=>V.int (M.T z)
 spo:∃ϓ,H p=!.dK ϓ/\ϓ.4<=M.sz/\∀z,(M.L z).12=true->∃q xs,lc ϓ (.inr z)=!.ref q/\H q=!.lst xs/\xs.4<=8/\q∉Z
 rl:r≠l
 rt:r≠t
 rp:r≠p
 lt:l≠t
 lp:l≠p
 tp:t≠p
def Mv.im {A:-Ι}{l t p:Ι}(h:Mv C H r l t p Z M)(c:ϛ A H H')(hr:r∉A)(hl:l∉A)(ht:t∉A)(hp:p∉A)(hz:∀b∈A,b∈Z\/∀xs,H b≠!.lst xs):Mv C H' r l t p Z M:=by
 obtain⟨dx,e⟩:=h.30;(show ϱ h.NT λk1 e1 l1 v1=>?_);(show ϱ h.las λk2 e2 l2 v2=>?_);(show ϱ h.spo λk3 e3 l3 v3=>?_);show⟨⟨dx,c.keep _ _ e hr⟩,(ϡ k1 (c.keep _ _ e1 hl) l1 v1),(ϡ k2 (c.keep _ _ e2 ht) l2 v2),(ϡ k3 (c.keep _ _ e3 hp) l3 (λz hzz=>?_)),h.rl,h.rt,h.rp,h.lt,h.lp,h.tp⟩;(show RA (v3 z hzz) λq xs a1 a2 a3 a4=>?_);show(Fk q xs a1 (c.keep _ _ a2 λm=>(hz q m).elim a4 λy=>y _ a2) a3 a4)
def Mv.less {l t p:Ι}(h:Mv C H r l t p Z M)(hz:∀b∈Z',b∈Z\/H b=none):Mv C H r l t p Z' M:=by
 (show ϱ h.spo λk3 e3 l3 v3=>?_);show⟨h.30,h.NT,h.las,(ϡ k3 e3 l3 (λz hzz=>?_)),h.rl,h.rt,h.rp,h.lt,h.lp,h.tp⟩;(show RA (v3 z hzz) λq xs a1 a2 a3 a4=>?_);show(Fk q xs a1 a2 a3 (λm=>(hz q m).elim a4 λy=>by rw[y] at a2;cases a2))
def mF (l t p:Ι):(aax l t p).lookup (ϒ "lives")=!.ref l:=rfl
def fL (l t p:Ι):(aax l t p).lookup (ϒ "lasts")=!.ref t:=rfl
def qW (l t p:Ι):(aax l t p).lookup (ϒ "spots")=!.ref p:=rfl
abbrev Q1.GM (M:Q1)(n:Str):Q1:={ M with
 L:=λz=>if z=n then some ((M.L n).getD 0+1) else M.L z
 T:=λz=>if z=n then(if (M.L n).getD 0=0 then 0 else M.T n) else M.T z
 P:=λz=>if z=n then(if (M.L n).getD 0=0 then[] else M.P n) else M.P z
 sz:=M.sz+1 }
abbrev Q1.note (M:Q1)(n:Str)(k:Int)(x:Spot):Q1:={ M with
 T:=λz=>if z=n then k else M.T z
 P:=λz=>if z=n then(M.P n++[x]).drop ((M.P n++[x]).4 - 8) else M.P z
 sz:=M.sz+1 }
abbrev CJ (C:Ι):Sp:=aR λx=>aN λH Q _=>∃dx,H x=!.ins C dx []/\
 ∀l t p H',H l=none->H t=none->H p=none->ϛ [x] H H'->Mv C H' x l t p [] YH->Q .k4 H'
abbrev CL (C:Ι):Sp:=aR λr=>aS λn=>aN λH Q _=>∃l t p Z M,Mv C H r l t p Z M/\M.sz<=100000/\(∀v,M.L n=!v->1<=v)/\(∀b∈Z,∃o,H b=!o)/\
 ∀u H',ϛ [l,t,p] H H'->Mv C H' r l t p Z (M.GM n)->H u=none->H' u=!.tup [.int ((M.L n).getD 0+1),.int ((M.GM n).T n)]->Q (.ref u) H'
abbrev CO (C:Ι):Sp:=aR λr=>aS λn=>aN λH Q _=>∃l t p Z M,Mv C H r l t p Z M/\Q (.int ((M.L n).getD 0)) H
abbrev CP (C:Ι):Sp:=aR λr=>aS λn=>aN λH Q _=>∃l t p Z M,Mv C H r l t p Z M/\Q (.int (if (M.L n).12=true then M.T n else 0)) H
abbrev CQ (C:Ι):Sp:=aR λr=>aS λn=>aN λH Q _=>∃l t p Z M,Mv C H r l t p Z M/\
 (M.L n).12=true/\Q .k4 H
abbrev zx (C:Ι):Sp:=aR λr=>aS λn=>aI λk=>aN λH Q _=>∃l t p Z M,Mv C H r l t p Z M/\
 M.L n=!k/\Q .k4 H
abbrev CU (C:Ι):Sp:=aR λr=>aS λn=>aI λk=>aN λH Q _=>∃l t p Z M,Mv C H r l t p Z M/\
 (M.L n).12=true/\k=M.T n+1/\Q .k4 H
abbrev CV (C:Ι):Sp:=aR λr=>aS λn=>aI λk=>aI λa=>aI λb=>aN λH Q _=>∃l t p Z M,Mv C H r l t p Z M/\(M.L n).12=true/\
 k=M.T n+1/\M.sz<=100000/\(∀b∈Z,∃o,H b=!o)/\∀H',ϛ [t,p] H H'->Mv C H' r l t p Z (M.note n k (a,b))->Q .k4 H'
def CW (l:-V):S0 l (!-8) none=l.drop (l.4 - 8):=by
 unfold S0;rw[HT.E4];let e:HT.SZ l.4 0 (!-8)=l.4 - 8:=by
  show(if (-8) < 0 then(-8+(l.4:Int)).6 else min (-8).toNat l.4)=_;rw[γ "!",Int.add_comm];show Int.toNat_sub _ 8
 rw[e,Oz (by rw[NF];lk)]
end
section
open PySem PySem.Spec
open PySem.AutoSeq1 (wpAny_loadPart')
section
variable {s:η}
def nZ {S:Spec}{Q Q₁:Υ->η->Prop}(ft:TypeCalled T newId acW)
  (hct:checkTypeCall T ⟨args,kw⟩=pure Unit.unit) (hcn:checkBuiltinCall newId ⟨.type T::args,kw⟩=pure Unit.unit)
  (ahj:entryFor table newId=!Bn) (ahk:entryFor table acW=!Bi) (g:alX (Bn ⟨.type T::args,kw⟩) S)
  (h:S A.in1 (wants Q₁ E) s)
  (akr:∀obj s₁,Q₁ obj s₁->s₁.TypeIs obj T/\argsOk acW ⟨obj::args,kw⟩/\∃Si,alX (Bi ⟨obj::args,kw⟩) Si/\Si A.in1 (wants (λr s₂=>r=.none/\Q obj s₂) E) s₁) :
  wpAny (model prog w) A (call (.type T) args kw) Q E s:=by
 (show acn ft.mro λc tl aos=>?_);let aj8:=ft.made;let YE:=ft.sub;show Pg (Yc (ύ ⟨PR _ (s!"d"),So PySem.F.entry_type_call ?_⟩));let h1:=ft.notType;let h2:=ft.canCreate
 repeat (any_goals (first | assumption | wp_step))
 show MQ (NQ ft.plain ahj (ata hcn (g prog w A.in1 _ s h))) λr s₁ hr=>?_;cases r with
 | error e=>show hr
 | ok fl=>
  cases fl with
  | ret obj=>
   (show sw (akr _ _ hr) λhT lu=>ϭ λSi gi hsi=>?_);let hli:=ft.init.lookup;let hbi:=ft.init.bind obj
   repeat (any_goals (first | assumption | wp_step))
   show MQ (NQ ft.init.plain ahk (ft.init.check _ _ _ _ _ _ _ _ hT lu (gi prog w A.in1 _ s₁ hsi))) λr₂ s₂ ahc=>?_;cases r₂ with
   | error e=>show ahc
   | ok aot=>
    cases aot with
    | ret r=>
     obtain⟨rfl,hq⟩:=ahc
     repeat (any_goals (first | assumption | wp_step))
    | _=>show ahc.36
  | _=>show hr.36
end
def kr {a:Υ}{rest:-Υ}(hl:typeLookup (.type T) "__init__"=pure (!.builtin "object.__init__"))
  (hm:Bind.madeBy (.type T)=pure (!newId)) (hne:(some newId != some "object.__new__")=true) :
  alX (Wj.«object.__init__» ⟨self::a::rest,kw⟩) (λ_ R s=>s.TypeIs self T/\R (.ok (.ret .none)) s):=by
 show Meets.of_wp λprog w A R s hs=>?_;obtain⟨hT,hq⟩:=hs
 repeat (any_goals (first | assumption | wp_step))
 show(Λ _ rfl hq)
def je (a b:Υ):checkTypeCall "enumerate" ⟨[a],[("start",b)]⟩=pure Unit.unit:=by kernel_rfl
def jq (a b:Υ):checkBuiltinCall "enumerate.__new__" ⟨[.type "enumerate",a],[("start",b)]⟩=pure Unit.unit:=by kernel_rfl
def kt (a b c:Υ):argsOk "object.__init__" ⟨[a,b],[("start",c)]⟩:=by unfold argsOk;kernel_rfl
def jf (l:Ι)(items:Array Υ)(n:Nat)(dct:Option Ι)(sl:Array (Option Υ))(t:Tok) :
  alX (Wj.«enumerate.__new__» ⟨[.type "enumerate",.ref l],[("start",.int 1 t)]⟩) (λ_ R s=>s.heap.get? l=some { cls:=.type "list",dict:=dct,data:=.seq items n,slots:=sl }/\
   R (.ok (.ret (.ref (s.heap.push { cls:=.type "list_iterator",data:=.fields #[.ref l,.int 0 0] }).7)))
    { s with heap:=(s.heap.push { cls:=.type "list_iterator",data:=.fields #[.ref l,.int 0 0] }).push { cls:=.type "enumerate",data:=.fields #[.none,.bool false,.ref s.5,rawInt 1,.none,.none] } }):=
 .of_wp λprog w A R s h=>by
  obtain⟨hp,g,d,tk,os⟩:=s;obtain⟨hl,h⟩:=h;let YE:=sub_enumerate;let hL:ail (afy ⟨hp,g,d,tk,os⟩) l items:=(ϡ _ hl rfl (N' n rfl))
  wp_walk using wpAny_loadPart' hl
  show wpAny_stack_any λst=>ύ ?_
  split
  ·rename_i c _ _ _ _ _
   cases (c == We "enumerate")
   ·wp_walk using wpAny_loadPart' hl,MR hL
    show(Λ _ rfl h)
   ·wp_walk using wpAny_loadPart' hl,MR hL
    show(Λ _ rfl h)
  ·wp_walk using wpAny_loadPart' hl,MR hL
   show(Λ _ rfl h)
section
variable {s:η}
def jr {t:Tok}{Q:Υ->η->Prop}(hL:s.heap.IsList l items)
  (h:∀h',abT h' (s.5+1) s.5 1 .none->h'.IsListIter s.5 l 0->h'.7=s.5+2->
   (∀b o,s.heap.get? b=!o->h'.get? b=!o)->Q (.ref (s.5+1)) { s with heap:=h' }) :
  wpAny (model prog w) A (call (.type "enumerate") [.ref l] [("start",.int 1 t)]) Q E s:=by
 (revert hL;show Nq λμ hl hc=>Sq λn hd=>?_;obtain ⟨c,dct,dt,sl⟩:=μ);subst hc hd;show nZ (Q₁:=λobj s₁=>s₁.TypeIs obj "enumerate" /\ Q obj s₁) PySem.F.called_enumerate (je _ _) (jq _ _) PySem.F.entry_enumerate_new PySem.F.entry_object_init (jf l items n dct sl t) ⟨hl,?_⟩
  (λobj _ hq=>⟨hq.1,kt _ _ _,(Λ _ (kr PySem.F.called_enumerate.init.lookup PySem.F.called_enumerate.made "!") ⟨hq.1,rfl,hq.2⟩)⟩)
 let hz:(s.heap.push { cls:=.type "list_iterator",data:=.fields #[.ref l,.int 0 0] }).7=s.5+1:=bw ..;change _/\_;rw[hz]
 let he:abT ((s.heap.push { cls:=.type "list_iterator",data:=.fields #[.ref l,.int 0 0] }).push
   { cls:=.type "enumerate",data:=.fields #[.none,.bool false,.ref s.5,rawInt 1,.none,.none] }) (s.5+1) s.5 1 .none:=by
  have:=ώ (s.heap.push { cls:=.type "list_iterator",data:=.fields #[.ref l,.int 0 0] })
   (o:={ cls:=.type "enumerate",data:=.fields #[.none,.bool false,.ref s.5,rawInt 1,.none,.none] }) rfl
  rw[hz] at this;show this
 show⟨(Λ _ he rfl),h _ he (ϡ _ (Τ _ (ώ _ rfl)) rfl rfl) (by rw[bw,hz]) λb o x=>Τ _ (Τ _ x)⟩
end
section
variable {M:aaJ} {s:η} 
def mG {Q:Υ->η->Prop}
  (Sv:args.any (·.1)=false) (hkw:keywords.any (·.1.isNone)=false)
  (h:wpAny M A (evalArgs (.type T) true args keywords) (λa s₁=>wpAny M A (call (.type T) (first++a.pos) a.kw) Q E s₁) E s) :
  wpAny M A (callWith pos (.type T) first args keywords) Q E s:=by
 show Ν (MC (lw h (λa s₁ h₁=>Ν (Ou ?_)) λ_ _ x=>x));simp only[Sv,hkw];show Ν (ύ (Ν (lw h₁ (λr s₂ hr=>Ν (MC (wpAny_point (ύ hr)))) λ_ _ x=>x)))
def n5 {rest:-tz}{Q:Υ->η->Prop}
  (h:wpAny M A (spliced (backTo pos (starEach (e::rest) env))) (λvs s₁=>wpAny M A (evalAll ((backToKw pos (keywordEach kws env)).map (·.2)))
   (λϓ s₂=>wpAny M A (call (.type T) vs (((backToKw pos (keywordEach kws env)).filterMap (·.1)).zip ϓ)) Q E s₂) E s₁) E s)
  (he: ~~~(backTo pos (starEach (e::rest) env)=(false,eval e env)::backTo pos (starEach rest env)))
  (Sv: ~~~((backTo pos (starEach (e::rest) env)).any (·.1)=false))
  (Zp: ~~~((backToKw pos (keywordEach kws env)).all (·.1.isSome)=true))
  (hkw: ~~~((backToKw pos (keywordEach kws env)).any (·.1.isNone)=false)) :
  wpAny M A (callWith pos (.type T) [] (backTo pos (starEach (e::rest) env)) (backToKw pos (keywordEach kws env))) Q E s:=by
 show mG Sv hkw ?_;rw[he] at h ⊢;show ai6 Zp h
end
end
section
open PySem PySem.Spec PyProof.Rows
section
variable {s:η}
def iH {e it l:Ι}{j:Int}{old:Υ}{Q:Option Υ->η->Prop}(hh:A.48=none)
  (he:abT s.8 e it j old) (hit:s.heap.IsListIter it l i) (hl:s.heap.IsList l items) (hx:items[i]?=none)
  (hQ:∀h',aim it s.8 h'->Q none { s with heap:=h' }):wpAny (model prog w) A (pyNext (.ref e)) Q E s:=by
 let hT:s.TypeIs (.ref e) "enumerate":=(Λ _ he rfl)
 show Ν (UI (Nc hT PySem.F.slot_enumerate_next
  (Pj PySem.F.slot_enumerate_next hT PySem.F.entry_enumerate_next ?_ (PySem.F.args_enumerate_next_1 _))))
 change wpAny _ _ (field (.ref e) 2 >>= _) _ _ _;show Ν (nH he rfl rfl (Ν (wpAny_nextOf_list_end hh hit hl hx λh' x Rm hx'=>?_)));(revert hx';show ϭ λo ho hc=>?_);show Ν (ain (Λ o ho hc) alY (ύ (hQ _ Rm)))
end
def xq {it:Ι}{P:Nat->Υ->Prop}{St:Nat->be->Prop}(D:Draws prog w A it fp n P St) :
  Draws prog w A it fp (n+1) (λi=>P (i - 1)) (λi h=>1<=i/\St (i - 1) h) where
 live:=λi h st=>D.live _ _ st.2
 frame:=λi h h' st k=>⟨st.1,D.frame _ _ _ st.2 k⟩
 item:=λi s Q E hi st hQ=>D.item (i - 1) s Q E () st.2 λx h' tk hP hs sb=>hQ x h' tk hP ⟨(),by rw[Nat.sub_add_cancel st.1] at hs;show hs⟩ sb
 done:=λs Q E st hE=>D.done s Q E st.2 hE
abbrev ahl (K:Ψ)(a:Ι):It:=
 ⟨λi H=>∃xs x,G' K H a xs/\xs[i]?=!x,
  λi H v H'=>∃T x,v=.ref T/\H T=none/\H'=upd H T (.tup [.int ((i:Nat)+1),x])/\∀xs,G' K H a xs->xs[i]?=!x,
  λi H=>∃xs,G' K H a xs/\xs.4<=i⟩
def zy {P:ϯ}{K:Ψ}(a e it:Ι)(hei:e≠it) :
  Turn P w K (.Tuple elts k0 pos) (ahl K a) [e,it] e (λi h=>(∃old,abT h e it (((i:Nat):Int)+1) old)/\h.IsListIter it a i) where
 mem:=by simp
 obj:=λi h st c hc=>by
  obtain⟨⟨old,he⟩,⟨o1,e1,c1,d1⟩⟩:=st;simp only[Κ,Μ,χ] at hc;rcases hc with rfl | rfl
  ·show(Λ _ he (λv q=>by cases q))
  ·show(Λ _ e1 (λv q=>by rw[d1] at q;cases q))
 keep:=λi h h' st k=>by
  obtain⟨⟨old,he⟩,h1⟩:=st;show⟨⟨old,k _ ∅ _ he⟩,h1.at λo e=>k _ ∅ o e⟩
 item:=by
  intro X hP hw hK hc i pins s σ H E I hf st hg;subst hP hw hK;obtain⟨⟨old,he⟩,h1⟩:=st;(revert hg;show v0 λxs x hx ex=>?_);(show ϱ (I.list hx) λfT rv p _=>?_);(show ι (rv.get ex) λu hu ru=>?_);let nai:a≠it:=λz=>by
   subst z;(show ϱ p.21 λo ho Yf _=>?_);(revert h1;show Nq λo2 ho2 hc2 _=>?_);rw[ho] at ho2;cases ho2;rw[Yf] at hc2;injection hc2 with z;show absurd z "!"
  let nea:e≠a:=λz=>by
   subst z;(show ϱ p.21 λo ho Yf _=>?_);let Rm:=he;unfold abT at Rm;rw[ho] at Rm;cases Rm;injection Yf with z;show absurd z "!"
  let Qw:=(Α.mp hu).1;show wpAny_pyNext_enum_itemD (xq (Draws.list (A:=X.A.in1) (I.ok.hd hc) it a nai fT.10)) (i:=i+1) (by rw[show(((i+1:Nat)):Int)=(i:Int)+1 by lk];show he) ⟨(),h1,p.21⟩ (by simp;lk) hei (by simp;show⟨hei,nea⟩) λx' h' tk hPx a1 a2' a3 a4 hk=>?_;obtain rfl:x'=u:=by
   let hu':fT.10[i]?=!u:=by simpa using hu
   show Ϭ (hPx.symm.trans hu')
  rw[show(((i+1:Nat)):Int)=(i:Int)+1 by lk] at a1 a3;show(Λ _ rfl (Y7 a1 λh'' ag9 sb=>?_));let I2:Inv X pins σ (upd H s.5 (.tup [.int (i+1),x])) { s with heap:=h'',toks:=tk+1 }:=(I.RT (t':=tk+1) (λc o hc q=>sb.extBut _ _ (λz=>hc (by simp[z])) (hk c o (λz=>hc (by simp[z])) (λz=>hc (by simp[z])) q)) hf).acM (I.Xx (δ _) I.72) ⟨(by show 2<=sizeLine;decide),(Λ ([.int (i+1) tk,x']) (.cons ⟨_,rfl⟩ (.cons ru .nil)) (ϡ _ (sb.extBut _ _ (K4 (π he)) a3) rfl (N' _ rfl)))⟩ (λ_ _=>trivial);show(TV (.ref s.5) _ I2 rfl (Fk _ x rfl I.72 rfl (λzs hq=>by rw[I.mf hq hx];show ex)) ?_ (λc hc=>?_))
  ·show⟨⟨x',by rw[show(((i+1:Nat)):Int)=(i:Int)+1 by lk];show ag9⟩,a2'.2.1.extBut sb.34 (ψ hei)⟩
  ·let RS:c < s.5:=by
    (revert h1;show ϭ λo1 e1 _=>?_);simp only[Κ,Μ,χ] at hc;rcases hc with rfl | rfl
    ·show π he
    ·show π e1
   rw[ag (Ϧ RS)];show(hf c hc).1
 done:=by
  intro X hP hw hK hc i pins s σ H E I hf st hg;subst hP hw hK;obtain⟨⟨old,he⟩,h1⟩:=st;(revert hg;show ϭ λxs hx aj3=>?_);(show ϱ (I.list hx) λfT rv p _=>?_);let l1:=rv.4;show iH (I.ok.hd hc) he h1 p.21 (by simp;lk) λh' hk=>⟨rfl,(I.RT (λc o hc q=>hk c o (λz=>hc (by simp[z])) q) hf)⟩
 self:=λ_ _ _ _ _ st h=>by
  obtain⟨⟨old,he⟩,_⟩:=st;show Re he h
section
variable {X:Cx}
abbrev ahm (K:Ψ)(te:TE):TI:=λσ H R=>te σ H λv H1=>∃a xs,v=.ref a/\G' K H1 a xs/\R (ahl K a) H1
def jt {K:Ψ}{cj}(hg:Gl X "enumerate")(hm:X.mg "enumerate"=none)(hE:PE X e te)(hK: ~~~(X.K=K))
  (he: ~~~(backTo pos (starEach [e] X.9)=[(false,eval e X.9)])) (h2: ~~~(((backTo pos (starEach [e] X.9)).any (·.1)=false))) :
  PI X (.Tuple elts k0 aee) (.Call (.Name "enumerate" p) [e] [⟨some "start",.Constant (.int 1) cj ip,kp⟩] pos) (ahm K te):=by
 subst hK;intro pins s σ H R I h;show mD (eY I hg hm alS (n5 ?_ he h2) "!" "!");rw[he];show Ϻ (L8 (hE pins s σ H _ I h) λu s1 v H1 I1 r1 q1=>pr (kws_cons (L8 (ah pins s1 σ H1 (λy H2=>y=.int 1/\H2=H1) I1 ⟨rfl,rfl⟩) λu2 s2 v2 H2 I2 r2 q2=>kws_nil ?_)));obtain⟨e2,e3⟩:=q2;subst e2 e3;obtain⟨t2,rfl⟩:=r2;(revert q1;show MM λa xs μ hx q=>?_;subst μ);cases r1;(show ϱ (I2.list hx) λfT rx px _=>?_);show jr px.21 λh' z1 z2 z3 hk=>Re z1 (QA _ _ _ _ H2 rfl (I2.kept hk) (zy a _ _ (K4 (MX _))) ⟨⟨_,(show(0:Int)+1=1 from rfl)▸z1⟩,z2⟩ (λc hc=>?_) q);let RS:s2.5<=c:=by
  simp only[Κ,Μ,χ] at hc;rcases hc with rfl | rfl<;>lk
 show I2.Xx RS (I2.lu.fresh RS)
end
def fM {K:Ψ}(Pv:Nat->St->Hp->Prop)(h0:Pv 0 σ H)(hl:∀i σ H,i<=xs.4->Pv i σ H->G' K H a xs)
  (hs:∀i x T σ H,xs[i]?=!x->H T=none->Pv i σ H->g (.ref T) σ (upd H T (.tup [.int ((i:Nat)+1),x])) λσ2 H2=>tb { D with nx:=Pv (i+1),ct:=Pv (i+1),bk:=D.nx } σ2 H2)
  (hd:∀σ H,Pv xs.4 σ H->D.nx σ H):XD (ahl K a) g tb D σ H:=by
 show(Λ (λi m σ H=>m=xs.4 - i/\i<=xs.4/\Pv i σ H) (ϡ _ rfl (Ϡ _) h0) ?_)
 rintro i m σ H ⟨rfl,hi,p⟩
 let lx:=hl i σ H hi p
 by_cases OM:i < xs.4
 ·show .inr ⟨(cr xs (xs[i]) lx ∅),(Λ (Pv (i+1)) (λσ' H' p'=>(MD (xs.4 - (i+1)) () rfl OM p')) (λv H' y=>?_))⟩
  (revert y;show P9 λT x μ hT M0 h1=>?_;subst μ;subst M0);show hs i x T σ _ (h1 xs lx) hT p
 ·let e:i=xs.4:=by lk
  subst e;show .inl ⟨(Λ xs lx ()),hd σ H p⟩
noncomputable abbrev Dd:=Str×Int×Str
abbrev ii:Str:=ϒ "open"
structure o0 where
 ds:-Dd
 B:Str->Option Int
 sz:Nat
abbrev QW:o0:=⟨[],λ_=>none,0⟩
abbrev ZA (dl bz:Ι):-(Str×V):=[("deeds",.ref dl),("busy",.ref bz)]
abbrev OR (x:Dd)(sp pl:Ι):-(Str×V):=[("sender",.str x.1),("ends",.int x.2.1),("fate",.str x.2.2),("spots",.ref sp),("pledges",.ref pl)]
structure dL (C CD:Ι)(H:Hp)(r dl bz:Ι)(us:-Ι)(M:o0):Prop where
 obj:∃dx,H r=!.ins C dx (ZA dl bz)
 lst:H dl=!.lst (us.map V.ref)
 len:us.4=M.ds.4
 each:∀(i:Nat) u x,us[i]?=!u->M.ds[i]?=!x->∃dx sp pl,H u=!.ins CD dx (OR x sp pl)
 nd:us.14
 ZB:∃ϓ,H bz=!.dK ϓ/\ϓ.4<=M.sz/\∀z,lc ϓ (.inr z)=(M.B z).map V.int
 ru:r∉us
def dL.im {A:-Ι}{dl:Ι}(h:dL C CD H r dl bz us M)(c:ϛ A H H')(hr:r∉A)(hd:dl∉A)(hb:bz∉A)(hu:∀u∈us,u∉A):dL C CD H' r dl bz us M:=by
 obtain⟨dx,e⟩:=h.30;(show ϱ h.ZB λϓ e2 l2 v2=>?_);show⟨⟨dx,c.keep _ _ e hr⟩,c.keep _ _ h.28 hd,h.25,λi u x h1 h2=>?_,h.nd,(ϡ ϓ (c.keep _ _ e2 hb) l2 v2),h.ru⟩;(show TY (h.each i u x h1 h2) λdx sp pl e3=>?_);show(UK dx sp pl (c.keep _ _ e3 (hu u (Δ h1))))
def dL.same {dl:Ι}(h:dL C CD H r dl bz us M)(s:Ω H H'):dL C CD H' r dl bz us M:=h.im (A:=[]) (ϛ.of_same s) ∅ ∅ ∅ (λ_ _=>by simp)
def ia (dl bz:Ι):(ZA dl bz).lookup (ϒ "deeds")=!.ref dl:=rfl
def iI (dl bz:Ι):(ZA dl bz).lookup (ϒ "busy")=!.ref bz:=rfl
def qX (x:Dd)(sp pl:Ι):(OR x sp pl).lookup (ϒ "sender")=!.str x.1:=rfl
def FQ (x:Dd)(sp pl:Ι):(OR x sp pl).lookup (ϒ "ends")=!.int x.2.1:=rfl
def qY (x:Dd)(sp pl:Ι):(OR x sp pl).lookup (ϒ "fate")=!.str x.2.2:=rfl
def FR (x:Dd)(sp pl:Ι)(z:Str):QB "fate" (.str z) (OR x sp pl)=OR (x.1,x.2.1,z) sp pl:=rfl
abbrev o0.begin (M:o0)(s:Str)(e:Int):o0:=⟨M.ds++[(s,e,ii)],λz=>if z=s then some (M.ds.4+1) else M.B z,M.sz+1⟩
abbrev o0.finish (M:o0)(i:Nat)(x:Dd)(z:Str):o0:=⟨M.ds.set i (x.1,x.2.1,z),λy=>if y=x.1 then none else M.B y,M.sz⟩
abbrev CY (C CD:Ι):Sp:=aR λx=>aN λH Q _=>∃dx,H x=!.ins C dx []/\∀dl bz H',H dl=none->H bz=none->ϛ [x] H H'->dL C CD H' x dl bz [] QW->Q .k4 H'
abbrev Ko (CD:Ι):Sp:=aR λx=>aS λs=>aI λe=>aN λH Q _=>∃dx,H x=!.ins CD dx []/\∀sp pl H',ϛ [x] H H'->H' x=!.ins CD dx (OR (s,e,ii) sp pl)->Q .k4 H'
abbrev Lb (C CD:Ι):Sp:=aR λr=>aS λs=>aN λH Q _=>∃dl bz us M,dL C CD H r dl bz us M/\M.B s=none/\Q .k4 H
abbrev CZ (C CD:Ι):Sp:=aR λr=>aN λH Q _=>∃dl bz us M,dL C CD H r dl bz us M/\Q (.int (M.ds.4+1)) H
abbrev Kp (C CD:Ι):Sp:=aR λr=>aS λs=>aI λe=>aN λH Q _=>∃dl bz us M,dL C CD H r dl bz us M/\M.B s=none/\M.ds.4<=1000/\M.sz<=1000/\
 ∀u H',H u=none->ϛ [dl,bz] H H'->dL C CD H' r dl bz (us++[u]) (M.begin s e)->Q (.int (M.ds.4+1)) H'
abbrev C0 (C CD:Ι):Sp:=aR λr=>aS λs=>aN λH Q _=>∃dl bz us M,dL C CD H r dl bz us M/\Q (.int ((M.B s).getD 0)) H
abbrev Lc (C CD:Ι):Sp:=aR λr=>aI λz2=>aN λH Q _=>∃(dl bz:Ι) (us:-Ι) (M:o0) (i:Nat),z2=i+1/\∃u,dL C CD H r dl bz us M/\us[i]?=!u/\Q (.ref u) H
abbrev Jd (C CD:Ι):Sp:=aR λr=>aI λz2=>aS λz=>aN λH Q _=>∃(dl bz:Ι) (us:-Ι) (M:o0) (i:Nat),z2=i+1/\∃u x,dL C CD H r dl bz us M/\us[i]?=!u/\M.ds[i]?=!x/\M.B x.1=!((i:Int)+1)/\
 ∀H',ϛ [u,bz] H H'->dL C CD H' r dl bz us (M.finish i x z)->Q .k4 H'
abbrev odd (M:o0)(t:Int)(i:Nat):Bool:=match M.ds[i]? with
 | some x=>decide (x.2.2=ii) && decide (x.2.1<=t)
 | none=>false
abbrev OB (M:o0)(t:Int)(n:Nat):-Int:=((Ϟ n).filter (odd M t)).map λ(i:Nat)=>(i:Int)+1
abbrev C5 (C CD:Ι):Sp:=aR λr=>aI λt=>aN λH Q _=>∃dl bz us M,dL C CD H r dl bz us M/\M.ds.4<=1000/\∀D H',H D=none->Ω H H'->H' D=!.lst ((OB M t M.ds.4).map V.int)->Q (.ref D) H'
abbrev Ld (C CD:Ι):Sp:=aR λr=>aI λz2=>aN λH Q _=>∃(dl bz:Ι) (us:-Ι) (M:o0) (i:Nat),z2=i+1/\∃x,dL C CD H r dl bz us M/\M.ds[i]?=!x/\Q (.str x.2.2) H
def qZ (M:o0)(t:Int)(n:Nat):OB M t (n+1)=OB M t n++(if odd M t n=true then[(n:Int)+1] else[]):=by
 unfold OB;rw[AT,MA,ϐ]
 by_cases c:odd M t n=true
 ·rw[γ c,Od c];rfl
 ·rw[Φ c,MU c];rfl
structure Ta (M:o0):Prop where
 a:∀z n,M.B z=!n->∃(i:Nat) (e:Int),n=i+1/\M.ds[i]?=!(z,e,ii)
 b:∀(i:Nat) x,M.ds[i]?=!x->x.2.2=ii->M.B x.1=!((i:Int)+1)
def HY:Ta QW:=⟨λz n h=>(by cases h),λi x h=>by simp[QW] at h⟩
def Ta.begin (h:Ta M)(s:Str)(e:Int)(hs:M.B s=none):Ta (M.begin s e):=by
 show⟨λz n hz=>?_,λi x hx ho=>?_⟩
 ·let hz':(if z=s then some ((M.ds.4:Int)+1) else M.B z)=!n:=hz
  change ∃(i:Nat) (e':Int),n=i+1/\(M.ds++[(s,e,ii)])[i]?=!(z,e',ii)
  by_cases c:z=s
  ·rw[γ c] at hz'
   cases hz';show(cr M.ds.4 e rfl (by rw[ϥ (δ _),Y8,c];rfl))
  ·rw[Φ c] at hz'
   (show Rh (h.a z n hz') λi e' h1 h2=>?_);show(cr i e' h1 (by rw[ϙ (Α.mp h2).1];show h2))
 ·let hx':(M.ds++[(s,e,ii)])[i]?=!x:=hx
  show(if x.1=s then some ((M.ds.4:Int)+1) else M.B x.1)=!((i:Int)+1)
  by_cases c:i < M.ds.4
  ·rw[ϙ c] at hx'
   let hb:=h.b i x hx' ho;rw[Φ (λz=>by rw[z,hs] at hb;cases hb)];show hb
  ·rw[ϥ ()] at hx'
   let hi:i - M.ds.4=0:=by
    cases k:i - M.ds.4 with
    | zero=>rfl
    | succ k=>rw[k] at hx';simp at hx'
   rw[hi] at hx';simp at hx';subst hx';rw[γ rfl,show i=M.ds.4 by lk]
def Ta.finish (h:Ta M){x:Dd}(hx:M.ds[i]?=!x)(hb:M.B x.1=!((i:Int)+1))(hz:z≠ii):Ta (M.finish i x z):=by
 show⟨λy n hy=>?_,λj w hw ho=>?_⟩
 ·let hy':(if y=x.1 then none else M.B y)=!n:=hy
  by_cases c:y=x.1
  ·rw[γ c] at hy';cases hy'
  ·rw[Φ c] at hy'
   (show Rh (h.a y n hy') λj e' h1 h2=>?_);show(cr j e' h1 ?_);show(M.ds.set i (x.1,x.2.1,z))[j]?=_;rw[ϔ (λq=>c ?_)]
   ·show h2
   ·subst q
    rw[hx] at h2;cases h2;rfl
 ·let hw':(M.ds.set i (x.1,x.2.1,z))[j]?=!w:=hw
  show(if w.1=x.1 then none else M.B w.1)=!j+1
  by_cases c:i=j
  ·subst c
   rw[ϑ ((Α.mp hx).1)] at hw';cases hw';show absurd ho hz
  ·rw[ϔ c] at hw'
   let hb2:=h.b j w hw' ho;rw[Φ (λq=>by rw[q,hb] at hb2;cases hb2;show c rfl)];show hb2
noncomputable abbrev Spt:=Int×Int
noncomputable abbrev Pr:=Str×-Spt
noncomputable abbrev Ent:=Int×Int×Int×Option Int
abbrev ZC (e:-Int)(r:Int):Int:=e.getD r.6 0
abbrev Q2 (e:-Int)(s:Spt):Bool:=decide (s.2 < ZC e s.1)
abbrev WFp (n:Nat)(IN:-Pr):Prop:=∀x∈IN,∀s∈x.2,0<=s.1/\s.1 < n/\0<=s.2
abbrev aeO (e:-Int)(x:Pr):Prop:=(x.1="open" -> ∀s∈x.2,Q2 e s=false)/\(x.1="closed" -> (∀s∈x.2,Q2 e s=true)\/∀s∈x.2,Q2 e s=false)
abbrev VF (e:-Int)(IN:-Pr):Prop:=∀x∈IN,aeO e x
abbrev TH (a b:-Int):Prop:=a.4=b.4/\∀i,a.getD i 0<=b.getD i 0
def TH.refl (a:-Int):TH a a:=⟨rfl,λ_=>Oe _⟩
def TH.trans {a b c:-Int}(h:TH a b)(g:TH b c):TH a c:=⟨h.1.trans g.1,λi=>aio (h.2 i) (g.2 i)⟩
def TH.aks {a b:-Int}(h:TH a b)(g:TH b a):a=b:=by
 show QP h.1 λi h1 h2=>?_;let x:=h.2 i;let y:=g.2 i;rw[ε,ε,Ε h1,Ε h2] at x y;simp only[aaH] at x y;lk
def mH (e:-Int)(i j:Nat)(v:Int)(h:i < e.4):(e.set i v).getD j 0=if j=i then v else e.getD j 0:=by
 by_cases c:j=i
 ·subst c;simp[h]
 ·simp[c,ψ c]
def mI {a b:-Int}(h:TH a b)(g:Q2 b s=false):Q2 a s=false:=by
 have:=h.2 s.1.6;unfold Q2 ZC at g ⊢;simp only[aci] at g ⊢;lk
def FU {e:-Int}{s:Spt}(h1:0<=s.1)(h2:s.1 < e.4)(hb:Q2 e s=true):TH (e.set s.1.6 s.2) e:=by
 show⟨ϗ,λi=>?_⟩;rw[mH _ _ _ _ ()];unfold Q2 ZC at hb;simp only[PZ] at hb
 split
 ·rename_i c;subst c;lk
 ·show Oe _
def Bp {e:-Int}{s:Spt}(h1:0<=s.1)(h2:s.1 < e.4):Q2 (e.set s.1.6 s.2) s=false:=by
 unfold Q2 ZC;rw[mH _ _ _ _ (),γ rfl];simp
abbrev Sw (IN:-Pr)(e:-Int)(t:Ent):Prop:=(0<=t.1/\t.1 < e.4)/\(0<=t.2.1/\Q2 e (t.1,t.2.1)=true)/\∃x,1<=t.2.2.1/\IN[t.2.2.1.6 - 1]?=!x/\(t.1,t.2.1)∈x.2/\((x.1="open" /\ t.2.2.2=none)\/(x.1="closed" /\ ∃s∈x.2,t.2.2.2=!s.1/\Q2 e s=false))
inductive Chain (IN:-Pr) (e0:-Int):-Ent->-Int->Prop
 | nil:Chain IN e0 [] e0
 | snoc {P:-Ent} {e:-Int} {t:Ent}:Chain IN e0 P e->Sw IN e t->Chain IN e0 (P++[t]) (e.set t.1.6 t.2.1)
def Sw.le {e:-Int}{t:Ent}(h:Sw IN e t):TH (e.set t.1.6 t.2.1) e:=FU h.1.1 h.1.2 h.2.1.2
def Chain.le {e:-Int}(h:Chain IN e0 P e):TH e e0:=by
 induction h with
 | nil=>show .refl _
 | snoc _ f ih=>show f.le.trans ih
def Chain.nn {e:-Int}(h:Chain IN e0 P e)(h0:∀i,0<=e0.getD i 0):∀i,0<=e.getD i 0:=by
 induction h with
 | nil=>show h0
 | snoc _ f ih=>
  intro i;rw[mH _ _ _ _ (by have:=f.1;lk)]
  split
  ·show f.2.1.1
  ·show ih i
def Sw.keep {e r:-Int}{t:Ent}(f:Sw IN e t)(hr:TH r e)(hs:VF r IN):TH r (e.set t.1.6 t.2.1):=by
 show⟨by rw[ϗ];show hr.1,λi=>?_⟩;rw[mH _ _ _ _ (by have:=f.1;lk)]
 split
 ·rename_i c
  subst c;(revert f;show N8 λ_ _=>Xv λx _ hx hm ho=>?_);let sx:=hs x (Δ hx);let key:Q2 r (t.1,t.2.1)=false:=by
   rcases ho with⟨e1,_⟩ | ⟨e1,s,hsm,_,hb⟩
   ·show sx.1 e1 _ hm
   ·rcases sx.2 e1 with h | h
    ·have:=h s hsm
     rw[mI hr hb] at this;cases this
    ·show h _ hm
  unfold Q2 ZC at key;simp only[aci] at key;lk
 ·show hr.2 i
def Chain.keep {e r:-Int}(h:Chain IN e0 P e)(hr:TH r e0)(hs:VF r IN):TH r e:=by
 induction h with
 | nil=>show hr
 | snoc _ f ih=>show f.keep ih hs
abbrev Wy (IN:-Pr)(e:-Int):Nat:=(IN.flatMap (·.2)).countP (Q2 e)
def oZ {p q:α->Bool}{a:α}:∀{l:-α},(∀x,q x=true->p x=true)->a∈l->p a=true->q a=false->l.countP q+1<=l.countP p
 | [],_,h,_,_=>by cases h
 | b::r,hi,h,h1,h2=>by
  rw[acj,acj];let hm:r.countP q<=r.countP p:=List.countP_mono_left λx _ hx=>hi x hx;rcases Κ.mp h with rfl | h
  ·rw[h1,h2];simp;lk
  ·have:=oZ (p:=p) (q:=q) hi h h1 h2
   by_cases c:q b=true
   ·rw[c,hi b c];simp;lk
   ·by_cases c':p b=true
    ·simp[c,c'];lk
    ·simp[c,c'];lk
def HZ {e:-Int}{x:Pr}(hx:x∈IN)(hs:s∈x.2)(h1:0<=s.1)(h2:s.1 < e.4)(hb:Q2 e s=true):Wy IN (e.set s.1.6 s.2)+1<=Wy IN e:=by
 show oZ (λy hy=>?_) (UJ.mpr (Λ x hx hs)) hb (Bp h1 h2);cases c:Q2 e y with
 | true=>rfl
 | false=>rw[mI (FU h1 h2 hb) c] at hy;cases hy
structure Pas (IN:-Pr)(e0 e:-Int)(P:-Ent)(e':-Int)(P':-Ent):Prop where
 chn:Chain IN e0 P' e'
 le:TH e' e
 cnt:P'.4+Wy IN e'<=P.4+Wy IN e
 mor:P.4<=P'.4
 eq:P'.4=P.4->e'=e
def Pas.refl {e:-Int}(h:Chain IN e0 P e):Pas IN e0 e P e P:=⟨h,.refl _,δ _,δ _,λ_=>rfl⟩
def Pas.trans {e e' e'':-Int}(h:Pas IN e0 e P e' P')(g:Pas IN e0 e' P' e'' P''):Pas IN e0 e P e'' P'':=
 ⟨g.chn,g.le.trans h.le,ο g.cnt h.cnt,ο h.mor g.mor,λz=>by
  let a:=h.mor;let b:=g.mor
  rw[g.eq (),h.eq ()]⟩
def Pas.step {e:-Int}{t:Ent}(h:Chain IN e0 P e)(f:Sw IN e t):Pas IN e0 e P (e.set t.1.6 t.2.1) (P++[t]):=by
 (show agr f.2.2 λx h1 hx hm _=>?_);have:=HZ (Δ hx) hm f.1.1 f.1.2 f.2.1.2;show⟨h.snoc f,f.le,?_,by rw[Χ];lk,λz=>by rw[Χ,EQ] at z;lk⟩;rw[Χ,EQ];let e1:e.set (t.1,t.2.1).1.toNat (t.1,t.2.1).2=e.set t.1.6 t.2.1:=rfl;rw[e1] at this;lk
structure Ol (IN:-Pr)(e0 e:-Int):Prop where
 le:TH e e0
 snd:VF e IN
 most:∀r,TH r e0->VF r IN->TH r e
def Chain.front {e:-Int}(h:Chain IN e0 P e)(s:VF e IN):Ol IN e0 e:=⟨h.le,s,λ_ hr hs=>h.keep hr hs⟩
def Ol.uniq {e e':-Int}(h:Ol IN e0 e)(g:Ol IN e0 e'):e=e':=(g.most _ h.le h.85).aks (h.most _ g.le g.85)
def Ol.self {e:-Int}(h:Ol IN e0 e)(s:VF e0 IN):e=e0:=h.le.aks (h.most _ (.refl _) s)
abbrev aeQ (e:-Int)(MT:-Spt)(o:Option Int):Prop:=(o=none/\∀s∈MT,Q2 e s=true)\/∃s∈MT,o=!s.1/\Q2 e s=false
def Kq (IN:-Pr)(e:-Int):Wy IN e<=(IN.flatMap (·.2)).4:=List.countP_le_length
abbrev acX (s:Spt):-V:=[.int s.1,.int s.2]
abbrev XI (t:Ent):-V:=[.int t.1,.int t.2.1,.int t.2.2.1,oV t.2.2.2]
abbrev aku (H:Hp)(u:Ι)(x:Pr):Prop:=∃l,H u=!.tup [.str x.1,.ref l]/\ϲ H l (x.2.map acX)
abbrev RU (H:Hp)(p:Ι)(IN:-Pr):Prop:=∃us,H p=!.lst (us.map V.ref)/\Paired (aku H) us IN
def Paired.aoI {F:α->β->Prop}{as:-α}{bs:-β}(r:Paired F as bs){i:Nat}{a:α}(e:as[i]?=!a):∃b,bs[i]?=!b/\F a b:=by
 induction r generalizing i with
 | nil=>simp at e
 | cons r t ih=>cases i with
  | zero=>simp at e;subst e;show(Λ _ rfl r)
  | succ i=>simpa using ih (by simpa using e)
def Paired.akv {F:α->β->Prop}{a:α}{b:β}(f:F a b){as:-α}{bs:-β}(r:Paired F as bs):Paired F (as++[a]) (bs++[b]):=by
 induction r with
 | nil=>show .cons f .nil
 | cons r t ih=>show .cons r ih
def RU.at {p:Ι}(h:RU H p IN):∃us:-Ι,H p=!.lst (us.map V.ref)/\us.4=IN.4/\∀(i:Nat) (x:V),(us.map V.ref)[i]?=!x->∃u y,x=.ref u/\IN[i]?=!y/\aku H u y:=by
 (revert h;show ϭ λus e t=>?_);show(ϡ us e (Paired.length t) (λi x hx=>?_));rw[Ρ] at hx;(show ι (ξ.mp hx) λu hu μ=>?_;subst μ);(show ι (Paired.aoI t hu) λy h1 h2=>?_);show(ϕ u y rfl h1 h2)
def ϲ.add {D t:Ι}{r:-V}(h:ϲ H D rows)(c:ϛ [D] H H')(ht:H' t=!.tup r)(hD:∀ts,H D=!.lst ts->H' D=!.lst (ts++[V.ref t])):ϲ H' D (rows++[r]):=by
 (revert h;show ϭ λts e z=>?_);show(Λ (ts++[t]) (by rw[hD _ e,ϐ];rfl) ((z.im c).snoc ht))
abbrev acY (J:It)(n:Nat)(g:TG)(tt:TT)(te:TE)(σ:St)(H1:Hp)(Q:VK):Prop:=∀D,H1 D=none->∃W:Nat->Nat->-V->Hp->Prop,(∃m,W 0 m [] (upd H1 D (.lst [])))/\∀i m ys H2,W i m ys H2->
 (J.stop i H2/\H2 D=!.lst ys/\Q (.ref D) H2)\/(J.go i H2/\ys.4 < sizeLine/\∀x H3,J.Zh i H2 x H3->∀o,o.4=n->g x (o++σ) H3 λσ' H3'=>(∃o',o'.4=n/\σ'=o'++σ)/\tt σ' H3' λb H4=>
  if b=true then te σ' H4 λy H5=>H5 D=!.lst ys/\∃m',m' < m/\W (i+1) m' (ys++[y]) (upd H5 D (.lst (ys++[y]))) else ∃m',m' < m/\W (i+1) m' ys H4)
def Le (n:Nat)(wi:TI)(g:TG)(tt:TT)(te:TE)(σ:St)(H:Hp)(Q:VK):VA n wi g tt te σ H Q=wi σ H λJ H1=>acY J n g tt te σ H1 Q:=rfl
def o6 {K:Ψ}(hl:ϲ H a rows)(hn:rows.4<=1000)(hw:∀xs∈rows,xs.4=n)(q:-V->Bool)(f:-V->V)
  (hg:∀t xs H' (o:St) (R:St->Hp->Prop),xs∈rows->Ω H H'->H' t=!.tup xs->o.4=n->R (xs.map some++σ) H'->g (.ref t) (o++σ) H' R)
  (ht:∀xs H',xs∈rows->Ω H H'->∀Qt:Bool->Hp->Prop,(∀OP,Ω H' OP->Qt (q xs) OP)->tt (xs.map some++σ) H' Qt)
  (he:∀xs H',xs∈rows->q xs=true->Ω H H'->∀Qe:VK,(∀OP,Ω H' OP->Qe (f xs) OP)->te (xs.map some++σ) H' Qe)
  (hd:∀D H',H D=none->Ω H H'->H' D=!.lst ((rows.filter q).map f)->Q (.ref D) H'):acY (Itl K a) n g tt te σ H Q:=by
 (revert hl;show ϭ λts e hT=>?_);let hlen:=hT.4;intro D hD;show(Λ (λi m ys H2=>m=rows.4 - i/\i<=rows.4/\ys=((rows.take i).filter q).map f/\Ω H H2/\H2 D=!.lst ys) (UM _ rfl (Ϡ _) rfl (Ω.upd hD) aa) ?_)
 rintro i m ys H2 ⟨rfl,hi,rfl,sm,hD2⟩
 let sq:G' K H2 a (ts.map V.ref):=.inl (.inl (sm _ _ e))
 by_cases OM:i < rows.4
 ·let W5:(((rows.take i).filter q).map f).4 < sizeLine:=by
   rw[Θ];let h1:=sB q (rows.take i);rw[eF] at h1;show ό (show((rows.take i).filter q).4<=1000 by lk) "!"
  show .inr ⟨(cr (ts.map V.ref) (V.ref (ts[i]'())) sq ∅),W5,?_⟩
  rintro x H3 ⟨rfl,hx⟩ o ho
  let hx':=hx _ sq;rw[Ρ] at hx';(show ι (ξ.mp hx') λt ht1 μ=>?_;subst μ);(show ι (hT.get ht1) λxs hxs hxt=>?_);let hm:=Δ hxs;let XA:rows.take (i+1)=rows.take i++[xs]:=by rw[Ϲ,hxs];rfl
  show hg t xs H3 o _ hm sm (sm _ _ hxt) ho ⟨(Λ (xs.map some) (by rw[Θ];show hw xs hm) rfl),ht xs H3 hm sm _ λH4 s4=>?_⟩
  by_cases c:q xs=true
  ·rw[γ c]
   show he xs H4 hm c (sm.trans s4) _ λH5 s5=>⟨s5 _ _ (s4 _ _ hD2),(TW (rows.4 - (i+1)) () rfl OM ?_ ?_ aa)⟩
   ·rw[XA,MA,ϐ,Od c,Rr];rfl
   ·intro b o' hb
    rw[ag (aq hb hD)];show s5 _ _ (s4 _ _ (sm _ _ hb))
  ·rw[Φ c]
   show(TW (rows.4 - (i+1)) () rfl OM ?_ (sm.trans s4) (s4 _ _ hD2));rw[XA,MA,MU c,Rr,Ix]
 ·have:i=rows.4:=by lk
  subst this;show .inl ⟨(Λ (ts.map V.ref) sq (by rw[Θ];lk)),hD2,?_⟩;rw[bv] at hD2;show hd D H2 hD sm hD2
def Ia {e:-Int}{r:Int}(h0:0<=r)(h1:r < e.4):(e.map V.int)[r.6]?=!.int (ZC e r):=by
 unfold ZC;rw[Ρ,ε,Ε ()];rfl
abbrev aho (n:Nat)(MT:-Spt):Prop:=∀s∈MT,0<=s.1/\s.1 < n/\0<=s.2
abbrev Kr (K:Ψ):Sp:=aR λA=>aR λt=>aN λH Q _=>∃e s,G' K H A (e.map V.int)/\H t=!.tup (acX s)/\0<=s.1/\s.1 < e.4/\Q (.bl (Q2 e s)) H
abbrev Ks (K:Ψ):Sp:=aR λA=>aR λl=>aN λH Q _=>∃e MT,G' K H A (e.map V.int)/\ϲ H l (MT.map acX)/\aho e.4 MT/\∀o,aeQ e MT o->Q (oV o) H
abbrev aeS (e:-Int)(x:Pr)(ot:Option Int):Prop:=(x.1="open" /\ ot=none)\/(x.1="closed" /\ ∃s∈x.2,ot=!s.1/\Q2 e s=false)
abbrev FV:Sp:=aR λA=>aR λB=>aI λdd=>aR λl=>aV λz5=>aN λH Q _=>∃ot,z5=oV ot/\∃IN e0 e P x,H A=!.lst (e.map V.int)/\ϲ H B (P.map XI)/\ϲ H l (x.2.map acX)/\A≠B/\l≠A/\l≠B/\
 aho e.4 x.2/\Chain IN e0 P e/\P.4+Wy IN e<=1000/\1<=dd/\IN[dd.6 - 1]?=!x/\aeS e x ot/\
 ∀e' P' H',ϛ [A,B] H H'->H' A=!.lst (e'.map V.int)->ϲ H' B (P'.map XI)->Pas IN e0 e P e' P'->(∀s∈x.2,Q2 e' s=false)->Q .k4 H'
abbrev Ib:Sp:=aR λA=>aR λB=>aR λp=>aN λH Q _=>∃H0 IN e0 e P,Ω H0 H/\RU H0 p IN/\H0 A=none/\H0 B=none/\A≠B/\H A=!.lst (e.map V.int)/\ϲ H B (P.map XI)/\
 WFp e.4 IN/\Chain IN e0 P e/\P.4+Wy IN e<=1000/\
 ∀e' P' H',ϛ [A,B] H H'->H' A=!.lst (e'.map V.int)->ϲ H' B (P'.map XI)->Pas IN e0 e P e' P'->(P'.4=P.4->VF e IN)->Q .k4 H'
abbrev zz (K:Ψ):Sp:=aR λq=>aR λB=>aR λp=>aN λH Q _=>∃H0 IN e0,Ω H0 H/\RU H0 p IN/\H0 B=none/\G' K H q (e0.map V.int)/\H B=!.lst []/\WFp e0.4 IN/\(IN.flatMap (·.2)).4<=1000/\
 ∀A e P H',H A=none->ϛ [B] H H'->H' A=!.lst (e.map V.int)->ϲ H' B (P.map XI)->Chain IN e0 P e->VF e IN->Q (.ref A) H'
abbrev C8 (K:Ψ):Sp:=aR λq=>aR λp=>aN λH Q _=>∃IN e0,RU H p IN/\G' K H q (e0.map V.int)/\WFp e0.4 IN/\(IN.flatMap (·.2)).4<=1000/\
 ∀A e H',H A=none->Ω H H'->H' A=!.lst (e.map V.int)->Ol IN e0 e->((∀i,0<=e0.getD i 0)->∀i,0<=e.getD i 0)->Q (.ref A) H'
structure acZ where
 R:Str->Option (Int×Int)
 sz:Nat
abbrev read0:acZ:=⟨λ_=>none,0⟩
abbrev akw (a b:Ι):-(Str×V):=[("rows",.ref a),("places",.ref b)]
structure Sx (C:Ι)(H:Hp)(r a b:Ι)(M:acZ):Prop where
 obj:∃dx,H r=!.ins C dx (akw a b)
 row:∃ϓ,H a=!.dK ϓ/\ϓ.4<=M.sz/\(∀z,lc ϓ (.inr z)=(M.R z).map λx=>V.int x.1)/\∀p,lc ϓ (.inl p)=none
 pla:∃ϓ,H b=!.dK ϓ/\ϓ.4<=M.sz/\∀z,lc ϓ (.inr z)=(M.R z).map λx=>V.int x.2
 ra:r≠a
 rb:r≠b
 ab:a≠b
def Sx.im {A:-Ι}(h:Sx C H r a b M)(c:ϛ A H H')(hr:r∉A)(ha:a∉A)(hb:b∉A):Sx C H' r a b M:=by
 obtain⟨dx,e⟩:=h.30;(show ϱ h.row λk1 e1 l1 v1=>?_);(show ϱ h.pla λk2 e2 l2 v2=>?_);show⟨⟨dx,c.keep _ _ e hr⟩,(ϡ k1 (c.keep _ _ e1 ha) l1 v1),(ϡ k2 (c.keep _ _ e2 hb) l2 v2),h.ra,h.rb,h.ab⟩
abbrev C9 (C:Ι):Sp:=aR λx=>aN λH Q _=>∃dx,H x=!.ins C dx []/\
 ∀a b H',H a=none->H b=none->ϛ [x] H H'->Sx C H' x a b read0->Q .k4 H'
inductive Pf (P:awi):-RM->Prop
 | nil:Pf P []
 | cons {x:Str} {t:Tok} {u:Υ} {r:-RM}:Pf P r->Pf P (⟨ack P x,.str x t,u⟩::r)
def Pf.mem (h:Pf P l):∀e∈l,∃x t,e.key=.str x t/\e.hash=ack P x:=by
 induction h with
 | nil=>intro e he;cases he
 | cons _ ih=>
  intro e he;rcases Κ.mp he with rfl | he
  ·show(cr _ _ rfl rfl)
  ·show ih e he
abbrev Xc (es:Array RM)(x:Str):Option Υ:=findBy Uu es (.inr x)
abbrev aeT (w:J')(K:Ψ)(mg:Str->Option Υ)(x:Str)(F:-(Str×V)):Prop:=∃p es ep,mg x=!.ref p/\K.lookup p=some { cls:=.type "dict",dict:=none,data:=.dict es ep,slots:=#[] }/\
 Pf w.42 es.37/\∀kv∈F,∃u,Xc es kv.1=!u/\RelV kv.2 u
def xt {es:Array RM}:∀kv∈([]:-(Str×V)),∃u,Xc es kv.1=!u/\RelV kv.2 u:=λ_ h=>nomatch h
def bZ {es:Array RM}{F:-(Str×V)}(h:Xc es k=!u)(r:RelV v u)(t:∀kv∈F,∃u,Xc es kv.1=!u/\RelV kv.2 u):∀kv∈(k,v)::F,∃u,Xc es kv.1=!u/\RelV kv.2 u:=λkv hkv=>by
 rcases Κ.mp hkv with rfl | hkv
 ·show(Λ u h r)
 ·show t kv hkv
abbrev aoJ (F:-(Str×V))(te:TE):TE:=λσ H Q=>te σ H λy H1=>∃kv∈F,y=.str kv.1/\Q kv.2 H1
section
variable {X:Cx}
def zA {K:Ψ}{F:-(Str×V)}(c:aeT w K X.mg x F)(he:PE X e te)(hs:XB e)(hg: ~~~(Gl X x))(hw: ~~~(X.w=w))(hK: ~~~(X.K=K))(hd:autoParam (Ws x) L2.M9._auto_1) :
  PE X (.Subscript (.Name x p) e pos) (aoJ F te):=by
 subst hw;subst hK;intro pins s σ H Q I h;(revert c;show Yp λa es ep hm hl hk hf=>?_);show afs (aen (R:=λv y H2=>v=.ref a/\∃kv∈F,y=.str kv.1/\Q kv.2 H2) (u0 (v:=.ref a) hg hm rfl hd) he I ?_ λv u s2 y z H2 I2 ry rz q=>?_)
 ·change te σ H _
  show(?_);let e:(λ(y:V) H1=>V.ref a=V.ref a/\∃kv∈F,y=.str kv.1/\Q kv.2 H1)=λy H1=>∃kv∈F,y=.str kv.1/\Q kv.2 H1:=by
   simp
  rw[e];show h
 ·(revert q;show Nl λμ=>Nq λkv hkv M0 q=>?_;subst μ;subst M0)
  cases (ry);(show ι (hf kv hkv) λw' hw US=>?_);let ho:=I2.QV _ _ hl;let hT:s2.TypeIs (.ref a) "dict":=(Λ _ ho rfl)
  let hM:s2.heap.MapOf (ww X.24 X.w) a (findBy Uu es):=(IB _ es ep ho ⟨rfl,rfl,rfl⟩ rfl (λe he=>by
   (show Rh (hk.mem e (by simpa using he)) λx t e1 e2=>?_)
   show(Λ (.inr x) (by rw[e1];show oP _ _ x t) e2)) (λk=>rfl))
  show adH hT PySem.F.slot_dict_getitem.lookup (aii (jm (k:=.inr kv.1) rz) hM hw ?_) (hs _ _);show(ϕ kv.2 H2 (I2.tok _) US q)
inductive aa1 (X:Cx) (E:XK):-(Ι×Sp)->Prop
 | nil:aa1 X E []
 | cons {CX:CXT} {k:Nat} {f:Ι} {fd:Mx} {ps:-Str} {sp:Sp} {L:-(Ι×Sp)} (F:X.Fo CX k f fd ps sp) (hr:MW k X.A) (hk:NI X.K (.ref f)=true) (hb:Binds X.K fd ps []) (hx:Passes CX X E):aa1 X E L->aa1 X E ((f,sp)::L)
def aa1.get {E:XK}{L:-(Ι×Sp)}(c:aa1 X E L){f:Ι}{sp:Sp}(h:(f,sp)∈L):∃CX k fd ps,X.Fo CX k f fd ps sp/\MW k X.A/\NI X.K (.ref f)=true/\Binds X.K fd ps []/\Passes CX X E:=by
 induction c with
 | nil=>cases h
 | cons F hr hk hb hx r ih=>
  rcases Κ.mp h with e | h
  ·cases e;show(SV _ _ _ _ F hr hk hb hx)
  ·show ih h
abbrev ahp (L:-(Ι×Sp))(E:XK)(te:TE)(t:TA):TE:=λσ H Q=>te σ H λx H1=>∃f sp,x=.ref f/\(f,sp)∈L/\t σ H1 λvs H2=>sp vs H2 Q E
def FW {t:TA}{E:XK}(c:aa1 X E L)(hx:PE X (.Name x p) te)(ha:PA X (e::es) t)
  (he: ~~~(StE X e es)) (Pm: ~~~(BkA X pos es)) :
  PE X (.Call (.Name x p) (e::es) [] pos) (ahp L E te t):=by
 intro pins s σ H Q I h;show mD (No (hx pins s σ H _ I h) λv s1 zz=>Nm zz λy H1 I1 r1=>MM λf sp ey hm q1=>?_);subst ey;cases (r1);(show aeg (c.get hm) λCX k fd ps F=>QT λhr hk hb hp=>?_);show PY I.54 hk (UR (ha pos pins s1 σ H1 _ I1 q1) λus s2 vs H2 I2 r q=>⟨I2.QV,(u7 F hr hb .nil hp I2 r (by rw[Ix];show q))⟩) he Pm
end
abbrev zB:Sp:=aT λz1=>aN λH Q _=>∃c,z1=[c]/\Oi c=true/\Q (.bl true) H
abbrev Dc:Sp:=aT λl=>aN λH Q _=>Fm l 1 24 Oi/\∀H',Ω H H'->Q (.bl true) H'
abbrev zC:Sp:=aV λx=>aN λH Q _=>(x=.k4\/∃l,x=.str (S l)/\Fm l 0 200 Oi)/\∀H',Ω H H'->Q (.bl true) H'
abbrev xu:Sp:=λ_ _ _ _=>False
def OZ.never {K:Ψ}:OZ P w K mg base CX k f fd ps xu:=
 ⟨λ_ _ _ _ h=>h.36,λ_ _ _ _ _ _ _ _ _ _ _ _ _ h=>h.36⟩
abbrev T7:-Str:=["sender","key","group","shelf","taker","reader"]
abbrev Xd (o:Option (-Nat)):-Nat:=match o with
 | none=>[45]
 | some w=>61::w
abbrev aaz (p:Str)(v:V)(t:-Nat):Prop:=(p∈T7/\v=.str (S t))\/(p="word" /\ ∃o,v=wV o/\t=Xd o)\/(p∉T7/\p ≠ "word" /\ p ≠ "owner" /\ ∃n:Nat,v=.int (n:Int)/\n < 10 ^ 12/\t=MO (n:Int))
abbrev vz:Sp:=aV λz1=>aN λH Q _=>∃o,z1=wV o/\(∀w,o=!w->w.4<=1000)/\Q (.str (S (Xd o))) H
abbrev zD:Sp:=aS λp=>aV λv=>aN λH Q _=>∃t,aaz p v t/\t.4<=1000/\Q (.str (S t)) H
section
variable {s:η}
def zE {it t:Ι}{x:Υ}{Q:Υ->η->Prop}(hit:s.heap.IsTupleIter it t i)(ht:s.heap.IsTuple t items)(hx:items[i]?=!x)
  (hQ:∀h',h'.IsTupleIter it t (i+1)->Pn it s.8 h'->Q x { s with heap:=h' }):wpAny (model prog w) A (RO (.ref it)) Q E s:=by
 (show ϱ (id hit) λo ho hc hd=>?_);(revert ht;show Nq λol hol _=>Sq λnl Yg=>?_);show Ν (Nc hit.33 PySem.F.slot_tuple_iterator_next (Pj PySem.F.slot_tuple_iterator_next hit.33 PySem.F.entry_tuple_iterator_next ?_ (PySem.F.args_tuple_iterator_next_1 _)));change wpAny _ _ (field (.ref it) 0 >>= _) _ _ s;show Ν (nH ho hd rfl (Ν (nH ho hd rfl ?_)));show Ν (NR hol Yg ?_);simp only[Ϝ,hx];show Ν (QK ho hd ∅ (ύ (Λ x rfl ?_)));let hi:(s.heap.update it (OY (·.setIfInBounds 1 (rawInt (i+1))))).IsTupleIter it t (i+1):=
  (ϡ _ (Nk _ ho (RN (Oc hd _))) ((ach ..).trans hc) (by rw[Oc hd];simp[rawInt]))
 first
  | show ύ (hQ _ hi (QQ ..))
  | show hQ _ hi (QQ ..)
def rf {it t:Ι}{Q:Υ->η->Prop}(hh:A.48=none)(hit:s.heap.IsTupleIter it t i)(ht:s.heap.IsTuple t items)(hx:items[i]?=none)
  (hE:∀h' e,aim it s.8 h'->(∃o,h'.get? e=!o/\o.92=.type "StopIteration")->E (.ref e) { s with heap:=h' }):wpAny (model prog w) A (RO (.ref it)) Q E s:=by
 (show ϱ (id hit) λo ho hc hd=>?_);(revert ht;show Nq λol hol _=>Sq λnl Yg=>?_);show Ν (Nc hit.33 PySem.F.slot_tuple_iterator_next (Pj PySem.F.slot_tuple_iterator_next hit.33 PySem.F.entry_tuple_iterator_next ?_ (PySem.F.args_tuple_iterator_next_1 _)));change wpAny _ _ (field (.ref it) 0 >>= _) _ _ s;show Ν (nH ho hd rfl (Ν (nH ho hd rfl ?_)));show Ν (NR hol Yg ?_);simp only[Ϝ,hx];show Ν (afz (Ν (QK ho hd ∅ (Ν ?_))));show Ν (Q9 (Ν (ata (by first | rfl | (simp only[firstArgMember];rfl)) ?_)) (by size_fits));show Q9 (Ν (wpAny_handled ?_)) (by size_fits);rw[show A.in1.48=none from hh];show Ν (ύ (wpAny_throw (hE _ _ (((QQ ..).extBut.push _).push _) (Λ _ (ώ _ rfl) rfl))))
def De {z TI TO i2:Ι}{k1 k2:Nat}{xs ys:Array Υ}{x y a b:Υ}{Q:Υ->η->Prop}(D:Y9 z TI TO i1 i2 l1 l2)
  (hz:aaK s.8 z TI TO .none) (Wz:Pk s.8 TI (.ref i1) (.ref i2)) (WA:Pk s.8 TO a b)
  (h1:s.heap.IsTupleIter i1 l1 k1) (h2:s.heap.IsListIter i2 l2 k2) (YF:s.heap.IsTuple l1 xs) (XC:s.heap.IsList l2 ys) (hx:xs[k1]?=!x) (hy:ys[k2]?=!y)
  (hQ:∀h',aaK h' z TI TO (rawInt s.5)->Pk h' TO x y->h'.IsTupleIter i1 l1 (k1+1)->h'.IsListIter i2 l2 (k2+1)->Pk h' s.5 x y->h'.7=s.5+1->
   (∀c o,c≠z->c≠TO->c≠i1->c≠i2->s.heap.get? c=!o->h'.get? c=!o)->Q (.ref s.5) { s with heap:=h' }) :
  wpAny (model prog w) A (Wj.«zip.__next__» ⟨[.ref z],[]⟩) (λfin s'=>∃v,fin=.done (.ret v)/\Q v s') E s:=by
 change wpAny _ _ (field (.ref z) 2 >>= _) _ _ _;show Ν (nH hz rfl rfl (Ν (nH hz rfl rfl (Ν (NR Wz rfl ?_)))));show Ν (Ν (nH hz rfl rfl (ύ ?_)));show Ν (afz (Ν (nH hz rfl rfl (Ν (OA hz ∅ λg1 z1 b1=>Ν ?_)))));show Ν (Ν (aaj ?_));show Ν (zE (h1.extBut b1.34 D.i1z) (YF.extBut b1.34 D.l1z) hx λg2 t2 b2=>ύ ?_);let o2:=b2.extBut _ _ D.TOi1 (b1.extBut _ _ D.TOz WA);show Ν (NR o2 rfl (Ν (adP o2 λg3 o3 b3=>Ν (atb (ύ ?_)))));show Ν (Ν (aaj ?_));show Ν (wpAny_nextOf_list_item (((h2.extBut b1.34 D.i2z).extBut b2.34 D.i12.17).extBut b3.34 D.TOi2.17) (((XC.extBut b1.34 D.l2z).extBut b2.34 D.l2i1).extBut b3.34 D.l2TO) hy λg4 t4 b4=>ύ ?_);let o4:=b4.extBut _ _ D.TOi2 o3;show Ν (NR o4 rfl (Ν (adP o4 λg5 o5 b5=>Ν (atb (ύ (ύ ?_))))));replace o5:Pk g5 TO x y:=o5;show Ν (NR o5 rfl (Ν (wpAny_newTuple ?_)));let sz:g5.7=s.5:=by rw[b5.1,b4.1,b3.1,b2.1,b1.1]
 let z5:=b5.extBut _ _ D.TOz.17 (b4.extBut _ _ D.i2z.17 (b3.extBut _ _ D.TOz.17 (b2.extBut _ _ D.i1z.17 z1)));let k5:∀c o,c≠z->c≠TO->c≠i1->c≠i2->s.heap.get? c=!o->g5.get? c=!o:=λc o c1 c2 c3 c4 e=>b5.extBut _ _ c2 (b4.extBut _ _ c4 (b3.extBut _ _ c2 (b2.extBut _ _ c3 (b1.extBut _ _ c1 e))));let t5:=((t2.extBut b3.34 D.TOi1.17).extBut b4.34 D.i12).extBut b5.34 D.TOi1.17;let l5:=t4.extBut b5.34 D.TOi2.17;let zlt:=π z5;change wpAny _ _ (PU (.ref z) (.ref g5.7) >>= _) _ _ _;show Ν ?_;unfold PU;let z6:aaK (g5.push { cls:=.type "tuple",data:=.seq #[x,y] }) z TI TO .ellipsis:=Τ _ z5;show Ν (OA z6 ∅ λg7 z7 b7=>(OA z7 ∅ λg8 z8 b8=>?_));let up:∀c o,c≠z->g5.get? c=!o->g8.get? c=!o:=λc o c1 e=>b8.extBut _ _ c1 (b7.extBut _ _ c1 (Τ _ e));let p8:=b8.extBut _ _ (K4 zlt) (b7.extBut _ _ (K4 zlt) (ώ _ rfl));let s8:g8.7=g5.7+1:=by rw[b8.1,b7.1,bw]
 rw[sz] at z8 p8 s8;show ύ (Λ _ rfl ?_);change Q (.ref g5.7) _;rw[sz];(revert t5;show ϭ λe1 q1 r1=>?_);(revert l5;show ϭ λe2 q2 r2=>?_);show hQ g8 z8 (up _ _ D.TOz o5) (Λ e1 (up _ _ D.i1z q1) r1) (Λ e2 (up _ _ D.i2z q2) r2) p8 s8 λc o c1 c2 c3 c4 e=>up c o c1 (k5 c o c1 c2 c3 c4 e)
def Df {z TI TO i2:Ι}{k1 k2:Nat}{xs ys:Array Υ}{x y a b:Υ}{Q:Option Υ->η->Prop}(D:Y9 z TI TO i1 i2 l1 l2)
  (hz:aaK s.8 z TI TO .none) (Wz:Pk s.8 TI (.ref i1) (.ref i2)) (WA:Pk s.8 TO a b)
  (h1:s.heap.IsTupleIter i1 l1 k1) (h2:s.heap.IsListIter i2 l2 k2) (YF:s.heap.IsTuple l1 xs) (XC:s.heap.IsList l2 ys) (hx:xs[k1]?=!x) (hy:ys[k2]?=!y)
  (hQ:∀h',aaK h' z TI TO (rawInt s.5)->Pk h' TO x y->h'.IsTupleIter i1 l1 (k1+1)->h'.IsListIter i2 l2 (k2+1)->Pk h' s.5 x y->h'.7=s.5+1->
   (∀c o,c≠z->c≠TO->c≠i1->c≠i2->s.heap.get? c=!o->h'.get? c=!o)->Q (!.ref s.5) { s with heap:=h' }):wpAny (model prog w) A (pyNext (.ref z)) Q E s:=by
 let hT:s.TypeIs (.ref z) "zip":=(Λ _ hz rfl)
 show Ν (UI (Nc hT PySem.F.slot_zip_next (Pj PySem.F.slot_zip_next hT PySem.F.entry_zip_next
  (De D hz Wz WA h1 h2 YF XC hx hy λh' a1 a2 a3 a4 a5 a6 a7=>ύ (hQ h' a1 a2 a3 a4 a5 a6 a7)) (PySem.F.args_zip_next_1 _))))
def FX {z TI TO i2:Ι}{k1 k2:Nat}{xs:Array Υ}{a b:Υ}{Q:Option Υ->η->Prop}(hh:A.48=none)(D:Y9 z TI TO i1 i2 l1 l2)
  (hz:aaK s.8 z TI TO .none) (Wz:Pk s.8 TI (.ref i1) (.ref i2)) (WA:Pk s.8 TO a b) (h1:s.heap.IsTupleIter i1 l1 k1) (YF:s.heap.IsTuple l1 xs) (hx:xs[k1]?=none)
  (hQ:∀h',(∀c o,c≠z->c≠TO->c≠i1->c≠i2->s.heap.get? c=!o->h'.get? c=!o)->Q none { s with heap:=h' }):wpAny (model prog w) A (pyNext (.ref z)) Q E s:=by
 let hT:s.TypeIs (.ref z) "zip":=(Λ _ hz rfl)
 show Ν (UI (Nc hT PySem.F.slot_zip_next (Pj PySem.F.slot_zip_next hT PySem.F.entry_zip_next ?_ (PySem.F.args_zip_next_1 _))));change wpAny _ _ (field (.ref z) 2 >>= _) _ _ _;show Ν (nH hz rfl rfl (Ν (nH hz rfl rfl (Ν (NR Wz rfl ?_)))));show Ν (Ν (nH hz rfl rfl (ύ ?_)));show Ν (afz (Ν (nH hz rfl rfl (Ν (OA hz ∅ λg1 z1 b1=>Ν ?_)))));show Ν (Ν (aaj (Ν (rf hh (h1.extBut b1.34 D.i1z) (YF.extBut b1.34 D.l1z) hx λg2 e b2 he=>?_))));(revert he;show ϭ λoe hoe TJ=>?_);let z2:=b2 _ _ D.i1z.17 z1;let ez:e≠z:=λx=>by subst x;rw[z2] at hoe;cases hoe;simp at TJ
 show OA z2 ∅ λg3 _ b3=>Ν (ain (Λ oe (b3.extBut _ _ ez hoe) TJ) alY ?_);show ύ (hQ _ λc o c1 _ c3 _ x=>b3.extBut _ _ c1 (b2 _ _ c3 (b1.extBut _ _ c1 x)))
end
section
variable {s:η}
abbrev zt1 (h:be)(l1:Ι):be:=h.push { cls:=.type "tuple_iterator",data:=.fields #[.ref l1,.int 0 0] }
abbrev zt2 (h:be)(l1 l2:Ι):be:=(zt1 h l1).push { cls:=.type "list_iterator",data:=.fields #[.ref l2,.int 0 0] }
abbrev zt3 (h:be)(l1 l2:Ι):be:=(zt2 h l1 l2).push { cls:=.type "tuple",data:=.seq #[.ref h.7,.ref (zt1 h l1).7] }
abbrev zt4 (h:be)(l1 l2:Ι):be:=(zt3 h l1 l2).push { cls:=.type "tuple",data:=.seq #[.none,.none] }
abbrev zt5 (h:be)(l1 l2:Ι):be:=(zt4 h l1 l2).push { cls:=.type "zip",data:=.fields #[.none,.bool false,.bool false,.ref (zt2 h l1 l2).7,.ref (zt3 h l1 l2).7] }
def zF (l1 l2:Ι)(xs ys:Array Υ) :
  alX (Wj.«zip.__new__» ⟨[.type "zip",.ref l1,.ref l2],[]⟩) (λ_ R s=>s.heap.IsTuple l1 xs/\s.heap.IsList l2 ys/\R (.ok (.ret (.ref (zt4 s.8 l1 l2).7))) { s with heap:=zt5 s.8 l1 l2 }):=
 .of_wp λprog w A R s h=>by
  obtain⟨hp,g,d,tk,os⟩:=s;(revert h;show N8 λYF XC h=>?_);let YE:=sub_zip;let hL2:ail (afy ⟨hp.push { cls:=.type "tuple_iterator",data:=.fields #[.ref l1,.int 0 0] },g,d,tk,os⟩) l2 ys:=alZ XC _
  wp_walk using afu YF,MR hL2
  show(Λ _ rfl h)
def Dg {xs ys:Array Υ}{Q:Υ->η->Prop}(YF:s.heap.IsTuple l1 xs)(XC:s.heap.IsList l2 ys)
  (h:∀h',aaK h' (s.5+4) (s.5+2) (s.5+3) .none->Pk h' (s.5+2) (.ref s.5) (.ref (s.5+1))->
   Pk h' (s.5+3) .none .none->h'.IsTupleIter s.5 l1 0->h'.IsListIter (s.5+1) l2 0->
   (∀c o,s.heap.get? c=!o->h'.get? c=!o)->Q (.ref (s.5+4)) { s with heap:=h' }):wpAny (model prog w) A (call (.type "zip") [.ref l1,.ref l2]) Q E s:=by
 show callType_new PySem.F.called_zip "!" (PySem.F.typeCall_zip_2 _ _) (PySem.F.newCall_zip_2 _ _) (λobj=>PySem.F.args_object_init_3 obj _ _) PySem.F.entry_zip_new (zF l1 l2 xs ys) ⟨YF,XC,?_⟩;let z1:(zt1 s.8 l1).7=s.5+1:=bw ..;let z2:(zt2 s.8 l1 l2).7=s.5+2:=by unfold zt2;rw[bw,z1]
 let z3:(zt3 s.8 l1 l2).7=s.5+3:=by unfold zt3;rw[bw,z2]
 let z4:(zt4 s.8 l1 l2).7=s.5+4:=by unfold zt4;rw[bw,z3]
 let g5:(zt5 s.8 l1 l2).get? (zt4 s.8 l1 l2).7=!_:=ώ _ rfl;let g4:(zt5 s.8 l1 l2).get? (zt3 s.8 l1 l2).7=!_:=Τ _ (ώ _ rfl);let g3:(zt5 s.8 l1 l2).get? (zt2 s.8 l1 l2).7=!_:=Τ _ (Τ _ (ώ _ rfl));let g2:(zt5 s.8 l1 l2).get? (zt1 s.8 l1).7=!_:=Τ _ (Τ _ (Τ _ (ώ _ rfl)));let g1:(zt5 s.8 l1 l2).get? s.5=!_:=Τ _ (Τ _ (Τ _ (Τ _ (ώ _ rfl))));rw[z2,z3,z4] at g5;rw[z1,z2] at g3;rw[z3] at g4;rw[z1] at g2;rw[z4];show⟨(Λ _ g5 rfl),h _ g5 g3 g4 (ϡ _ g1 rfl rfl) (ϡ _ g2 rfl rfl) λc o x=>Τ _ (Τ _ (Τ _ (Τ _ (Τ _ x))))⟩
end
abbrev ahq (K:Ψ)(a b:Ι):It:=
 ⟨λi H=>∃xs ys x y,Of K H a xs/\G' K H b ys/\xs[i]?=!x/\ys[i]?=!y,
  λi H v H'=>∃T x y,v=.ref T/\H T=none/\H'=upd H T (.tup [x,y])/\(∀xs,Of K H a xs->xs[i]?=!x)/\∀ys,G' K H b ys->ys[i]?=!y,
  λi H=>∃xs ys,Of K H a xs/\G' K H b ys/\xs.4<=i⟩
def FY (I:Inv X pins σ H s)(h:Of X.K H a xs)(f:Rk X pins H b):a≠b:=by
 intro z;subst z;rcases h with h | ⟨o,fT,n,hk,_⟩
 ·rcases h with h | ⟨od,h⟩
  ·rw[f.1] at h;cases h
  ·rw[f.1] at h;cases h
 ·let e:=I.ok.mod.kin _ _ hk
  rcases f.2.2.2.1 with q | q
  ·show I.ok.Yv a o e q
  ·show absurd (Ϥ (π (I.ok.bs a o e).1) q) (Nj _)
def Dh {P:ϯ}{K:Ψ}(a b z TI TO i1 i2:Ι)(h12:i1≠i2)(hTT:TI≠TO) :
  Turn P w K (.Tuple elts k0 pos) (ahq K a b) [z,TI,TO,i1,i2] z (λi h=>aaK h z TI TO .none/\Pk h TI (.ref i1) (.ref i2)/\(∃x y,Pk h TO x y)/\h.IsTupleIter i1 a i/\h.IsListIter i2 b i) where
 mem:=by simp
 obj:=λi h st c hc=>by
  (revert st;show Qy λhz Wz μ M0 zz3=>?_;obtain ⟨x,y,WA⟩:=μ;obtain ⟨o1,e1,c1,d1⟩:=M0;obtain ⟨o2,e2,c2,d2⟩:=zz3);simp only[Κ,Μ,χ] at hc;rcases hc with rfl | rfl | rfl | rfl | rfl
  ·show(Λ _ hz (λv q=>by cases q))
  ·show(Λ _ Wz (λv q=>by cases q))
  ·show(Λ _ WA (λv q=>by cases q))
  ·show(Λ _ e1 (λv q=>by rw[d1] at q;cases q))
  ·show(Λ _ e2 (λv q=>by rw[d2] at q;cases q))
 keep:=λi h h' st k=>by
  (revert st;show Qy λhz Wz μ M0 h2=>?_;obtain ⟨x,y,WA⟩:=μ;obtain ⟨o1,e1,r1⟩:=M0);show⟨k _ ∅ _ hz,k _ ∅ _ Wz,(Ny x y (k _ ∅ _ WA)),(Λ o1 (k _ ∅ _ e1) r1),h2.at λo e=>k _ ∅ o e⟩
 item:=by
  intro X hP hw hK hc i pins s σ H E I hf st hg;subst hP hw hK;(revert st;show Qy λhz Wz μ h1 h2=>?_;obtain ⟨x0,y0,WA⟩:=μ);(revert hg;show N9 λxs ys x y hx=>N8 λhy ex ey=>?_);(show ϱ (I.tuple hx) λfT rv p _=>?_);(show ϱ (I.list hy) λTZ rv' p' _=>?_);(show ι (rv.get ex) λu hu ru=>?_);(show ι (rv'.get ey) λu' hu' ru'=>?_);let hp:=p;let D:Y9 z TI TO i1 i2 a b:=by
   (show ϱ (id h1) λo1 e1 c1 d1=>?_);(show ϱ (id h2) λo2 e2 c2 d2=>?_);(show ϱ (id hp) λoa ea ca _=>?_);(show ϱ (id p'.21) λob eb cb _=>?_);let ne:∀{c d:Ι} {o o':Obj},s.heap.get? c=!o->s.heap.get? d=!o'->o.92≠o'.92->c≠d:=λ{c d o o'} h h' n q=>by
    subst q;rw[h] at h';cases h';show n rfl
   show⟨ne Wz hz ∅,ne WA hz ∅,ne e1 hz (by rw[c1];simp),ne e2 hz (by rw[c2];simp),hTT,ne Wz e1 (by rw[c1];simp),ne Wz e2 (by rw[c2];simp),ne WA e1 (by rw[c1];simp),ne WA e2 (by rw[c2];simp),h12,
    ne ea hz (by rw[ca];simp),FY I hx (hf TO ∅),ne ea e1 (by rw[ca,c1];simp),ne ea e2 (by rw[ca,c2];simp),ne eb hz (by rw[cb];simp),ne eb WA (by rw[cb];simp),ne eb e1 (by rw[cb,c1];simp),ne eb e2 (by rw[cb,c2];simp)⟩
  show Df D hz Wz WA h1 h2 hp p'.21 (by simpa using hu) (by simpa using hu') λh' a1 a2 a3 a4 a5 a6 hk=>?_;show(Λ _ rfl (wpAny_letOwnedTupleGo_zip a1 λh'' aoM sb=>?_));let I1:=I.RT (t':=s.29) (λc o hc e=>sb.extBut _ _ (λq=>hc (by simp[q])) (hk c o (λq=>hc (by simp[q])) (λq=>hc (by simp[q])) (λq=>hc (by simp[q])) (λq=>hc (by simp[q])) e)) hf;let I2:Inv X pins σ (upd H s.5 (.tup [x,y])) { s with heap:=h'' }:=I1.acM (I.Xx (δ _) I.72) ⟨(by show 2<=sizeLine;decide),(Λ ([u,u']) (.cons ru (.cons ru' .nil)) (ϡ _ (sb.extBut _ _ (K4 (π hz)) a5) rfl (N' _ rfl)))⟩ (λ_ _=>trivial);show(TV (.ref s.5) _ I2 rfl (IB _ x y rfl I.72 rfl (λzs hq=>by rw[I.tL hq hx];show ex) (λzs hq=>by rw[I.mf hq hy];show ey)) ?_ (λc hc=>?_))
  ·show⟨aoM,sb.extBut _ _ D.TIz (hk _ _ D.TIz D.TITO D.TIi1 D.TIi2 Wz),(Ny u u' (sb.extBut _ _ D.TOz a2)),a3.extBut sb.34 D.i1z,a4.extBut sb.34 D.i2z⟩
  ·let RS:c < s.5:=by
    (revert h1;show ϭ λo1 e1 _=>?_);(revert h2;show ϭ λo2 e2 _=>?_);simp only[Κ,Μ,χ] at hc;rcases hc with rfl | rfl | rfl | rfl | rfl
    ·show π hz
    ·show π Wz
    ·show π WA
    ·show π e1
    ·show π e2
   rw[ag (Ϧ RS)];show(hf c hc).1
 done:=by
  intro X hP hw hK hc i pins s σ H E I hf st hg;subst hP hw hK;(revert st;show Qy λhz Wz μ h1 h2=>?_;obtain ⟨x0,y0,WA⟩:=μ);(revert hg;show MM λxs ys hx hy aj3=>?_);(show ϱ (I.tuple hx) λfT rv p _=>?_);(show ϱ (I.list hy) λTZ rv' p' _=>?_);let hp:=p;let D:Y9 z TI TO i1 i2 a b:=by
   (show ϱ (id h1) λo1 e1 c1 d1=>?_);(show ϱ (id h2) λo2 e2 c2 d2=>?_);(show ϱ (id hp) λoa ea ca _=>?_);(show ϱ (id p'.21) λob eb cb _=>?_);let ne:∀{c d:Ι} {o o':Obj},s.heap.get? c=!o->s.heap.get? d=!o'->o.92≠o'.92->c≠d:=λ{c d o o'} h h' n q=>by
    subst q;rw[h] at h';cases h';show n rfl
   show⟨ne Wz hz ∅,ne WA hz ∅,ne e1 hz (by rw[c1];simp),ne e2 hz (by rw[c2];simp),hTT,ne Wz e1 (by rw[c1];simp),ne Wz e2 (by rw[c2];simp),ne WA e1 (by rw[c1];simp),ne WA e2 (by rw[c2];simp),h12,
    ne ea hz (by rw[ca];simp),FY I hx (hf TO ∅),ne ea e1 (by rw[ca,c1];simp),ne ea e2 (by rw[ca,c2];simp),ne eb hz (by rw[cb];simp),ne eb WA (by rw[cb];simp),ne eb e1 (by rw[cb,c1];simp),ne eb e2 (by rw[cb,c2];simp)⟩
  let l1:=rv.4;show FX (k2:=0) (I.ok.hd hc) D hz Wz WA h1 hp (by simp;lk) λh' hk=>⟨rfl,(I.RT (λc o hc e=>hk c o (λq=>hc (by simp[q])) (λq=>hc (by simp[q])) (λq=>hc (by simp[q])) (λq=>hc (by simp[q])) e) hf)⟩
 self:=λ_ _ _ _ _ st h=>aip st.1 h
section
variable {X:Cx}
abbrev akB (K:Ψ)(ta:TA):TI:=λσ H R=>ta σ H λvs H1=>∃a b xs ys,vs=[.ref a,.ref b]/\Of K H1 a xs/\G' K H1 b ys/\R (ahq K a b) H1
def Ic {K:Ψ}{a b:tz}{ta:TA}(hg:Gl X "zip")(hm:X.mg "zip"=none)(ha:PA X [a,b] ta)(hs: ~~~(starEach [a,b] X.9=[(false,eval a X.9),(false,eval b X.9)]))(hs2: ~~~(starEach [b] X.9=[(false,eval b X.9)]))
  (hK: ~~~(X.K=K)):PI X (.Tuple elts k0 aee) (.Call (.Name "zip" p) [a,b] [] pos) (akB K ta):=by
 subst hK;intro pins s σ H R I h;show agk (eY I hg hm boot_zip (bn (UR (ha pos pins s σ H _ I h) λus s1 vs H1 I1 r1 q1=>?_) (by rw[hs,hs2]) (by rw[hs2];rfl)));(revert q1;show N9 λl1 l2 xs ys μ=>N8 λhx hy q=>?_;subst μ);(show Nm (vals2 r1) λu v μ ru rv=>?_;subst μ);cases ru;cases rv;(show ϱ (I1.tuple hx) λfT rx px _=>?_);(show ϱ (I1.list hy) λTZ ry py _=>?_);show Dg px py.21 λh' z1 z2 z3 z4 z5 hk=>aip z1 (QA _ _ _ _ H1 rfl (I1.kept hk) (Dh l1 l2 _ _ _ _ _ (Ϧ (MX _)) (Ϧ (MX _))) ⟨z1,z2,(Ny _ _ z3),z4,z5⟩ (λc hc=>?_) q);let RS:s1.5<=c:=by
  simp only[Κ,Μ,χ] at hc;rcases hc with rfl | rfl | rfl | rfl | rfl<;>lk
 show I1.Xx RS (I1.lu.fresh RS)
end
def Di {K:Ψ}(Pv:Nat->St->Hp->Prop)(hxy:xs.4=ys.4)(h0:Pv 0 σ H)(hl:∀i σ H,i<=xs.4->Pv i σ H->Of K H a xs/\G' K H b ys)
  (hs:∀i x y T σ H,xs[i]?=!x->ys[i]?=!y->H T=none->Pv i σ H->g (.ref T) σ (upd H T (.tup [x,y])) λσ2 H2=>tb { D with nx:=Pv (i+1),ct:=Pv (i+1),bk:=D.nx } σ2 H2)
  (hd:∀σ H,Pv xs.4 σ H->D.nx σ H):XD (ahq K a b) g tb D σ H:=by
 show(Λ (λi m σ H=>m=xs.4 - i/\i<=xs.4/\Pv i σ H) (ϡ _ rfl (Ϡ _) h0) ?_)
 rintro i m σ H ⟨rfl,hi,p⟩
 obtain⟨lx,ly⟩:=hl i σ H hi p
 by_cases OM:i < xs.4
 ·show .inr ⟨(UO xs ys (xs[i]) (ys[i]'()) lx ly ∅ ∅),(Λ (Pv (i+1)) (λσ' H' p'=>(MD (xs.4 - (i+1)) () rfl OM p')) (λv H' y=>?_))⟩
  (revert y;show QS λT x y μ hT M0 h1 h2=>?_;subst μ;subst M0);show hs i x y T σ _ (h1 xs lx) (h2 ys ly) hT p
 ·let e:i=xs.4:=by lk
  subst e;show .inl ⟨(ϕ xs ys lx ly (δ _)),hd σ H p⟩
def FZ (z:Str)(l:-Str):inV (.str z) (l.map V.str)=decide (z∈l):=by
 unfold inV
 induction l with
 | nil=>rfl
 | cons x r ih=>
  rw[Ϗ,NU,ih];show((x == z) || decide (z∈r))=_
  by_cases e:z=x
  ·subst e;simp
  ·let e1:(x == z)=false:=by rw[Np];show ψ e
   rw[e1];simp[e]
noncomputable abbrev Part:=Str×V×-Nat
abbrev RC (n:Str)(ps:-Part):-(Key×V):=(.inr "event",.str n)::ps.map λx=>(.inr x.1,x.2.1)
structure Sy (n:Str)(ps:-Part):Prop where
 part:∀x∈ps,aaz x.1 x.2.1 x.2.2/\x.2.2.4<=201/\∀c∈x.2.2,c < 128
 nd:((ϒ "event")::ps.map (·.1)).14
 len:ps.4<=7
abbrev Xe (n:-Nat)(k:Nat):-Part:=[("sender",.str (S n),n),("life",.int (k:Int),MO (k:Int))]
abbrev VG (n:-Nat)(k dd r pl:Nat)(key:-Nat)(wo:Option (-Nat)):-Part:=
 [("sender",.str (S n),n),("number",.int (k:Int),MO (k:Int)),("deed",.int (dd:Int),MO (dd:Int)),("row",.int (r:Int),MO (r:Int)),("place",.int (pl:Int),MO (pl:Int)),("key",.str (S key),key),("word",wV wo,Xd wo)]
inductive EvN (ph pp:Ι):Str->-Str->Ι->Prop
 | GM:EvN ph pp "hail" ["sender","life"] ph
 | put:EvN ph pp "put" ["sender","number","deed","row","place","key","word"] pp
abbrev Je (ph pp:Ι):Sp:=aS λn=>aR λp=>aN λH Q _=>∃pa ps,H p=!(.lst (ps.map λx=>x.2.1))/\EvN ph pp n (ps.map (·.1)) pa/\Sy n ps/\
 ∀D H',H D=none->Ω H H'->H' D=!.dK (RC n ps)->Q (.ref D) H'
abbrev Jf (ph pp:Ι):Sp:=aR λD=>aN λH Q _=>∃n pa ps,H D=!.dK (RC n ps)/\EvN ph pp n (ps.map (·.1)) pa/\Sy n ps/\
 ∀b H',Ω H H'->okB b->Q (.str (S b)) H'
def Dj (h:k∉ϓ.map (·.1)):putK ϓ k v=ϓ++[(k,v)]:=by
 unfold putK;rw[Φ];rw[acf]
 rintro⟨x,hx,e⟩
 show h (ω.mpr (Λ x hx (by simpa using e)))
def og {z:-Nat}{c:Nat}:∀{ls:-(-Nat)},c∈wS z ls->c∈z\/∃l∈ls,c∈l
 | [],h=>by simp[wS] at h
 | [a],h=>.inr (Λ a ∅ (by simpa [wS] using h))
 | a::b::r,h=>by
  let h':c∈a++(z++wS z (b::r)):=by simpa [wS] using h
  rcases Ξ.mp h' with h1 | h1
  ·show .inr (Λ a ∅ h1)
  ·rcases Ξ.mp h1 with h2 | h2
   ·show .inl h2
   ·rcases og h2 with q | ⟨l,hl,q⟩
    ·show .inl q
    ·show .inr (Λ l (θ _ hl) q)
def rg {z:-Nat}{m:Nat}:∀{ls:-(-Nat)},(∀l∈ls,l.4<=m)->(wS z ls).4<=ls.4 * (m+z.4)
 | [],_=>by simp[wS]
 | [a],h=>by have:=h a ∅;simp[wS];lk
 | a::b::r,h=>by
  let h1:=h a ∅;let h2:=rg (z:=z) (ls:=b::r) λl hl=>h l (θ _ hl);let e:wS z (a::b::r)=a++(z++wS z (b::r)):=by simp[wS]
  rw[e];simp only[Χ,ς] at h2 ⊢;rw[Nat.add_mul (r.4+1) 1];lk
def Jg {a:-Nat}(h:∀c∈a,c < 128):∀c∈gd a,c < 128:=by
 intro c hc;(show ι (UJ.mp hc) λx hx hc=>?_);have:=h x hx;unfold gd1 at hc
 split at hc
 ·simp at hc;lk
 ·split at hc
  ·simp at hc;lk
  ·simp at hc;lk
def akC {n:-Nat}(ok:Sy m ps)(hn:n.4<=8)(hc:∀c∈n,c < 128):okB (wS [59] ((n::ps.map λx=>x.2.2).map gd)):=by
 constructor
 ·intro c h
  rcases og h with q | ⟨l,hl,q⟩
  ·simp at q;lk
  ·(show ι (ω.mp hl) λa ha μ=>?_;subst μ)
   show Jg ?_ c q;rcases Κ.mp ha with rfl | ha
   ·show hc
   ·(show ι (ω.mp ha) λx hx μ=>?_;subst μ)
    show(ok.part x hx).2.2
 ·let h1:=rg (z:=[59]) (m:=402) (ls:=(n::ps.map λx=>x.2.2).map gd) (λl hl=>by
   (show ι (ω.mp hl) λa ha μ=>?_;subst μ);have:=vx a;rcases Κ.mp ha with rfl | ha
   ·lk
   ·(show ι (ω.mp ha) λx hx μ=>?_;subst μ)
    have:=(ok.part x hx).2.1
    lk)
  let h2:=ok.25;simp at h1 ⊢;lk
def zG {K:Ψ}(hl:∀H,Of K H a xs)(hn:xs.4<=sizeLine)(f:V->V)
  (he:∀x H',x∈xs->Ω H H'->∀Qe,(∀OP,Ω H' OP->Qe (f x) OP)->te (some x::σ) H' Qe)
  (hd:∀D H',H D=none->Ω H H'->H' D=!.lst (xs.map f)->Q (.ref D) H'):Sj (Itt K a) UT te σ H Q:=λD hD=>
 kg xs.4 hn hD (λi=>xs.getD i .k4) (λi=>f (xs.getD i .k4)) (λ_=>true) (λH' s=>(Λ xs (hl H') (δ _)))
  (λi H' s h=>(cr xs (xs[i]) (hl H') ∅))
  (λi H' x OP s hi y=>by
   obtain⟨rfl,z⟩:=y;show⟨rfl,?_⟩;rw[ε,z xs (hl _)]
   rfl)
  (λi H' h s Qt q=>q H' (Ω.refl _))
  (λi H' h hp s Qe q=>he _ H' (by rw[ε,Ε h];show ON h) s Qe q)
  (λH' s h=>hd D H' hD s (by
   rw[h];congr 2;rw[dh];show QP ∅ λi h1 h2=>?_;simp at h1 h2 ⊢;rw[Ε h2]
   rfl))
def rh:∀{ps:-Part} {x:Part},(ps.map (·.1)).14->x∈ps->lc (ps.map λy=>((.inr y.1:Key),y.2.1)) (.inr x.1)=!x.2.1
 | y::r,x,nd,hx=>by
  rw[Ϗ,ϊ] at nd;rw[Ϗ];rcases Κ.mp hx with rfl | hx
  ·show cf rfl
  ·rw[bK (λq=>nd.1 (by rw[At q];show ω.mpr (Λ x hx rfl)))]
   show rh nd.2 hx
abbrev Xg (ps:-Part):V->V:=λv=>match v with
 | .str p=>.str (S (((ps.find? λx=>decide (x.1=p)).map λx=>x.2.2).getD []))
 | v=>v
def rj:∀{ps:-Part} {x:Part},(ps.map (·.1)).14->x∈ps->Xg ps (.str x.1)=.str (S x.2.2)
 | y::r,x,nd,hx=>by
  rw[Ϗ,ϊ] at nd;rcases Κ.mp hx with rfl | hx
  ·simp[Xg]
  ·let h1:y.1≠x.1:=λq=>nd.1 (by rw[q];show ω.mpr (Λ x hx rfl))
   have:=rj nd.2 hx;simp only[Xg,Ni,h1,decide_false] at this ⊢;show this
def Dk {ps:-Part}(nd:(ps.map (·.1)).14):((ps.map (·.1)).map V.str).map (Xg ps)=tx (ps.map λx=>x.2.2):=by
 unfold tx;rw[ϣ,ϣ,ϣ];show NL λx hx=>rj nd hx
abbrev Om (l:-Nat):Prop:=Fm l 1 12 inN
abbrev keyOk (l:-Nat):Prop:=Fm l 1 24 Oi
abbrev T8 (o:Option (-Nat)):Prop:=∀w,o=!w->Fm w 0 200 Oi
abbrev xv:Sp:=aR λp=>aN λH Q _=>∃ls,H p=!.lst (tx ls)/\ls.4<=9/\(∀l∈ls,Om l/\l.4<=1000)/\∀H',Ω H H'->Q .k4 H'
abbrev w3V (x:Int×Int×Int):-V:=[.int x.1,.int x.2.1,.int x.2.2]
abbrev vA:Sp:=aR λp=>aN λH Q _=>∃(xs:-(Int×Int×Int)),ϲ H p (xs.map w3V)/\xs.4<=9/\(∀x∈xs,x.2.1<=x.1/\x.1<=x.2.2)/\∀H',Ω H H'->Q .k4 H'
abbrev vB:Sp:=aT λk=>aV λz2=>aN λH Q _=>∃o,z2=wV o/\keyOk k/\k.4<=1000/\T8 o/\(∀w,o=!w->w.4<=1000)/\∀H',Ω H H'->Q .k4 H'
abbrev xw:Sp:=λvs H Q _=>∃b,vs=[.bl b]/\Q .k4 H
structure CK where
 C:Ι
 S:Ι
 B:Ι
 H:Ι
 R:Ι
 N:Ι
 D:Ι
 Rd:Ι
set_option genInjectivity false in
structure CA where
 c:Ι
 st:Ι
 bk:Ι
 bl:Ι
 sh:Ι
 shl:Ι
 rl:Ι
 sn:Ι
 l:Ι
 t:Ι
 p:Ι
 de:Ι
 dl:Ι
 bz:Ι
 gr:Ι
 rd:Ι
 ra:Ι
 rb:Ι
 rs:-Ι
 ds:-Ι
structure CM where
 xs:-PN
 Ms:-MB
 S:Q1
 ls:-(-Nat)
abbrev CA.fix (A:CA):-Ι:=[A.c,A.st,A.bk,A.bl,A.sh,A.73,A.rl,A.sn,A.l,A.t,A.p,A.de,A.dl,A.bz,A.gr,A.rd,A.ra,A.rb]++(A.rs++A.ds)
abbrev stF (A:CA):-(Str×V):=[("shelves",.ref A.sh),("rows",.ref A.rl),("senders",.ref A.sn),("deeds",.ref A.de),("groups",.ref A.gr),("readers",.ref A.rd),("turn",.int 0)]
abbrev ceF (A:CA):-(Str×V):=[("state",.ref A.st),("book",.ref A.bk)]
structure ZD (k:CK)(H:Hp)(A:CA)(Z:-Ι)(M:CM):Prop where
 P3:∃dx,H A.st=!.ins k.S dx (stF A)
 WB:T5 k.H H A.sh A.73 M.xs
 VH:NV M.xs
 Qi:H A.rl=!.lst (A.rs.map V.ref)
 row:∀(i:Nat) r d m,A.rs[i]?=!r->A.ds[i]?=!d->M.Ms[i]?=!m->ND k.R H r d m
 len:A.rs.4=Ϩ M.xs M.xs.4
 lend:A.ds.4=A.rs.4
 On:M.Ms.4=A.rs.4
 snd:Mv k.N H A.sn A.l A.t A.p Z M.S
 dee:dL k.D 0 H A.de A.dl A.bz [] QW
 rdr:Sx k.Rd H A.rd A.ra A.rb read0
 grp:H A.gr=!.dK []
 Sz:A.bl∈Z/\A.rl∈Z/\A.73∈Z/\A.dl∈Z
 zo:∀b∈Z,∃o,H b=!o
 nd:A.fix.14
structure R4 (k:CK)(H:Hp)(A:CA)(Z:-Ι)(M:CM):Prop where
 QL:∃dx,H A.c=!.ins k.C dx (ceF A)
 book:NW k.B H A.bk A.bl M.ls
 st:ZD k H A Z M
def dE (c:ϛ B H H')(hb:∀b∈B,∃o,H' b=!o):∀b,(∃o,H b=!o)->∃o,H' b=!o:=λb zz=>ags zz λo e=>by
 by_cases m:b∈B
 ·show hb b m
 ·show⟨o,c.keep _ _ e m⟩
def mi {l:-Ι}{x:Ι}(i:Nat)(h:l[i]?=!x):x∈l:=Δ h
def ZD.im {A:CA}(h:ZD k H A Z M)(c:ϛ B H H')(hB:∀b∈B,b∉A.fix)(hz:∀b∈B,b∈Z\/∀xs,H b≠!.lst xs)(hs:∀b∈B,∃o,H' b=!o):ZD k H' A Z M:=by
 let n:∀{a:Ι},a∈A.fix->a∉B:=λha hb=>hB _ hb ha;let f:∀{a:Ι},a∈[A.c,A.st,A.bk,A.bl,A.sh,A.73,A.rl,A.sn,A.l,A.t,A.p,A.de,A.dl,A.bz,A.gr,A.rd,A.ra,A.rb]->a∉B:=λha=>n (Η _ ha);obtain⟨dx,e⟩:=h.P3
 show⟨⟨dx,c.keep _ _ e (f (mi 1 rfl))⟩,h.WB.im c (f (mi 4 rfl)) (f (mi 5 rfl)),h.VH,c.keep _ _ h.Qi (f (mi 6 rfl)),
  λi r d m h1 h2 h3=>(h.row i r d m h1 h2 h3).im c (n (Β _ (Η _ (Δ h1)))) (n (Β _ (Β _ (Δ h2)))),h.25,h.43,h.On,
  h.snd.im c (f (mi 7 rfl)) (f (mi 8 rfl)) (f (mi 9 rfl)) (f (mi 10 rfl)) hz,h.dee.im c (f (mi 11 rfl)) (f (mi 12 rfl)) (f (mi 13 rfl)) (λ_ hu=>nomatch hu),h.rdr.im c (f (mi 15 rfl)) (f (mi 16 rfl)) (f (mi 17 rfl)),c.keep _ _ h.grp (f (mi 14 rfl)),h.Sz,λb hb=>dE c hs b (h.zo b hb),h.nd⟩
def R4.im {A:CA}(h:R4 k H A Z M)(c:ϛ B H H')(hB:∀b∈B,b∉A.fix)(hz:∀b∈B,b∈Z\/∀xs,H b≠!.lst xs)(hs:∀b∈B,∃o,H' b=!o):R4 k H' A Z M:=by
 let f:∀{a:Ι},a∈[A.c,A.st,A.bk,A.bl,A.sh,A.73,A.rl,A.sn,A.l,A.t,A.p,A.de,A.dl,A.bz,A.gr,A.rd,A.ra,A.rb]->a∉B:=λha hb=>hB _ hb (Η _ ha);obtain⟨dx,e⟩:=h.QL;obtain⟨dx2,e2⟩:=h.book.30;show⟨⟨dx,c.keep _ _ e (f ∅)⟩,⟨⟨dx2,c.keep _ _ e2 (f ∅)⟩,c.keep _ _ h.book.28 (f ∅)⟩,h.st.im c hB hz hs⟩
def R4.same {A:CA}(h:R4 k H A Z M)(s:Ω H H'):R4 k H' A Z M:=h.im (B:=[]) (ϛ.of_same s) (λ_ z=>nomatch z) (λ_ z=>nomatch z) (λ_ z=>nomatch z)
def xx (A:CA):(stF A).lookup (ϒ "shelves")=!.ref A.sh:=rfl
def cC (A:CA):(ceF A).lookup (ϒ "state")=!.ref A.st:=rfl
def F5 (A:CA):(ceF A).lookup (ϒ "book")=!.ref A.bk:=rfl
abbrev CM.GM (M:CM)(n:Str):CM:={ M with S:=M.S.GM n }
abbrev CM.put (M:CM)(i:Nat)(m:MB)(x:Oa)(n:Str)(k:Int):CM:={ M with Ms:=M.Ms.set i (m.add x),S:=M.S.note n k ((i:Int),m.19) }
def CA.Kt {A:CA}(nd:A.fix.14)(ha:a∈[A.c,A.st,A.bk,A.bl,A.sh,A.73,A.rl,A.sn,A.l,A.t,A.p,A.de,A.dl,A.bz,A.gr,A.rd,A.ra,A.rb]):a∉A.rs/\a∉A.ds:=by
 have:=(υ.mp nd).2.2;show⟨λz=>this a ha a (Η _ z) rfl,λz=>this a ha a (Β _ z) rfl⟩
def CA.akD {A:CA}(nd:A.fix.14):[A.c,A.st,A.bk,A.bl,A.sh,A.73,A.rl,A.sn,A.l,A.t,A.p,A.de,A.dl,A.bz,A.gr,A.rd,A.ra,A.rb].14:=(υ.mp nd).1
def az {l A:-Ι}{x:Ι}(h:l.14)(i:Nat)(js:-Nat)(hx:l[i]?=!x)(hA:A.map some=js.map λj=>l[j]?)(hij:i∉js):x∉A:=λm=>by
 let m2:some x∈A.map some:=ω.mpr (Λ x m rfl);rw[hA] at m2;(show ι (ω.mp m2) λj hj ej=>?_);obtain⟨hi,ei⟩:=Α.mp hx;obtain⟨hj',ej'⟩:=Α.mp ej;let hne:i≠j:=λz=>hij (by rw[z];show hj);let hp:=gl.mp h;rcases Ob hne with z | z
 ·show hp i j hi hj' z (ei.trans ej'.17)
 ·show hp j i hj' hi z (ej'.trans ei.17)
def ib {l:-Ι}(nd:l.14)(h1:l[i]?=!a)(h2:l[j]?=!a):i=j:=by
 by_cases e:i=j
 ·show e
 ·show absurd rfl (LC nd h1 h2 e)
def Dl (n:-Nat)(k:Nat):lc (RC "hail" (Xe n k)) (.inr "sender")=!.str (S n):=by rfl
section
variable (n:-Nat) (k dd r pl:Nat) (key:-Nat) (wo:Option (-Nat))
def Dm:lc (RC "put" (VG n k dd r pl key wo)) (.inr "sender")=!.str (S n):=by rfl
def Dn:lc (RC "put" (VG n k dd r pl key wo)) (.inr "number")=!(.int (k:Int)):=by rfl
def vC:lc (RC "put" (VG n k dd r pl key wo)) (.inr "deed")=!(.int (dd:Int)):=by rfl
def Ku:lc (RC "put" (VG n k dd r pl key wo)) (.inr "row")=!(.int (r:Int)):=by rfl
def Kv:lc (RC "put" (VG n k dd r pl key wo)) (.inr "key")=!.str (S key):=by rfl
def Ie:lc (RC "put" (VG n k dd r pl key wo)) (.inr "word")=!wV wo:=by rfl
end
def dg (h:H D=!.dK ϓ)(e:lc ϓ (.inr x)=!v):MG H D (.str x) (!v):=by
 let g:=MG.k (k:=.inr x) h;rw[e] at g;show g
def Om.len {n:-Nat}(h:Om n):1<=n.4/\n.4<=12/\∀c∈n,c < 128:=⟨h.1,h.2.1,λc hc=>by
 let key:∀c∈T36,c < 128:=by decide
 show key c (by simpa [inN] using h.2.2 c hc)⟩
def ue {c:Nat}(h:Oi c=true):c < 128:=by
 unfold Oi at h;simp only[io,PZ] at h;lk
def mJ {p:Str}(hp:p∈T7):aaz p (.str (S l)) l:=.inl ⟨hp,rfl⟩
def dW {p:Str}{m:Nat}(h1:p∉T7)(h2:p ≠ "word")(h3:p ≠ "owner")(hm:m < 10 ^ 12):aaz p (.int (m:Int)) (MO (m:Int))/\(MO (m:Int)).4<=201/\∀c∈MO (m:Int),c < 128:=
 ⟨.inr (.inr ⟨h1,h2,h3,(ϡ m rfl hm rfl)⟩),ο (qo "!" hm) "!",λc hc=>by have:=mC m c hc;lk⟩
def oh {n:-Nat}(hn:Om n)(hk:k < 10 ^ 9):Sy "hail" (Xe n k):=by
 (show sw hn.25 λ_ n1 n2=>?_);show⟨λx hx=>?_,by show Nx [ϒ "event","sender","life"];decide +kernel,by show 2<=7;decide⟩;simp only[Xe,Κ,Μ,χ] at hx;rcases hx with rfl | rfl
 ·show⟨mJ (p:="sender") (s!"d"),by show n.4<=201;lk,n2⟩
 ·show dW (p:="life") (s!"d") (s!"d") (s!"d") ()
def keyOk.len {n:-Nat}(h:keyOk n):n.4<=24/\∀c∈n,c < 128:=⟨h.2.1,λc hc=>ue (h.2.2 c hc)⟩
def F6 (h:T8 wo)(hl:∀w,wo=!w->w.4<=200):(Xd wo).4<=201/\∀c∈Xd wo,c < 128:=by
 cases wo with
 | none=>show⟨"!","!"⟩
 | some w=>
  let h1:=h w rfl;show⟨NJ h1.2.1,λc hc=>?_⟩;rcases Κ.mp hc with rfl | hc
  ·decide
  ·show ue (h1.2.2 c hc)
def xy {n:-Nat}{k r pl:Nat}(hn:Om n)(hk:k < 10 ^ 10)(hd:dd < 10 ^ 10)(hr:r < 10 ^ 10)(hp:pl < 10 ^ 10)(hky:keyOk key)(hw:T8 wo)(hwl:∀w,wo=!w->w.4<=200):Sy "put" (VG n k dd r pl key wo):=by
 (show sw hn.25 λ_ n1 n2=>?_);obtain⟨k1,k2⟩:=hky.25;obtain⟨w1,w2⟩:=F6 hw hwl;show⟨λx hx=>?_,by show Nx [ϒ "event","sender","number","deed","row","place","key","word"];decide +kernel,by show 7<=7;decide⟩;simp only[VG,Κ,Μ,χ] at hx;rcases hx with rfl | rfl | rfl | rfl | rfl | rfl | rfl
 ·show⟨mJ (p:="sender") (s!"d"),by show n.4<=201;lk,n2⟩
 ·show dW (p:="number") (s!"d") (s!"d") (s!"d") ()
 ·show dW (p:="deed") (s!"d") (s!"d") (s!"d") ()
 ·show dW (p:="row") (s!"d") (s!"d") (s!"d") ()
 ·show dW (p:="place") (s!"d") (s!"d") (s!"d") ()
 ·show⟨mJ (p:="key") (s!"d"),by show key.4<=201;lk,k2⟩
 ·show⟨.inr (.inl ⟨rfl,(Λ wo rfl rfl)⟩),w1,w2⟩
def rm {xs:-PN}{r:Nat}:∀n,n<=xs.4->r < Ϩ xs n->∃k x,xs[k]?=!x/\Ϩ xs k<=r/\r < Ϩ xs (k+1)
 | 0,_,h=>by simp[Ϩ] at h
 | n+1,hn,h=>by
  by_cases e:r < Ϩ xs n
  ·show rm n () e
  ·show(ϕ n (xs[n]'()) ∅ () h)
abbrev zH:Sp:=aR λp=>aN λH Q _=>∃xs,ϲ H p (xs.map PN.v)/\NV xs/\xs.4<=3/\∀b H',Ω H H'->okB b->Q (.str (S b)) H'
structure St0 (k:CK)(H:Hp)(A:CA)(xs:-PN):Prop where
 P3:∃dx,H A.st=!.ins k.S dx (stF A)
 WB:T5 k.H H A.sh A.73 xs
 VH:NV xs
 Qi:H A.rl=!.lst (A.rs.map V.ref)
 row:∀(i:Nat) r d,A.rs[i]?=!r->A.ds[i]?=!d->ND k.R H r d XF
 len:A.rs.4=Ϩ xs xs.4
 lend:A.ds.4=A.rs.4
 snd:Mv k.N H A.sn A.l A.t A.p [] YH
 dee:dL k.D 0 H A.de A.dl A.bz [] QW
 rdr:Sx k.Rd H A.rd A.ra A.rb read0
 grp:H A.gr=!.dK []
abbrev CA.new (A:CA):-Ι:=[A.sh,A.73,A.rl,A.sn,A.l,A.t,A.p,A.de,A.dl,A.bz,A.gr,A.rd,A.ra,A.rb]++(A.rs++A.ds)
structure Fr (H H':Hp)(L:-Ι):Prop where
 nd:L.14
 no:∀b∈L,H b=none
 yes:∀b∈L,∃o,H' b=!o
abbrev QX (H H':Hp):Prop:=∀b,(∃o,H b=!o)->∃o,H' b=!o
def QX.refl (H:Hp):QX H H:=λ_ h=>h
def QX.trans (a:QX H H1)(b:QX H1 H2):QX H H2:=λc h=>b c (a c h)
def QX.back (h:QX H H')(e:H' b=none):H b=none:=by
 cases q:H b with
 | none=>rfl
 | some o=>obtain⟨o',e'⟩:=h b ⟨o,q⟩;rw[e] at e';cases e'
def Ω.NT (s:Ω H H'):QX H H':=λb zz=>ags zz λo e=>⟨o,s b o e⟩
def ϛ.aoO {x:Ι}(c:ϛ [x] H H')(e:H' x=!o):QX H H':=λb hb=>dE c (λb hb=>by rw[Ζ.mp hb];show⟨o,e⟩) b hb
def QX.wr :QX H (upd H b o):=λc zz=>ags zz λu e=>by
 by_cases z:c=b
 ·subst z;show⟨o,aa⟩
 ·show⟨u,by rw[ag z];show e⟩
def Fr.nil:Fr H H []:=⟨aed,λ_ h=>(nomatch h),λ_ h=>(nomatch h)⟩
def Fr.NT (f:Fr H H1 L)(l:QX H1 H2):Fr H H2 L:=⟨f.nd,f.no,λb hb=>l b (f.yes b hb)⟩
def Fr.add (f:Fr H H1 L)(l0:QX H H1)(hb:H1 b=none)(l:QX H1 H2)(e:∃o,H2 b=!o):Fr H H2 (b::L):=
 ⟨ϊ.mpr ⟨λz=>by (obtain⟨o,q⟩:=f.yes b z;rw[hb] at q;cases q),f.nd⟩,λc hc=>by
  rcases Κ.mp hc with rfl | hc
  ·show l0.back hb
  ·show f.no c hc,λc hc=>by
  rcases Κ.mp hc with rfl | hc
  ·show e
  ·show l c (f.yes c hc)⟩
def Fr.perm (f:Fr H H1 L)(p:L.Perm L'):Fr H H1 L':=⟨p.nodup_iff.mp f.nd,λb hb=>f.no b (p.mem_iff.mpr hb),λb hb=>f.yes b (p.mem_iff.mpr hb)⟩
abbrev zI (k:CK):Sp:=aR λx=>aR λp=>aN λH Q _=>∃dx xs,H x=!.ins k.S dx []/\ϲ H p (xs.map PN.v)/\NV xs/\
 ∀A H',A.st=x->ϛ [x] H H'->Fr H H' A.new->St0 k H' A xs->Q .k4 H'
def Fr.adds (M:-Ι)(f:Fr H H1 L)(l0:QX H H1)(nd:M.14)(hb:∀b∈M,H1 b=none)(l:QX H1 H2)(e:∀b∈M,∃o,H2 b=!o):Fr H H2 (M++L):=
 ⟨υ.mpr ⟨nd,f.nd,λa ha b Zv z=>by subst z;obtain⟨o,q⟩:=f.yes a Zv;rw[hb a ha] at q;cases q⟩,
  λc hc=>by
  rcases Ξ.mp hc with h | h
  ·show l0.back (hb c h)
  ·show f.no c h,
  λc hc=>by
  rcases Ξ.mp hc with h | h
  ·show e c h
  ·show l c (f.yes c h)⟩
def ju {L M:-Ι}(h:∀a,L.count a=M.count a):L.Perm M:=Pl.mpr h
def dQ {s:Ι}{o:HO}(hs:H s=none)(hd:H dx=none)(c:ϛ [s] (upd (upd H dx (.own s)) s o) H2):Ω H H2:=λb u e=>by
 let n1:b≠s:=λz=>by rw[z,hs] at e;cases e
 let n2:b≠dx:=λz=>by rw[z,hd] at e;cases e
 show c.keep b u (by rw[ag n1,ag n2];show e) (by simp;show n1)
def bR (h:upd (upd H dx (.own s)) s o l=none):H l=none/\l≠s/\l≠dx:=by
 let n1:l≠s:=λz=>by rw[z,aa] at h;cases h
 rw[ag n1] at h;let n2:l≠dx:=λz=>by rw[z,aa] at h;cases h
 rw[ag n2] at h;show⟨h,n1,n2⟩
structure Pu (C:Ι)(H H':Hp)(D:Ι)(ys:-V)(i:Nat)(rs ds:-Ι):Prop where
 eq:ys=rs.map V.ref
 lr:rs.4=i
 ld:ds.4=i
 row:∀(j:Nat) r d,rs[j]?=!r->ds[j]?=!d->ND C H' r d XF
 lst:H' D=!.lst ys
 same:Ω H H'
 fr:Fr H H' (D::(rs++ds))
def Pu.zero (hD:H D=none):Pu C H (upd H D (.lst [])) D [] 0 [] []:=
 ⟨rfl,rfl,rfl,λj r d h=>by simp at h,aa,Ω.upd hD,Fr.add (Fr.nil) (QX.refl _) hD (Ω.upd hD).NT ⟨_,aa⟩⟩
def Pu.succ {rs ds:-Ι}(h:Pu C H H' D ys i rs ds)(s5:Ω H' H5)(hr:H' r=none)(hd:H' d=none)(nrd:d≠r)(R:ND C H5 r d XF) :
  H5 D=!.lst ys/\Pu C H (upd H5 D (.lst (ys++[.ref r]))) D (ys++[.ref r]) (i+1) (rs++[r]) (ds++[d]):=by
 let n1:r≠D:=λz=>by rw[z,h.28] at hr;cases hr
 let n2:d≠D:=λz=>by rw[z,h.28] at hd;cases hd
 let f5:=h.fr.adds [r,d] h.same.NT (by simp;show λz=>nrd z.17) (λb hb=>by
  simp only[Κ,Μ,χ] at hb;rcases hb with rfl | rfl
  ·show hr
  ·show hd) s5.NT (λb hb=>by
  obtain⟨dx,e⟩:=R.30;(show ι R.51 λkv e2 _=>?_);simp only[Κ,Μ,χ] at hb;rcases hb with rfl | rfl
  ·show⟨_,e⟩
  ·show⟨_,e2⟩)
 let c6:ϛ [D] H5 (upd H5 D (.lst (ys++[.ref r]))):=ϛ.upd ∅ (λxs z=>by rw[s5 _ _ h.28] at z;cases z);let nd:=h.fr.nd;rw[ϊ] at nd;show⟨s5 _ _ h.28,by rw[h.eq];simp,by simp[h.lr],by simp[h.ld],λj r1 d1 h1 h2=>?_,aa,Ω.wr (h.same.trans s5) (h.fr.no D ∅),?_⟩
 ·by_cases ej:j < i
  ·rw[ϙ (by rw[h.lr];show ej)] at h1
   rw[ϙ (by rw[h.ld];show ej)] at h2;show((h.row j r1 d1 h1 h2).same s5).im c6 (by simp;show λz=>nd.1 (z▸Η _ (Δ h1))) (by simp;show λz=>nd.1 (z▸Β _ (Δ h2)))
  ·let l1:=(Α.mp h1).1
   rw[Χ,h.lr] at l1;let ej2:j=i:=by simp at l1;lk
   subst ej2;rw[ϥ (by rw[h.lr];show δ _),h.lr,Y8] at h1;rw[ϥ (by rw[h.ld];show δ _),h.ld,Y8] at h2;cases h1;cases h2;show R.im c6 (by simp;show n1) (by simp;show n2)
 ·show(f5.NT QX.wr).perm (ju λa=>?_)
  simp only[GT,ML,MV,u8,NZ];lk
def YI {x:Ι}(hx:H x=!.ins C dx fs)(e:upd H x (.ins C dx fs')=H'):ϛ [x] H H'/\H' x=!.ins C dx fs'/\QX H H':=by
 subst e;show⟨ϛ.upd ∅ (λxs z=>by rw[hx] at z;cases z),aa,QX.wr⟩
def Fr.two (f:Fr H H1 L)(l0:QX H H1)(l:QX H1 H2)(n:a≠b)(ha:H1 a=none)(hb:H1 b=none)(ea:∃o,H2 a=!o)(eb:∃o,H2 b=!o):Fr H H2 ([a,b]++L):=
 f.adds [a,b] l0 (by simp;show n) (λc hc=>by
  simp only[Κ,Μ,χ] at hc;rcases hc with rfl | rfl
  ·show ha
  ·show hb) l (λc hc=>by
  simp only[Κ,Μ,χ] at hc;rcases hc with rfl | rfl
  ·show ea
  ·show eb)
def Fr.three {c:Ι}(f:Fr H H1 L)(l0:QX H H1)(l:QX H1 H2)(n1:a≠b)(n2:a≠c)(n3:b≠c)(ha:H1 a=none)(hb:H1 b=none)(hc:H1 c=none)(ea:∃o,H2 a=!o)(eb:∃o,H2 b=!o)(ec:∃o,H2 c=!o):Fr H H2 ([a,b,c]++L):=
 f.adds [a,b,c] l0 (by simp;show⟨⟨n1,n2⟩,n3⟩) (λd hd=>by
  simp only[Κ,Μ,χ] at hd;rcases hd with rfl | rfl | rfl
  ·show ha
  ·show hb
  ·show hc) l (λd hd=>by
  simp only[Κ,Μ,χ] at hd;rcases hd with rfl | rfl | rfl
  ·show ea
  ·show eb
  ·show ec)
def Fr.four {c:Ι}(f:Fr H H1 L)(l0:QX H H1)(l:QX H1 H2)(nd:[a,b,c,d].14)(ha:H1 a=none)(hb:H1 b=none)(hc:H1 c=none)(hd:H1 d=none)(ea:∃o,H2 a=!o)(eb:∃o,H2 b=!o)(ec:∃o,H2 c=!o)(ed:∃o,H2 d=!o):Fr H H2 ([a,b,c,d]++L):=
 f.adds [a,b,c,d] l0 nd (λx hx=>by
  simp only[Κ,Μ,χ] at hx;rcases hx with rfl | rfl | rfl | rfl
  ·show ha
  ·show hb
  ·show hc
  ·show hd) l (λx hx=>by
  simp only[Κ,Μ,χ] at hx;rcases hx with rfl | rfl | rfl | rfl
  ·show ea
  ·show eb
  ·show ec
  ·show ed)
def F7 (A:CA):([A.rd,A.ra,A.rb]++(A.gr::([A.de,A.dl,A.bz]++([A.sn,A.l,A.t,A.p]++((A.rl::(A.rs++A.ds))++[A.sh,A.73]))))).Perm A.new:=ju λa=>by
 unfold CA.new;simp only[GT,ML,MV,u8]
 ac_rfl
abbrev VI (xs:-PN)(i:Nat):-(-Nat):=(ϒ "shelves").11::(xs.take i).flatMap λx=>[x.59,MO (x.40:Int),x.kind.11]
def Dp {xs:-PN}{y:PN}(h:xs[i]?=!y):tx (VI xs (i+1))=tx (VI xs i)++[.str (S y.59),.str (S (MO (y.40:Int))),.str y.62]:=by
 unfold VI tx;rw[Ϲ,h];simp[<-qI]
def Kw {c:Nat}(h:inN c=true):c < 128:=by
 let h2:c∈T36:=by simpa [inN] using h
 let key:∀c∈T36,c < 128:=by decide
 show key c h2
def vD {xs:-PN}(ok:NV xs)(i:Nat):∀l∈VI xs i,l.4<=12/\∀c∈l,c < 128:=λl hl=>by
 unfold VI at hl;rcases Κ.mp hl with rfl | hl
 ·decide +kernel
 ·(show ι (UJ.mp hl) λx hx hl=>?_)
  let o:=ok.each x (RX hx);simp only[Κ,Μ,χ] at hl;rcases hl with rfl | rfl | rfl
  ·show⟨o.1.2.1,λc hc=>Kw (OO.mp o.1.2.2 c hc)⟩
  ·show⟨ο (qo (k:=1) "!" (by have:=o.2.1;lk)) "!",λc hc=>by have:=mC _ c hc;lk⟩
  ·rcases o.2.2 with e | e<;>rw[e]<;>decide +kernel
def rn {xs:-PN}(i:Nat):(VI xs i).4<=1+3 * xs.4:=by
 unfold VI;rw[ς,List.length_flatMap];let h:∀l:-PN,(l.map λx=>[x.59,MO x.40,x.kind.11].4).76=3 * l.4:=by
  intro l
  induction l with
  | nil=>rfl
  | cons a l ih=>rw[Ϗ,lm,ih,ς];simp;lk
 rw[h,eF];lk
def ahs {xs:-PN}(ok:NV xs)(h3:xs.4<=3)(i:Nat):okB (wS [59] ((VI xs i).map gd)):=by
 constructor
 ·intro c h
  rcases og h with q | ⟨l,hl,q⟩
  ·simp at q;lk
  ·(show ι (ω.mp hl) λa ha μ=>?_;subst μ)
   show Jg (vD ok i a ha).2 c q
 ·let h1:=rg (z:=[59]) (m:=24) (ls:=(VI xs i).map gd) (λl hl=>by
   (show ι (ω.mp hl) λa ha μ=>?_;subst μ);have:=vx a;have:=(vD ok i a ha).1
   lk)
  let h2:=rn (xs:=xs) i;rw[Θ,EQ] at h1;lk
def xA:∀{l:-(-Nat)},(∀a∈l,a.4<=12)->(l.map K').76<=12 * l.4
 | [],_=>by simp
 | a::l,h=>by
  have:=h a ∅;have:=xA (l:=l) λb hb=>h b (by simp[hb]);simp only[Ϗ,lm,ς];lk
def ZD.lines {A:CA}(h:ZD k H A Z M)(c:ϛ [A.bl] H H')(hs:∃o,H' A.bl=!o)(ls:-(-Nat)):ZD k H' A Z { M with ls:=ls }:=by
 let ZE:=CA.akD h.nd;let nr:=CA.Kt h.nd (mi 3 rfl);obtain⟨dx,e⟩:=h.P3;let hz:∀b∈[A.bl],b∈Z\/∀xs,H b≠!.lst xs:=λb hb=>.inl (by rw[Ζ.mp hb];show h.Sz.1)
 show⟨⟨dx,c.keep _ _ e (az ZE 1 [3] rfl rfl "!")⟩,h.WB.im c (az ZE 4 [3] rfl rfl "!") (az ZE 5 [3] rfl rfl "!"),h.VH,c.keep _ _ h.Qi (az ZE 6 [3] rfl rfl "!"),λi r d m h1 h2 h3=>?_,h.25,h.43,h.On,
  h.snd.im c (az ZE 7 [3] rfl rfl "!") (az ZE 8 [3] rfl rfl "!") (az ZE 9 [3] rfl rfl "!") (az ZE 10 [3] rfl rfl "!") hz,h.dee.im c (az ZE 11 [3] rfl rfl "!") (az ZE 12 [3] rfl rfl "!") (az ZE 13 [3] rfl rfl "!") (λ_ hu=>nomatch hu),h.rdr.im c (az ZE 15 [3] rfl rfl "!") (az ZE 16 [3] rfl rfl "!") (az ZE 17 [3] rfl rfl "!"),c.keep _ _ h.grp (az ZE 14 [3] rfl rfl "!"),h.Sz,λb hb=>dE c (λb hb=>by rw[Ζ.mp hb];show hs) b (h.zo b hb),h.nd⟩
 show(h.row i r d m h1 h2 h3).im c (by simp;show λz=>nr.1 (z▸(Δ h1))) (by simp;show λz=>nr.2 (z▸(Δ h2)))
def R4.wrote {A:CA}(h:R4 k H A Z M)(c:ϛ [A.bl] H H')(b:NW k.B H' A.bk A.bl ls):R4 k H' A Z { M with ls:=ls }:=by
 obtain⟨dx,e⟩:=h.QL;show⟨⟨dx,c.keep _ _ e (az (CA.akD h.st.nd) 0 [3] rfl rfl "!")⟩,b,h.st.lines c ⟨_,b.28⟩ ls⟩
abbrev zJ (k:CK):Sp:=aR λx=>aR λp=>aN λH Q _=>∃dx xs,H x=!.ins k.C dx []/\ϲ H p (xs.map PN.v)/\NV xs/\xs.4<=3/\
 ∀A Z H' ls,A.c=x->(∀b∈A.fix,b=x\/H b=none)->ϛ [x] H H'->R4 k H' A Z ⟨xs,τ (Ϩ xs xs.4) XF,YH,ls⟩->ls.4=1->Q .k4 H'
def R4.aoP {A:CA}(h:R4 k H A Z M)(h0:∀z,M.S.L z=none)(Z':-Ι)(hz:∀b∈Z',∃o,H b=!o):R4 k H A (Z'++Z) M:=
 letI s:=h.st
 ⟨h.QL,h.book,⟨s.P3,s.WB,s.VH,s.Qi,s.row,s.25,s.43,s.On,⟨s.snd.30,s.snd.NT,s.snd.las,by
  (show ϱ s.snd.spo λkv e1 e2 _=>?_)
  show(ϡ kv e1 e2 (λz hz=>by rw[h0 z] at hz;cases hz)),s.snd.rl,s.snd.rt,s.snd.rp,s.snd.lt,s.snd.lp,s.snd.tp⟩,s.dee,s.rdr,s.grp,
  ⟨Β _ s.Sz.1,Β _ s.Sz.2.1,Β _ s.Sz.2.2.1,Β _ s.Sz.2.2.2⟩,λb hb=>(Ξ.mp hb).elim (hz b) (s.zo b),s.nd⟩⟩
section
variable {P:ϯ} {K:Ψ} {base:be}
def Qg.okX {st:ϟ}{items:-Υ}(F:Qg K x qual st f fd items)(S:ζ N ps (Ο st))(len:∀vs H Q E,sp vs H Q E->vs.4=ps.4)
  (RB:∀(Nd:Υ) (A:QH) (outer:-Env) (s:η) (H:Hp) (vs:-V) (Q:VK) (E:XK),MW k (A.deeper (envOfC qual (Ο st) s.5 f Nd))->sp vs H Q E->
   ∃t,W2 (Su (CXv P w) P w K mg base N qual (Ο st) f Nd A outer s H E) (wE st) t/\t { nx:=λ_ H'=>Q .k4 H',rt:=Q } (start N vs) H):OZ P w K mg base (CXv P w) (k+1) f fd ps sp:=by
 (show UQ F.ex λoc od kV doc pm an=>L6 λNd ct W1 tD o n=>QT λμ lk TD _=>?_;subst μ);show AZ lk TD S len λA outer s H vs Q E hr PX=>RB Nd A outer s H vs Q E hr PX
end
def xB (A:CA)(x bk bl:Ι):(x::([bk,bl]++(A.new++[A.st]))).Perm ({ A with c:=x,bk:=bk,bl:=bl }:CA).fix:=ju λa=>by
 unfold CA.new CA.fix;simp only[GT,ML,MV,u8]
 ac_rfl
def ϛ.past {A:-Ι}(c:ϛ A H H1)(d:ϛ [b] H1 H2)(h:H b=none):ϛ A H H2:=
 ⟨λx o e n=>d.keep x o (c.keep x o e n) (by simp;show λz=>by rw[z,h] at e;cases e),λx xs e=>d.tup x xs (c.tup x xs e)⟩
def aht {c:TT}{t u:TS}(h:∀A,A=t->∀B,B=u->agB c A B D σ H):agB c t u D σ H:=h _ rfl _ rfl
def nx0 (h:R=tR)(k:tR D σ H):R D σ H:=h▸k
def nx1 {R t1:TS}(h:R=OF t1 tR)(k:∀R,R=tR->OF t1 R D σ H):R D σ H:=h▸k _ rfl
def nx2 {R t1 t2:TS}(h:R=OF t1 (OF t2 tR))(k:∀R,R=tR->OF t1 (OF t2 R) D σ H):R D σ H:=h▸k _ rfl
def n1 {x y:Ι}(h:x≠y):x∉[y]:=λm=>h (Ζ.mp m)
structure ac1 where
 F:-Ι
 R:Hp->Prop
 im:∀{B:-Ι} {H H':Hp},R H->ϛ B H H'->(∀b∈B,b∉F)->R H'
 here:∀{H:Hp},R H->∀b∈F,∃o,H b=!o
abbrev CA.fx (A:CA):-Ι:=[A.c,A.st,A.bk,A.bl,A.sh,A.73,A.rl,A.sn,A.l,A.t,A.p]++(A.rs++A.ds)
abbrev stG (A:CA)(t:Int):-(Str×V):=[("shelves",.ref A.sh),("rows",.ref A.rl),("senders",.ref A.sn),("deeds",.ref A.de),("groups",.ref A.gr),("readers",.ref A.rd),("turn",.int t)]
structure QM (k:CK)(R:ac1)(t:Int)(H:Hp)(A:CA)(Z:-Ι)(M:CM):Prop where
 P3:∃dx,H A.st=!.ins k.S dx (stG A t)
 WB:T5 k.H H A.sh A.73 M.xs
 VH:NV M.xs
 Qi:H A.rl=!.lst (A.rs.map V.ref)
 row:∀(i:Nat) r d m,A.rs[i]?=!r->A.ds[i]?=!d->M.Ms[i]?=!m->ND k.R H r d m
 len:A.rs.4=Ϩ M.xs M.xs.4
 lend:A.ds.4=A.rs.4
 On:M.Ms.4=A.rs.4
 snd:Mv k.N H A.sn A.l A.t A.p Z M.S
 rest:R.R H
 Sz:A.bl∈Z/\A.rl∈Z/\A.73∈Z
 zf:∀b∈R.F,b∈Z\/∀xs,H b≠!.lst xs
 zo:∀b∈Z,∃o,H b=!o
 nd:(A.fx++R.F).14
structure Xh (k:CK)(R:ac1)(t:Int)(H:Hp)(A:CA)(Z:-Ι)(M:CM):Prop where
 QL:∃dx,H A.c=!.ins k.C dx (ceF A)
 book:NW k.B H A.bk A.bl M.ls
 st:QM k R t H A Z M
def CA.uf {A:CA}{F:-Ι}(nd:(A.fx++F).14):A.fx.14:=(υ.mp nd).1
def CA.iJ {A:CA}{F:-Ι}(nd:(A.fx++F).14)(h:a∈A.fx):a∉F:=λz=>(υ.mp nd).2.2 a h a z rfl
def CA.mK {A:CA}(nd:A.fx.14)(ha:a∈[A.c,A.st,A.bk,A.bl,A.sh,A.73,A.rl,A.sn,A.l,A.t,A.p]):a∉A.rs/\a∉A.ds:=by
 have:=(υ.mp nd).2.2;show⟨λz=>this a ha a (Η _ z) rfl,λz=>this a ha a (Β _ z) rfl⟩
def CA.ac2 {A:CA}(nd:A.fx.14):[A.c,A.st,A.bk,A.bl,A.sh,A.73,A.rl,A.sn,A.l,A.t,A.p].14:=(υ.mp nd).1
def CA.aoQ {A:CA}(nd:A.fx.14):(A.rs++A.ds).14:=(υ.mp nd).2.1
def QM.im {A:CA}(h:QM k R t H A Z M)(c:ϛ B H H')(hB:∀b∈B,b∉A.fx)(hF:∀b∈B,b∉R.F)(hz:∀b∈B,b∈Z\/∀xs,H b≠!.lst xs)(hs:∀b∈B,∃o,H' b=!o):QM k R t H' A Z M:=by
 let n:∀{a:Ι},a∈A.fx->a∉B:=λha hb=>hB _ hb ha;let f:∀{a:Ι},a∈[A.c,A.st,A.bk,A.bl,A.sh,A.73,A.rl,A.sn,A.l,A.t,A.p]->a∉B:=λha=>n (Η _ ha);obtain⟨dx,e⟩:=h.P3
 show⟨⟨dx,c.keep _ _ e (f (mi 1 rfl))⟩,h.WB.im c (f (mi 4 rfl)) (f (mi 5 rfl)),h.VH,c.keep _ _ h.Qi (f (mi 6 rfl)),
  λi r d m h1 h2 h3=>(h.row i r d m h1 h2 h3).im c (n (Β _ (Η _ (Δ h1)))) (n (Β _ (Β _ (Δ h2)))),h.25,h.43,h.On,
  h.snd.im c (f (mi 7 rfl)) (f (mi 8 rfl)) (f (mi 9 rfl)) (f (mi 10 rfl)) hz,R.im h.44 c hF,h.Sz,λb hb=>(h.zf b hb).imp id λz xs q=>by
   obtain⟨o,eo⟩:=R.here h.44 b hb;rw[c.keep _ _ eo (λZv=>hF b Zv hb)] at q
   show z xs (by rw[eo];show q),λb hb=>dE c hs b (h.zo b hb),h.nd⟩
def QM.same {A:CA}(h:QM k R t H A Z M)(s:Ω H H'):QM k R t H' A Z M:=h.im (B:=[]) (ϛ.of_same s) (λ_ z=>nomatch z) (λ_ z=>nomatch z) (λ_ z=>nomatch z) (λ_ z=>nomatch z)
def QM.zfk {A:CA}(h:QM k R t H A Z M)(c:ϛ B H H')(hF:∀b∈B,b∉R.F):∀b∈R.F,b∈Z\/∀xs,H' b≠!.lst xs:=λb hb=>(h.zf b hb).imp id λz xs q=>by
 obtain⟨o,eo⟩:=R.here h.44 b hb;rw[c.keep _ _ eo (λZv=>hF b Zv hb)] at q;show z xs (by rw[eo];show q)
def QM.sends {A:CA}(h:QM k R t H A Z M)(c:ϛ [A.l,A.t,A.p] H H')(s':Mv k.N H' A.sn A.l A.t A.p Z S'):QM k R t H' A Z { M with S:=S' }:=by
 let nf:=CA.uf h.nd;let Uz:=CA.ac2 nf;let inl:∀a∈[A.l,A.t,A.p],a∈[A.c,A.st,A.bk,A.bl,A.sh,A.73,A.rl,A.sn,A.l,A.t,A.p]:=λa ha=>by
  simp only[Κ,Μ,χ] at ha;rcases ha with rfl | rfl | rfl
  ·show mi 8 rfl
  ·show mi 9 rfl
  ·show mi 10 rfl
 let nr:=λa ha=>CA.mK nf (inl a ha);let hF:=λb hb=>CA.iJ h.nd (Η _ (inl b hb));obtain⟨dx,e⟩:=h.P3;let hs:∀b∈[A.l,A.t,A.p],∃o,H' b=!o:=λb hb=>by
  (show ι s'.NT λk1 e1 _=>?_);(show ι s'.las λk2 e2 _=>?_);(show ι s'.spo λk3 e3 _=>?_);simp only[Κ,Μ,χ] at hb;rcases hb with rfl | rfl | rfl
  ·show⟨_,e1⟩
  ·show⟨_,e2⟩
  ·show⟨_,e3⟩
 show⟨⟨dx,c.keep _ _ e (az Uz 1 [8,9,10] rfl rfl "!")⟩,h.WB.im c (az Uz 4 [8,9,10] rfl rfl "!") (az Uz 5 [8,9,10] rfl rfl "!"),h.VH,c.keep _ _ h.Qi (az Uz 6 [8,9,10] rfl rfl "!"),λi r d m h1 h2 h3=>?_,h.25,h.43,h.On,s',
  R.im h.44 c hF,h.Sz,h.zfk c hF,λb hb=>dE c hs b (h.zo b hb),h.nd⟩
 show(h.row i r d m h1 h2 h3).im c (λz=>(nr r z).1 (Δ h1)) (λz=>(nr d z).2 (Δ h2))
def QM.akF {A:CA}(h:QM k R t H A Z M)(hr:A.rs[i]?=!r)(hd:A.ds[i]?=!d)(c:ϛ [r,d] H H')(R':ND k.R H' r d m'):QM k R t H' A Z { M with Ms:=M.Ms.set i m' }:=by
 let nf:=CA.uf h.nd;let mr:=Δ hr;let md:=Δ hd;let f:∀{a:Ι},a∈[A.c,A.st,A.bk,A.bl,A.sh,A.73,A.rl,A.sn,A.l,A.t,A.p]->a∉[r,d]:=λha z=>by
  have:=CA.mK nf ha;simp only[Κ,Μ,χ] at z;rcases z with rfl | rfl
  ·show this.1 mr
  ·show this.2 md
 let hF:∀b∈[r,d],b∉R.F:=λb hb=>CA.iJ h.nd (Β _ (by
  simp only[Κ,Μ,χ] at hb;rcases hb with rfl | rfl
  ·show Η _ mr
  ·show Β _ md))
 let ndR:=CA.aoQ nf;let ndx:=(υ.mp ndR).2.2;obtain⟨dx,e⟩:=h.P3;obtain⟨dxr,er⟩:=R'.30;(show ι R'.51 λkd ed _=>?_);let hs:∀b∈[r,d],∃o,H' b=!o:=λb hb=>by
  simp only[Κ,Μ,χ] at hb;rcases hb with rfl | rfl
  ·show⟨_,er⟩
  ·show⟨_,ed⟩
 let hi:=(Α.mp hr).1;let hz:∀b∈[r,d],b∈Z\/∀xs,H b≠!.lst xs:=λb hb=>.inr λxs z=>by
  let hm:M.Ms[i]?=!(M.Ms[i]'(by rw[h.On];show hi)):=by simp
  obtain⟨dx0,e0⟩:=(h.row i r d _ hr hd hm).30;(show ι ((h.row i r d _ hr hd hm).51) λkv0 e1 _=>?_);simp only[Κ,Μ,χ] at hb;rcases hb with rfl | rfl
  ·rw[e0] at z;cases z
  ·rw[e1] at z;cases z
 show⟨⟨dx,c.keep _ _ e (f (mi 1 rfl))⟩,h.WB.im c (f (mi 4 rfl)) (f (mi 5 rfl)),h.VH,c.keep _ _ h.Qi (f (mi 6 rfl)),λj r1 d1 m1 h1 h2 h3=>?_,h.25,h.43,by simp[h.On],
  h.snd.im c (f (mi 7 rfl)) (f (mi 8 rfl)) (f (mi 9 rfl)) (f (mi 10 rfl)) hz,R.im h.44 c hF,h.Sz,h.zfk c hF,λb hb=>dE c hs b (h.zo b hb),h.nd⟩
 by_cases ej:j=i
 ·subst ej
  rw[hr] at h1;rw[hd] at h2;cases h1;cases h2;rw[ϑ (by rw[h.On];show hi)] at h3;cases h3;show R'
 ·rw[ϔ (ψ ej)] at h3
  show(h.row j r1 d1 m1 h1 h2 h3).im c ?_ ?_
  ·simp only[Κ,Μ,χ,Yl]
   show⟨λz=>ej (ib ((υ.mp ndR).1) h1 (z▸hr)),λz=>ndx r1 (Δ h1) d md z⟩
  ·simp only[Κ,Μ,χ,Yl]
   show⟨λz=>ndx r mr d1 (Δ h2) z.17,λz=>ej (ib ((υ.mp ndR).2.1) h2 (z▸hd))⟩
def QM.lines {A:CA}(h:QM k R t H A Z M)(c:ϛ [A.bl] H H')(hs:∃o,H' A.bl=!o)(ls:-(-Nat)):QM k R t H' A Z { M with ls:=ls }:=by
 let nf:=CA.uf h.nd;let Uz:=CA.ac2 nf;let nr:=CA.mK nf (mi 3 rfl);let hF:∀b∈[A.bl],b∉R.F:=λb hb=>by rw[Ζ.mp hb];show CA.iJ h.nd (Η _ (mi 3 rfl))
 obtain⟨dx,e⟩:=h.P3;let hz:∀b∈[A.bl],b∈Z\/∀xs,H b≠!.lst xs:=λb hb=>.inl (by rw[Ζ.mp hb];show h.Sz.1)
 show⟨⟨dx,c.keep _ _ e (az Uz 1 [3] rfl rfl "!")⟩,h.WB.im c (az Uz 4 [3] rfl rfl "!") (az Uz 5 [3] rfl rfl "!"),h.VH,c.keep _ _ h.Qi (az Uz 6 [3] rfl rfl "!"),λi r d m h1 h2 h3=>?_,h.25,h.43,h.On,
  h.snd.im c (az Uz 7 [3] rfl rfl "!") (az Uz 8 [3] rfl rfl "!") (az Uz 9 [3] rfl rfl "!") (az Uz 10 [3] rfl rfl "!") hz,R.im h.44 c hF,h.Sz,h.zfk c hF,λb hb=>dE c (λb hb=>by rw[Ζ.mp hb];show hs) b (h.zo b hb),h.nd⟩
 show(h.row i r d m h1 h2 h3).im c (n1 λz=>nr.1 (z▸(Δ h1))) (n1 λz=>nr.2 (z▸(Δ h2)))
def QM.akG {A:CA}(h:QM k R t H A Z M)(c:ϛ B H H')(hB:∀b∈B,b∈R.F)(r':R'.R H')(nd:(A.fx++R'.F).14)(zf:∀b∈R'.F,b∈Z\/∀xs,H' b≠!.lst xs)(hs:∀b∈B,∃o,H' b=!o):QM k R' t H' A Z M:=by
 let n:∀{a:Ι},a∈A.fx->a∉B:=λha hb=>CA.iJ h.nd ha (hB _ hb);let f:∀{a:Ι},a∈[A.c,A.st,A.bk,A.bl,A.sh,A.73,A.rl,A.sn,A.l,A.t,A.p]->a∉B:=λha=>n (Η _ ha);obtain⟨dx,e⟩:=h.P3
 show⟨⟨dx,c.keep _ _ e (f (mi 1 rfl))⟩,h.WB.im c (f (mi 4 rfl)) (f (mi 5 rfl)),h.VH,c.keep _ _ h.Qi (f (mi 6 rfl)),
  λi r d m h1 h2 h3=>(h.row i r d m h1 h2 h3).im c (n (Β _ (Η _ (Δ h1)))) (n (Β _ (Β _ (Δ h2)))),h.25,h.43,h.On,
  h.snd.im c (f (mi 7 rfl)) (f (mi 8 rfl)) (f (mi 9 rfl)) (f (mi 10 rfl)) (λb hb=>h.zf b (hB b hb)),r',h.Sz,zf,λb hb=>dE c hs b (h.zo b hb),nd⟩
def Mv.aoS {l t p:Ι}(h:Mv C H r l t p Z M)(hy:∀b∈Y,H b=none):Mv C H r l t p (Y++Z) M:=by
 (show ϱ h.spo λkv e1 e2 e3=>?_)
 show⟨h.30,h.NT,h.las,(ϡ kv e1 e2 (λz hz=>by
  (show RA (e3 z hz) λq ts g1 g2 g3 g4=>?_)
  show(Fk q ts g1 g2 g3 (λm=>(Ξ.mp m).elim (λz=>by rw[hy q z] at g2;cases g2) g4)))),h.rl,h.rt,h.rp,h.lt,h.lp,h.tp⟩
abbrev Dq (C CD CB:Ι):Sp:=aR λr=>aS λs=>aN λH Q E=>∃dl bz us M,dL C CD H r dl bz us M/\((M.B s=none/\Q .k4 H)\/∃n,M.B s=!n/\Pt E H CB [("deed",.int n)])
abbrev Kx (C CD CB:Ι):Sp:=aR λr=>aS λs=>aI λe=>aN λH Q E=>∃dl bz us M,dL C CD H r dl bz us M/\((M.B s=none/\M.ds.4<=1000/\M.sz<=1000/\
 ∀u H',H u=none->ϛ [dl,bz] H H'->dL C CD H' r dl bz (us++[u]) (M.begin s e)->Q (.int (M.ds.4+1)) H')\/∃n,M.B s=!n/\Pt E H CB [("deed",.int n)])
abbrev Dr (C CD CN:Ι):Sp:=aR λr=>aS λs=>aN λH Q E=>∃dl bz us M,dL C CD H r dl bz us M/\((∃n,M.B s=!n/\Q (.int n) H)\/(M.B s=none/\Pt E H CN [("name",.str s)]))
abbrev Dt (C CD:Ι):Sp:=aR λr=>aI λk=>aN λH Q _=>∃(dl bz:Ι) (us:-Ι) (M:o0),dL C CD H r dl bz us M/\∃(i:Nat) (u:Ι),k=i+1/\us[i]?=!u/\Q (.ref u) H
abbrev Du (C CD:Ι):Sp:=aR λr=>aI λk=>aN λH Q _=>∃(dl bz:Ι) (us:-Ι) (M:o0),dL C CD H r dl bz us M/\∃(i:Nat) (x:Dd),k=i+1/\M.ds[i]?=!x/\Q (.str x.2.2) H
abbrev Jh (C CD CS:Ι):Sp:=aR λr=>aI λk=>aN λH Q E=>∃(dl bz:Ι) (us:-Ι) (M:o0),dL C CD H r dl bz us M/\((∃(i:Nat) (x:Dd),k=i+1/\M.ds[i]?=!x/\Q (.str x.1) H)\/((k < 1\/(M.ds.4:Int) < k)/\Pt E H CS [("name",.int k)]))
noncomputable abbrev M4:=Int×Int
noncomputable abbrev OV:=-Nat×Int×Int
abbrev Tb (x:M4):-V:=[.int x.1,.int x.2]
abbrev ahu (x:OV):-V:=[.str (S x.1),.int x.2.1,.int x.2.2]
abbrev aeW (e:-OV)(x:OV):Bool:=e.any λy=>decide (S y.1=S x.1/\y.2=x.2)
structure DX (C CD:Ι)(H:Hp)(r dl bz:Ι)(us MT NS:-Ι)(M:o0)(xs:-(-M4×-OV)):Prop where
 da:dL C CD H r dl bz us M
 l1:MT.4=us.4
 l2:NS.4=us.4
 l3:xs.4=us.4
 ob:∀(i:Nat) u s p x,us[i]?=!u->MT[i]?=!s->NS[i]?=!p->M.ds[i]?=!x->∃dx,H u=!.ins CD dx (OR x s p)
 sp:∀(i:Nat) s e,MT[i]?=!s->xs[i]?=!e->ϲ H s (e.1.map Tb)
 pl:∀(i:Nat) p e,NS[i]?=!p->xs[i]?=!e->ϲ H p (e.2.map ahu)
 ok:∀e∈xs,(∀y∈e.2,XE y.1)/\e.1.4<=1000/\e.2.4<=1000
 nd:(dl::(MT++NS)).14
def DX.same {dl:Ι}{xs:-(-M4×-OV)}(h:DX C CD H r dl bz us MT NS M xs)(s:Ω H H'):DX C CD H' r dl bz us MT NS M xs:=
 ⟨h.da.same s,h.l1,h.l2,h.l3,λi u a b x h1 h2 h3 h4=>let ⟨dx,e⟩:=h.ob i u a b x h1 h2 h3 h4;⟨dx,s _ _ e⟩,λi a e h1 h2=>(h.sp i a e h1 h2).same s,λi a e h1 h2=>(h.pl i a e h1 h2).same s,h.ok,h.nd⟩
def DX.im {A:-Ι}{dl:Ι}{xs:-(-M4×-OV)}(h:DX C CD H r dl bz us MT NS M xs)(c:ϛ A H H')(hr:r∉A)(hd:dl∉A)(hb:bz∉A)(hu:∀u∈us,u∉A)(hs:∀u∈MT,u∉A)(hp:∀u∈NS,u∉A):DX C CD H' r dl bz us MT NS M xs:=
 ⟨h.da.im c hr hd hb hu,h.l1,h.l2,h.l3,λi u a b x h1 h2 h3 h4=>let ⟨dx,e⟩:=h.ob i u a b x h1 h2 h3 h4;⟨dx,c.keep _ _ e (hu u (Δ h1))⟩,λi a e h1 h2=>(h.sp i a e h1 h2).im c (hs a (Δ h1)),λi a e h1 h2=>(h.pl i a e h1 h2).im c (hp a (Δ h1)),h.ok,h.nd⟩
def DX.kinds {dl:Ι}{xs:-(-M4×-OV)}(h:DX C CD H r dl bz us MT NS M xs){vs:-V}(ha:H a=!.lst vs):a≠r/\a≠bz/\a∉us:=by
 obtain⟨dx,e⟩:=h.da.30;(show ι h.da.ZB λϓ e2 _=>?_);show⟨bO ha e (by intro z;cases z),bO ha e2 (by intro z;cases z),λm=>?_⟩;obtain⟨i,hi⟩:=Ϣ m;let Qw:=(Α.mp hi).1;let ul:=h.da.25;(show TY (h.da.each i a _ hi (Ε ())) λd s p e3=>?_);rw[ha] at e3;cases e3
abbrev akH (M:o0)(k:Int):Prop:=k < 1\/(M.ds.4:Int) < k
abbrev Dv (CD:Ι):Sp:=aR λx=>aS λs=>aI λe=>aN λH Q _=>∃dx,H x=!.ins CD dx []/\∀sp pl H',H sp=none->H pl=none->sp≠pl->ϛ [x] H H'->H' x=!.ins CD dx (OR (s,e,ii) sp pl)->H' sp=!.lst []->H' pl=!.lst []->Q .k4 H'
abbrev zK (C CD:Ι):Sp:=aR λr=>aS λs=>aI λe=>aN λH Q _=>∃dl bz us MT NS M xs,DX C CD H r dl bz us MT NS M xs/\M.B s=none/\M.ds.4<=1000/\M.sz<=1000/\
 ∀u sp pl H',H u=none->H sp=none->H pl=none->ϛ [dl,bz] H H'->DX C CD H' r dl bz (us++[u]) (MT++[sp]) (NS++[pl]) (M.begin s e) (xs++[([],[])])->Q (.int (M.ds.4+1)) H'
abbrev Dw (C CD:Ι):Sp:=aR λr=>aI λk=>aI λa=>aI λb=>aN λH Q _=>∃(dl bz:Ι) (us MT NS:-Ι) (M:o0) (xs:-(-M4×-OV)),DX C CD H r dl bz us MT NS M xs/\
 ∃(i:Nat) (e:-M4×-OV) (s:Ι),k=i+1/\xs[i]?=!e/\MT[i]?=!s/\e.1.4 < 1000/\∀H',ϛ [s] H H'->DX C CD H' r dl bz us MT NS M (xs.set i (e.1++[(a,b)],e.2))->Q .k4 H'
abbrev Lf (C CD CS CT:Ι):Sp:=aR λr=>aI λk=>aT λz3=>aI λz4=>aI λz5=>aN λH Q E=>∃(dl bz:Ι) (us MT NS:-Ι) (M:o0) (xs:-(-M4×-OV)) (y:OV),z3=y.1/\z4=y.2.1/\z5=y.2.2/\DX C CD H r dl bz us MT NS M xs/\XE y.1/\
 ((∃(i:Nat) (e:-M4×-OV),k=i+1/\xs[i]?=!e/\((aeW e.2 y=false/\∀H',Ω H H'->Q .k4 H')\/(aeW e.2 y=true/\Pt E H CT [("row",.int y.2.1),("loan",.int y.2.2)])))\/(akH M k/\Pt E H CS [("name",.int k)]))
abbrev Ji (C CD CS CT:Ι):Sp:=aR λr=>aI λk=>aT λz3=>aI λz4=>aI λz5=>aN λH Q E=>∃(dl bz:Ι) (us MT NS:-Ι) (M:o0) (xs:-(-M4×-OV)) (y:OV),z3=y.1/\z4=y.2.1/\z5=y.2.2/\DX C CD H r dl bz us MT NS M xs/\XE y.1/\
 ((∃(i:Nat) (e:-M4×-OV) (p:Ι),k=i+1/\xs[i]?=!e/\NS[i]?=!p/\((aeW e.2 y=false/\e.2.4 < 1000/\∀H',ϛ [p] H H'->DX C CD H' r dl bz us MT NS M (xs.set i (e.1,e.2++[y]))->Q .k4 H')\/(aeW e.2 y=true/\Pt E H CT [("row",.int y.2.1),("loan",.int y.2.2)])))\/(akH M k/\Pt E H CS [("name",.int k)]))
abbrev xC (C CD:Ι):Sp:=aR λr=>aI λk=>aS λz=>aN λH Q _=>∃(dl bz:Ι) (us MT NS:-Ι) (M:o0) (xs:-(-M4×-OV)),DX C CD H r dl bz us MT NS M xs/\
 ∃(i:Nat) (u:Ι) (x:Dd),k=i+1/\us[i]?=!u/\M.ds[i]?=!x/\M.B x.1=!((i:Int)+1)/\∀H',ϛ [u,bz] H H'->DX C CD H' r dl bz us MT NS (M.finish i x z) xs->Q .k4 H'
abbrev zL (C CD:Ι):Sp:=aR λr=>aI λk=>aN λH Q _=>∃(dl bz:Ι) (us MT NS:-Ι) (M:o0) (xs:-(-M4×-OV)),DX C CD H r dl bz us MT NS M xs/\
 ∃(i:Nat) (e:-M4×-OV),k=i+1/\xs[i]?=!e/\∀D H',H D=none->Ω H H'->ϲ H' D (e.1.map Tb)->Q (.ref D) H'
abbrev vE (C CD:Ι):Sp:=aR λr=>aI λk=>aN λH Q _=>∃(dl bz:Ι) (us MT NS:-Ι) (M:o0) (xs:-(-M4×-OV)),DX C CD H r dl bz us MT NS M xs/\
 ∃(i:Nat) (e:-M4×-OV),k=i+1/\xs[i]?=!e/\∀D H',H D=none->Ω H H'->ϲ H' D (e.2.map ahu)->Q (.ref D) H'
structure ZF (H:Hp)(ts ls:-Ι)(M:o0)(xs:-(-M4×-OV))(n:Nat):Prop where
 t:ts.4=n
 l:ls.4=n
 at':∀(i:Nat) t l x e,ts[i]?=!t->ls[i]?=!l->M.ds[i]?=!x->xs[i]?=!e->H t=!.tup [.str x.2.2,.ref l]/\ϲ H l (e.1.map Tb)
abbrev zM (C CD:Ι):Sp:=aR λr=>aN λH Q _=>∃dl bz us MT NS M xs,DX C CD H r dl bz us MT NS M xs/\M.ds.4<=1000/\
 ∀D ts ls H',H D=none->Ω H H'->H' D=!.lst (ts.map V.ref)->ZF H' ts ls M xs xs.4->(∀l∈ls,H l=none)->(D::ls).14->Q (.ref D) H'
def Jj {l:-Ι}(h:l.14)(hi:l[i]?=!a)(hj:l[j]?=!b)(hne:i≠j):a≠b:=by
 obtain⟨h1,e1⟩:=Α.mp hi;obtain⟨h2,e2⟩:=Α.mp hj;let hp:=gl.mp h;rcases Ob hne with z | z
 ·intro e;show hp i j h1 h2 z (e1.trans (e.trans e2.17))
 ·intro e;show hp j i h2 h1 z (e2.trans (e.symm.trans e1.17))
section
variable {dl:Ι} {us:-Ι} {M:o0} {xs:-(-M4×-OV)} {e:-M4×-OV}
def DX.aoT (h:DX C CD H r dl bz us MT NS M xs)(hs:MT[i]?=!s)(he:xs[i]?=!e)(c:ϛ [s] H H')(hL:ϲ H' s (e1.map Tb))(hl:e1.4<=1000):DX C CD H' r dl bz us MT NS M (xs.set i (e1,e.2)):=by
 (show ι (h.sp i s e hs he) λts0 e0 _=>?_);(show sw (h.kinds e0) λk1 k2 k3=>?_);obtain⟨n1,n2⟩:=ϊ.mp h.nd;(show sw (υ.mp n2) λm1 m2 m3=>?_);let hsm:=Δ hs;let ndl:dl∉[s]:=by simp;show λz=>n1 (by rw[z];show Η _ hsm)
 let nu:∀u∈us,u∉[s]:=λu hu=>by simp;show λz=>k3 (z▸hu)
 let Qw:=(Α.mp he).1;show⟨h.da.im c (by simp;show ψ k1) ndl (by simp;show ψ k2) nu,h.l1,h.l2,by rw[ϗ];show h.l3,λj u a b x h1 h2 h3 h4=>?_,λj a e' h1 h2=>?_,λj a e' h1 h2=>?_,λe' Rm=>?_,h.nd⟩
 ·obtain⟨dx,z⟩:=h.ob j u a b x h1 h2 h3 h4
  show⟨dx,c.keep _ _ z (nu u (Δ h1))⟩
 ·by_cases ej:i=j
  ·subst ej
   rw[ϑ Qw] at h2;cases h2;rw[hs] at h1;cases h1;show hL
  ·rw[ϔ ej] at h2
   show(h.sp j a e' h1 h2).im c (by simp;show Jj m1 h1 hs (ψ ej))
 ·let nap:a∉[s]:=by simp;show λz=>m3 s hsm a (Δ h1) z.17
  by_cases ej:i=j
  ·subst ej
   rw[ϑ Qw] at h2;cases h2;show(h.pl i a e h1 he).im c nap
  ·rw[ϔ ej] at h2
   show(h.pl j a e' h1 h2).im c nap
 ·rcases Ev Rm with z | z
  ·show h.ok e' z
  ·rw[z]
   (show sw (h.ok e (Δ he)) λo1 o2 o3=>?_);show⟨o1,hl,o3⟩
def DX.get (h:DX C CD H r dl bz us MT NS M xs)(he:xs[i]?=!e):∃u s p x dx,us[i]?=!u/\MT[i]?=!s/\NS[i]?=!p/\M.ds[i]?=!x/\H u=!.ins CD dx (OR x s p)/\ϲ H s (e.1.map Tb)/\ϲ H p (e.2.map ahu):=by
 let Qw:=(Α.mp he).1;let a1:=h.l1;let a2:=h.l2;let a3:=h.l3;let a4:=h.da.25;let h1:us[i]?=some us[i]:=Ε ();let h2:MT[i]?=some MT[i]:=Ε ();let h3:NS[i]?=some NS[i]:=Ε ();let h4:M.ds[i]?=some M.ds[i]:=Ε ();obtain⟨dx,z⟩:=h.ob i _ _ _ _ h1 h2 h3 h4;show(QA _ _ _ _ dx h1 h2 h3 h4 z ⟨h.sp i _ e h2 he,h.pl i _ e h3 he⟩)
end
def oi (x:Dd)(sp pl:Ι):(OR x sp pl).lookup (ϒ "spots")=!.ref sp:=rfl
def xD (x:Dd)(sp pl:Ι):(OR x sp pl).lookup (ϒ "pledges")=!.ref pl:=rfl
structure DA where
 us:-Ι
 MT:-Ι
 NS:-Ι
structure DM where
 M:o0
 xs:-(-M4×-OV)
 R:acZ
abbrev fD (A:CA)(d:DA):-Ι:=[A.de,A.dl,A.bz,A.gr,A.rd,A.ra,A.rb]++(d.us++(d.MT++d.NS))
structure YJ (k:CK)(CD:Ι)(A:CA)(d:DA)(m:DM)(H:Hp):Prop where
 dx:DX k.D CD H A.de A.dl A.bz d.us d.MT d.NS m.M m.xs
 rd:Sx k.Rd H A.rd A.ra A.rb m.R
 gr:H A.gr=!.dK []
def YJ.im {A:CA}{d:DA}(h:YJ k CD A d m H)(c:ϛ B H H')(hB:∀b∈B,b∉fD A d):YJ k CD A d m H':=by
 let n:∀{a:Ι},a∈fD A d->a∉B:=λha hb=>hB _ hb ha;let f:∀{a:Ι},a∈[A.de,A.dl,A.bz,A.gr,A.rd,A.ra,A.rb]->a∉B:=λha=>n (Η _ ha)
 show⟨h.dx.im c (f (mi 0 rfl)) (f (mi 1 rfl)) (f (mi 2 rfl)) (λu hu=>n (Β _ (Η _ hu))) (λu hu=>n (Β _ (Β _ (Η _ hu)))) (λu hu=>n (Β _ (Β _ (Β _ hu)))),
  h.rd.im c (f (mi 4 rfl)) (f (mi 5 rfl)) (f (mi 6 rfl)),c.keep _ _ h.gr (f (mi 3 rfl))⟩
def YJ.here {A:CA}{d:DA}(h:YJ k CD A d m H):∀b∈fD A d,∃o,H b=!o:=λb hb=>by
 obtain⟨_,e1⟩:=h.22;(show ι h.dx.da.ZB λ_ e2 _=>?_);obtain⟨_,e3⟩:=h.rd.30;(show ι h.rd.row λ_ e4 _=>?_);(show ι h.rd.pla λ_ e5 _=>?_);let q0:=h.dx.da.25;let q1:=h.dx.l1;let q2:=h.dx.l2;let q3:=h.dx.l3;rcases Ξ.mp hb with hb | hb
 ·simp only[Κ,Μ,χ] at hb
  rcases hb with rfl | rfl | rfl | rfl | rfl | rfl | rfl
  ·show⟨_,e1⟩
  ·show⟨_,h.dx.da.28⟩
  ·show⟨_,e2⟩
  ·show⟨_,h.gr⟩
  ·show⟨_,e3⟩
  ·show⟨_,e4⟩
  ·show⟨_,e5⟩
 ·rcases Ξ.mp hb with hb | hb
  ·obtain⟨i,hi⟩:=Ϣ hb
   let Qw:=(Α.mp hi).1;(show TY (h.dx.da.each i b _ hi (Ε ())) λ_ _ _ e=>?_);show⟨_,e⟩
  ·rcases Ξ.mp hb with hb | hb
   ·obtain⟨i,hi⟩:=Ϣ hb
    let Qw:=(Α.mp hi).1;(show ι (h.dx.sp i b _ hi (Ε ())) λ_ e _=>?_);show⟨_,e⟩
   ·obtain⟨i,hi⟩:=Ϣ hb
    let Qw:=(Α.mp hi).1;(show ι (h.dx.pl i b _ hi (Ε ())) λ_ e _=>?_);show⟨_,e⟩
abbrev af0 (k:CK)(CD:Ι)(A:CA)(d:DA)(m:DM):ac1:=⟨fD A d,YJ k CD A d m,λh c hB=>h.im c hB,λh=>h.here⟩
theorem UA (k:CK)(CD:Ι)(t:Int)(H:Hp)(A:CA)(d:DA)(Z:-Ι)(M:CM)(m:DM):Prop:=QM k (af0 k CD A d m) t H A Z M
theorem WC (k:CK)(CD:Ι)(t:Int)(H:Hp)(A:CA)(d:DA)(Z:-Ι)(M:CM)(m:DM):Prop:=Xh k (af0 k CD A d m) t H A Z M
def Xh.im {A:CA}(h:Xh k R t H A Z M)(c:ϛ B H H')(hB:∀b∈B,b∉A.fx)(hF:∀b∈B,b∉R.F)(hz:∀b∈B,b∈Z\/∀xs,H b≠!.lst xs)(hs:∀b∈B,∃o,H' b=!o):Xh k R t H' A Z M:=by
 let f:∀{a:Ι},a∈[A.c,A.st,A.bk,A.bl,A.sh,A.73,A.rl,A.sn,A.l,A.t,A.p]->a∉B:=λha hb=>hB _ hb (Η _ ha);obtain⟨dx,e⟩:=h.QL;obtain⟨dx2,e2⟩:=h.book.30;show⟨⟨dx,c.keep _ _ e (f (mi 0 rfl))⟩,⟨⟨dx2,c.keep _ _ e2 (f (mi 2 rfl))⟩,c.keep _ _ h.book.28 (f (mi 3 rfl))⟩,h.st.im c hB hF hz hs⟩
def Xh.same {A:CA}(h:Xh k R t H A Z M)(s:Ω H H'):Xh k R t H' A Z M:=h.im (B:=[]) (ϛ.of_same s) (λ_ z=>nomatch z) (λ_ z=>nomatch z) (λ_ z=>nomatch z) (λ_ z=>nomatch z)
def Xh.wrote {A:CA}(h:Xh k R t H A Z M)(c:ϛ [A.bl] H H')(b:NW k.B H' A.bk A.bl ls):Xh k R t H' A Z { M with ls:=ls }:=by
 obtain⟨dx,e⟩:=h.QL;show⟨⟨dx,c.keep _ _ e (az (CA.ac2 (CA.uf h.st.nd)) 0 [3] rfl rfl "!")⟩,b,h.st.lines c ⟨_,b.28⟩ ls⟩
def Xh.stood {k:CK}{R R':ac1}{t':Int}{A:CA}{B:-Ι}{M M':CM}(h:Xh k R t H A Z M)(c:ϛ B H H')(hB:∀b∈B,b∈A.st::A.l::A.t::A.p::(A.rs++A.ds)\/b∈R.F)(s':QM k R' t' H' A Z' M')(e:M'.ls=M.ls):Xh k R' t' H' A Z' M':=by
 let nf:=CA.uf h.st.nd;let no:∀(m:Nat) a,[A.c,A.st,A.bk,A.bl,A.sh,A.73,A.rl,A.sn,A.l,A.t,A.p][m]?=!a->m∉[1,8,9,10]->a∉B:=λm a ha hm hb=>by
  let n1:=CA.mK nf (mi m ha);rcases hB a hb with z | z
  ·rcases Ξ.mp (show a∈[A.st,A.l,A.t,A.p]++(A.rs++A.ds) from z) with z | z
   ·show (az (A:=[A.st,A.l,A.t,A.p]) (CA.ac2 nf) m [1,8,9,10] ha rfl hm) z
   ·show(Ξ.mp z).elim n1.1 n1.2
  ·show CA.iJ h.st.nd (Η _ (mi m ha)) z
 obtain⟨dx,e1⟩:=h.QL;obtain⟨dx2,e2⟩:=h.book.30;show⟨⟨dx,c.keep _ _ e1 (no 0 _ rfl "!")⟩,⟨⟨dx2,c.keep _ _ e2 (no 2 _ rfl "!")⟩,by rw[e];show c.keep _ _ h.book.28 (no 3 _ rfl "!")⟩,s'⟩
def Xh.there {A:CA}(h:Xh k R t H A Z M):∀b∈A.fx++R.F,∃o,H b=!o:=λb hb=>by
 obtain⟨dx1,e1⟩:=h.QL;obtain⟨dx2,e2⟩:=h.book.30;obtain⟨dx3,e3⟩:=h.st.P3;obtain⟨dx4,e4⟩:=h.st.WB.30;(show ι h.st.WB.28 λ_ e5 _=>?_);obtain⟨dx6,e6⟩:=h.st.snd.30;(show ι h.st.snd.NT λ_ e7 _=>?_);(show ι h.st.snd.las λ_ e8 _=>?_);(show ι h.st.snd.spo λ_ e9 _=>?_);rcases Ξ.mp hb with hb | hb
 ·unfold CA.fx at hb
  rcases Ξ.mp hb with hb | hb
  ·simp only[Κ,Μ,χ] at hb
   rcases hb with rfl | rfl | rfl | rfl | rfl | rfl | rfl | rfl | rfl | rfl | rfl
   ·show⟨_,e1⟩
   ·show⟨_,e3⟩
   ·show⟨_,e2⟩
   ·show⟨_,h.book.28⟩
   ·show⟨_,e4⟩
   ·show⟨_,e5⟩
   ·show⟨_,h.st.Qi⟩
   ·show⟨_,e6⟩
   ·show⟨_,e7⟩
   ·show⟨_,e8⟩
   ·show⟨_,e9⟩
  ·rcases Ξ.mp hb with hb | hb
   ·obtain⟨i,hi⟩:=Ϣ hb
    let Qw:=(Α.mp hi).1;let hd:A.ds[i]?=!(A.ds[i]'(by rw[h.st.43];show Qw)):=by simp
    let hm:M.Ms[i]?=!(M.Ms[i]'(by rw[h.st.On];show Qw)):=by simp
    obtain⟨_,e⟩:=(h.st.row i b _ _ hi hd hm).30;show⟨_,e⟩
   ·obtain⟨i,hi⟩:=Ϣ hb
    let Qw:=(Α.mp hi).1;let hr:A.rs[i]?=!(A.rs[i]'(by rw[<-h.st.43];show Qw)):=by simp
    let hm:M.Ms[i]?=!(M.Ms[i]'(by rw[h.st.On,<-h.st.43];show Qw)):=by simp
    (show ι ((h.st.row i _ b _ hr hi hm).51) λ_ e _=>?_);show⟨_,e⟩
 ·show R.here h.st.44 b hb
def Xh.RD {A:CA}(h:Xh k R t H A Z M)(e:H b=none):b∉A.fx++R.F:=λz=>by
 obtain⟨o,q⟩:=h.there b z;rw[e] at q;cases q
noncomputable abbrev EvL:=-(Str×-Str×Ι)
abbrev zN (L:EvL):Sp:=aS λn=>aR λp=>aN λH Q _=>∃pa ps,H p=!(.lst (ps.map λx=>x.2.1))/\(n,ps.map (·.1),pa)∈L/\Sy n ps/\
 ∀D H',H D=none->Ω H H'->H' D=!.dK (RC n ps)->Q (.ref D) H'
abbrev Dx (L:EvL):Sp:=aR λD=>aN λH Q _=>∃n pa ps,H D=!.dK (RC n ps)/\(n,ps.map (·.1),pa)∈L/\Sy n ps/\
 ∀b H',Ω H H'->okB b->Q (.str (S b)) H'
abbrev SA (dd:Nat)(n:-Nat)(e:Nat):-Part:=[("deed",.int (dd:Int),MO (dd:Int)),("sender",.str (S n),n),("end",.int (e:Int),MO (e:Int))]
abbrev Q3 (dd:Nat):-Part:=[("deed",.int (dd:Int),MO (dd:Int))]
abbrev Xj (t:Nat):-Part:=[("turn",.int (t:Int),MO (t:Int))]
abbrev ac3 (ph pp pb pc pd pt:Ι):EvL:=[("hail",["sender","life"],ph),("put",["sender","number","deed","row","place","key","word"],pp),("begin",["deed","sender","end"],pb),("close",["deed"],pc),("drop",["deed"],pd),("turn",["turn"],pt)]
def ahx {x a b c d e f:α}(h:x∈[a,b,c,d,e,f]):x=a\/x=b\/x=c\/x=d\/x=e\/x=f:=by
 simpa using h
def bH {l:-α}{x:α}(i:Nat)(h:l[i]?=!x):x∈l:=Δ h
abbrev M5:Str:=ϒ "closed"
abbrev wT:Str:=ϒ "dropped"
abbrev stB (A:CA)(F:-Ι):-Ι:=(A.st::A.l::A.t::A.p::(A.rs++A.ds))++F
abbrev UB (k:CK)(CD:Ι)(H:Hp)(A:CA)(d:DA)(Z:-Ι)(t':Int)(M':CM)(m':DM)(R:Hp->Prop):Prop:=
 ∀H' d' Z',ϛ (stB A (fD A d)) H H'->(∀b∈fD A d',b∈fD A d\/H b=none)->(∀b∈Z,b∈Z')->UA k CD t' H' A d' Z' M' m'->R H'
abbrev DM.hold (m:DM)(j:Nat)(e:-M4×-OV)(y:M4):DM:={ m with xs:=m.xs.set j (e.1++[y],e.2) }
abbrev DM.begin (m:DM)(s:Str)(e:Int):DM:={ m with M:=m.M.begin s e,xs:=m.xs++[([],[])] }
abbrev DM.finish (m:DM)(j:Nat)(x:Dd)(z:Str):DM:={ m with M:=m.M.finish j x z }
abbrev O0 (Ms:-MB)(MT:-M4):-MB:=MT.foldl (λMs s=>Ms.modify s.1.6 λm=>m.out s.2) Ms
abbrev xE (k:CK)(CD:Ι):Sp:=aR λz1=>aR λD=>aN λH Q _=>∃t A,z1=A.st/\∃d Z M m n kk,UA k CD t H A d Z M m/\H D=!.dK (RC "hail" (Xe n kk))/\M.S.sz<=100000/\(∀v,M.S.L (S n)=!v->1<=v)/\
 UB k CD H A d Z t (M.GM (S n)) m (Q .k4)
abbrev xF (k:CK)(CD:Ι):Sp:=aR λz1=>aR λD=>aN λH Q _=>∃t A,z1=A.st/\∃d Z M m t',UA k CD t H A d Z M m/\H D=!.dK (RC "turn" (Xj t'))/\UB k CD H A d Z (t':Int) M m (Q .k4)
abbrev uh (k:CK)(CD:Ι):Sp:=aR λz1=>aR λD=>aN λH Q _=>∃t A,z1=A.st/\∃d Z M m dd n e,UA k CD t H A d Z M m/\H D=!.dK (RC "begin" (SA dd n e))/\m.M.B (S n)=none/\m.M.ds.4<=1000/\m.M.sz<=1000/\(∀b∈A.fx,∃o,H b=!o)/\
 UB k CD H A d Z t M (m.begin (S n) e) (Q .k4)
abbrev ui (k:CK)(CD:Ι):Sp:=aR λz1=>aR λD=>aN λH Q _=>∃t A,z1=A.st/\∃d Z M m j x,UA k CD t H A d Z M m/\H D=!.dK (RC "close" (Q3 (j+1)))/\m.63[j]?=!x/\m.M.B x.1=!((j:Int)+1)/\
 UB k CD H A d Z t M (m.finish j x M5) (Q .k4)
abbrev xG (k:CK)(CD:Ι):Sp:=aR λz1=>aR λD=>aN λH Q _=>∃t A,z1=A.st/\∃d Z M m j x e,UA k CD t H A d Z M m/\H D=!.dK (RC "drop" (Q3 (j+1)))/\D∉stB A (fD A d)/\m.63[j]?=!x/\m.M.B x.1=!((j:Int)+1)/\m.xs[j]?=!e/\(∀s∈e.1,0<=s.1/\s.1 < A.rs.4)/\
 UB k CD H A d Z t { M with Ms:=O0 M.Ms e.1 } (m.finish j x wT) (Q .k4)
abbrev Bq (k:CK)(CD:Ι):Sp:=aR λz1=>aR λD=>aN λH Q _=>∃t A,z1=A.st/\∃d Z M m n kk dd i pl key wo mr,UA k CD t H A d Z M m/\H D=!.dK (RC "put" (VG n kk dd i pl key wo))/\D∉stB A (fD A d)/\
 M.Ms[i]?=!mr/\mr.19<=10000/\M.S.sz<=100000/\(M.S.L (S n)).12=true/\(kk:Int)=M.S.T (S n)+1/\
 ((dd=0/\UB k CD H A d Z t (M.put i mr (key,wo,0) (S n) kk) m (Q .k4))\/∃j e,dd=j+1/\m.xs[j]?=!e/\e.1.4 < 1000/\UB k CD H A d Z t (M.put i mr (key,wo,(dd:Int)) (S n) kk) (m.hold j e ((i:Int),mr.19)) (Q .k4))
def mL {A:CA}{F:-Ι}(h:b∈A.l::A.t::A.p::(A.rs++A.ds)):b∈stB A F:=Η _ (θ _ h)
def mM {A:CA}{F:-Ι}(h:b∈F):b∈stB A F:=Β _ h
def fN {A:CA}{d:DA}:∀b∈fD A d,b∈fD A d\/H b=none:=λ_ h=>.inl h
def QM.af1 {A:CA}{d:DA}(h:UA k CD t H A d Z M m)(c:ϛ B H H')(hB:∀b∈B,b∈fD A d)(dx:DX k.D CD H' A.de A.dl A.bz d.us d.MT d.NS m'.M m'.xs)(e:m'.R=m.R)(nB:∀b∈B,b∉[A.gr,A.rd,A.ra,A.rb])(hz:∀b∈B,b∈Z\/∀xs,H' b≠!.lst xs):UA k CD t H' A d Z M m':=by
 let I:=h.44;let n:∀{a:Ι},a∈[A.gr,A.rd,A.ra,A.rb]->a∉B:=λha hb=>nB _ hb ha;let I':YJ k CD A d m' H':=⟨dx,by rw[e];show I.rd.im c (n (mi 1 rfl)) (n (mi 2 rfl)) (n (mi 3 rfl)),c.keep _ _ I.gr (n (mi 0 rfl))⟩
 show h.akG c hB I' h.nd (λb hb=>?_) (λb hb=>I'.here b (hB b hb));rcases h.zf b hb with z | z
 ·show .inl z
 ·by_cases mb:b∈B
  ·show hz b mb
  ·obtain⟨o,eo⟩:=I.here b hb
   show .inr λxs q=>z xs ?_;rw[c.keep _ _ eo mb] at q;rw[eo];show q
def o7 (A:CA)(t:Int):(stG A t).lookup (ϒ "shelves")=!.ref A.sh:=rfl
def jv (A:CA)(t:Int):(stG A t).lookup (ϒ "rows")=!.ref A.rl:=rfl
def cJ (A:CA)(t:Int):(stG A t).lookup (ϒ "senders")=!.ref A.sn:=rfl
def bB (A:CA)(t:Int):(stG A t).lookup (ϒ "deeds")=!.ref A.de:=rfl
def xH (A:CA)(t:Int):(stG A t).lookup (ϒ "turn")=!.int t:=rfl
def Dy (dd:Nat)(n:-Nat)(e:Nat):lc (RC "begin" (SA dd n e)) (.inr "sender")=!.str (S n):=by rfl
def Ky (dd:Nat)(n:-Nat)(e:Nat):lc (RC "begin" (SA dd n e)) (.inr "end")=!(.int (e:Int)):=by rfl
def Ig (dd:Nat):lc (RC "close" (Q3 dd)) (.inr "deed")=!(.int (dd:Int)):=by rfl
def Br (dd:Nat):lc (RC "drop" (Q3 dd)) (.inr "deed")=!(.int (dd:Int)):=by rfl
def Ih (t:Nat):lc (RC "turn" (Xj t)) (.inr "turn")=!(.int (t:Int)):=by rfl
def QM.inZ {A:CA}(h:QM k R t H A Z M)(hb:b∈R.F)(e:H b=!.lst xs):b∈Z:=(h.zf b hb).resolve_right λz=>z xs e
def Bs {A:CA}{d:DA}(h:b∈d.us):b∈fD A d:=Β _ (Η _ h)
def rq {A:CA}{d:DA}(h:b∈d.MT):b∈fD A d:=Β _ (Β _ (Η _ h))
def Ga {A:CA}{d:DA}(h:b∈d.NS):b∈fD A d:=Β _ (Β _ (Β _ h))
def rA {A:CA}{d:DA}(h:b∈[A.de,A.dl,A.bz,A.gr,A.rd,A.ra,A.rb]):b∈fD A d:=Η _ h
def QM.ndF {A:CA}{d:DA}(h:UA k CD t H A d Z M m):(fD A d).14:=(υ.mp h.nd).2.1
def QM.ndX {A:CA}{d:DA}(h:UA k CD t H A d Z M m)(ha:a∈[A.de,A.dl,A.bz,A.gr,A.rd,A.ra,A.rb])(hb:b∈d.us++(d.MT++d.NS)):b≠a:=λz=>(υ.mp h.ndF).2.2 a ha b hb z.17
def m47 {x a b c:α}(h:x∈l):x∈a::b::c::l:=θ _ (θ _ (θ _ h))
def QM.held {A:CA}{d:DA}{M:CM}{m:DM}{e:-M4×-OV}{y:M4}(h:UA k CD t H A d Z M m)(hs:d.MT[j]?=!s)(he:m.xs[j]?=!e)(c:ϛ [s] H H')(dx:DX k.D CD H' A.de A.dl A.bz d.us d.MT d.NS m.M (m.xs.set j (e.1++[y],e.2))):UA k CD t H' A d Z M (m.hold j e y):=by
 let ms:=Δ hs;let mz:s∈Z:=by
  (show ι (h.rest.dx.sp j s e hs he) λ_ e1 _=>?_);show h.inZ (rq ms) e1
 show h.af1 c (λb hb=>by rw[Ζ.mp hb];show rq ms) dx rfl (λb hb hm=>?_) (λb hb=>.inl (by rw[Ζ.mp hb];show mz));rw[Ζ.mp hb] at hm;let m7:s∈[A.de,A.dl,A.bz,A.gr,A.rd,A.ra,A.rb]:=by
  show m47 hm
 show h.ndX m7 (Β _ (Η _ ms)) rfl
def QM.finished {A:CA}{d:DA}{x:Dd}{u:Ι}(h:UA k CD t H A d Z M m)(hu:d.us[j]?=!u)(c:ϛ [u,A.bz] H H')(dx:DX k.D CD H' A.de A.dl A.bz d.us d.MT d.NS (m.M.finish j x z) m.xs):UA k CD t H' A d Z M (m.finish j x z):=by
 let mu:=Δ hu;show h.af1 c (λb hb=>?_) dx rfl (λb hb hm=>?_) (λb hb=>.inr λxs q=>?_)
 ·simp only[Κ,Μ,χ] at hb
  rcases hb with rfl | rfl
  ·show Bs mu
  ·show rA (mi 2 rfl)
 ·simp only[Κ,Μ,χ] at hb
  rcases hb with rfl | rfl
  ·let m7:b∈[A.de,A.dl,A.bz,A.gr,A.rd,A.ra,A.rb]:=by
    show m47 hm
   show h.ndX m7 (Η _ mu) rfl
  ·show az ((υ.mp h.ndF).1) 2 [3,4,5,6] rfl rfl "!" hm
 ·(show ι dx.da.ZB λ_ e1 _=>?_)
  simp only[Κ,Μ,χ] at hb;rcases hb with rfl | rfl
  ·let Qw:=(Α.mp hu).1
   let ul:=dx.da.25;(show TY (dx.da.each j b _ hu (Ε ())) λ_ _ _ e2=>?_);rw[e2] at q;cases q
  ·rw[e1] at q;cases q
def QM.begun {A:CA}{d:DA}{e:Int}{u sp pl:Ι}(h:UA k CD t H A d Z M m)(hu:H u=none)(PX:H sp=none)(Pm:H pl=none)(c:ϛ [A.dl,A.bz] H H')(dx:DX k.D CD H' A.de A.dl A.bz (d.us++[u]) (d.MT++[sp]) (d.NS++[pl]) (m.M.begin s e) (m.xs++[([],[])]))(hfx:∀b∈A.fx,∃o,H b=!o):UA k CD t H' A ⟨d.us++[u],d.MT++[sp],d.NS++[pl]⟩ ([sp,pl]++Z) M (m.begin s e):=by
 let I:=h.44;let n7:=(υ.mp h.ndF).1;let lx:=I.dx.l3;(show ι (dx.sp d.us.4 sp ([],[]) (by rw[<-I.dx.l1];simp) (by rw[<-lx];simp)) λ_ esp _=>?_);(show ι (dx.pl d.us.4 pl ([],[]) (by rw[<-I.dx.l2];simp) (by rw[<-lx];simp)) λ_ epl _=>?_);let kd:=dx.kinds dx.da.28;let nsp:sp≠u:=λz=>(dx.kinds esp).2.2 (by rw[z];simp);let npl:pl≠u:=λz=>(dx.kinds epl).2.2 (by rw[z];simp);let nsl:=λz=>by
  have:=(υ.mp (ϊ.mp dx.nd).2).2.2;show this sp ∅ pl ∅ z
 let old:=λb hb=>(Ξ.mp hb).elim (hfx b) (I.here b);let no:∀{b:Ι},H b=none->b∉A.fx++fD A d:=λe z=>by
  obtain⟨o,q⟩:=old _ z;rw[e] at q;cases q
 let hB:∀b∈[A.dl,A.bz],b∈fD A d:=λb hb=>by
  simp only[Κ,Μ,χ] at hb;rcases hb with rfl | rfl
  ·show rA (mi 1 rfl)
  ·show rA (mi 2 rfl)
 let I':YJ k CD A ⟨d.us++[u],d.MT++[sp],d.NS++[pl]⟩ (m.begin s e) H':=⟨dx,I.rd.im c (az n7 4 [1,2] rfl rfl "!") (az n7 5 [1,2] rfl rfl "!") (az n7 6 [1,2] rfl rfl "!"),c.keep _ _ I.gr (az n7 3 [1,2] rfl rfl "!")⟩
 let n:∀{a:Ι},a∈A.fx->a∉[A.dl,A.bz]:=λha hb=>CA.iJ h.nd ha (hB _ hb);let f:∀{a:Ι},a∈[A.c,A.st,A.bk,A.bl,A.sh,A.73,A.rl,A.sn,A.l,A.t,A.p]->a∉[A.dl,A.bz]:=λha=>n (Η _ ha);obtain⟨dx0,e0⟩:=h.P3;let hy:∀b∈[sp,pl],H b=none:=λb hb=>by
  simp only[Κ,Μ,χ] at hb;rcases hb with rfl | rfl
  ·show PX
  ·show Pm
 let hs2:∀b∈[A.dl,A.bz],∃o,H' b=!o:=λb hb=>by
  (show ι dx.da.ZB λ_ e1 _=>?_);simp only[Κ,Μ,χ] at hb;rcases hb with rfl | rfl
  ·show⟨_,dx.da.28⟩
  ·show⟨_,e1⟩
 show⟨⟨dx0,c.keep _ _ e0 (f (mi 1 rfl))⟩,h.WB.im c (f (mi 4 rfl)) (f (mi 5 rfl)),h.VH,c.keep _ _ h.Qi (f (mi 6 rfl)),
  λi r d m h1 h2 h3=>(h.row i r d m h1 h2 h3).im c (n (Β _ (Η _ (Δ h1)))) (n (Β _ (Β _ (Δ h2)))),h.25,h.43,h.On,
  (h.snd.aoS hy).im c (f (mi 7 rfl)) (f (mi 8 rfl)) (f (mi 9 rfl)) (f (mi 10 rfl)) (λb hb=>(h.zf b (hB b hb)).imp (Β _) id),I',?_,?_,?_,?_⟩
 ·show⟨Β _ h.Sz.1,Β _ h.Sz.2.1,Β _ h.Sz.2.2⟩
 ·let aeZ:∀b∈fD A d,b∈[sp,pl]++Z\/∀xs,H' b≠!.lst xs:=λb hb=>by
   by_cases mb:b∈[A.dl,A.bz]
   ·(show ι dx.da.ZB λ_ e1 _=>?_)
    simp only[Κ,Μ,χ] at mb;rcases mb with rfl | rfl
    ·show .inl (Β _ (h.inZ hb I.dx.da.28))
    ·show .inr λxs q=>by rw[e1] at q;cases q
   ·rcases h.zf b hb with z | z
    ·show .inl (Β _ z)
    ·show .inr λxs q=>?_
     obtain⟨o,eo⟩:=I.here b hb;rw[c.keep _ _ eo mb] at q;show z xs (by rw[eo];show q)
  intro b hb;rcases Ξ.mp hb with hb | hb
  ·show aeZ b (rA hb)
  rcases Ξ.mp hb with hb | hb
  ·rcases Ξ.mp hb with hb | hb
   ·show aeZ b (Bs hb)
   ·rw[Ζ.mp hb]
    show .inr λxs q=>?_;show(dx.kinds q).2.2 ∅
  rcases Ξ.mp hb with hb | hb
  ·rcases Ξ.mp hb with hb | hb
   ·show aeZ b (rq hb)
   ·rw[Ζ.mp hb];show .inl ∅
  ·rcases Ξ.mp hb with hb | hb
   ·show aeZ b (Ga hb)
   ·rw[Ζ.mp hb];show .inl ∅
 ·intro b hb
  rcases Ξ.mp hb with hb | hb
  ·simp only[Κ,Μ,χ] at hb
   rcases hb with rfl | rfl
   ·show⟨_,esp⟩
   ·show⟨_,epl⟩
  ·show dE c hs2 b (h.zo b hb)
 ·let pm:(A.fx++fD A ⟨d.us++[u],d.MT++[sp],d.NS++[pl]⟩).Perm (u::sp::pl::(A.fx++fD A d)):=Pl.mpr λz=>by
   simp only[fD,GT,ML,MV,Rs];ac_rfl
  show pm.nodup_iff.mpr (ϊ.mpr ⟨?_,ϊ.mpr ⟨?_,ϊ.mpr ⟨no Pm,h.nd⟩⟩⟩)
  ·simp only[Κ,Yl]
   show⟨ψ nsp,ψ npl,no hu⟩
  ·simp only[Κ,Yl]
   show⟨nsl,no PX⟩
def QM.turned {k:CK}{R:ac1}{t':Int}{A:CA}{M:CM}(h:QM k R t H A Z M)(MZ:H A.st=!.ins k.S dx (stG A t)):QM k R t' (upd H A.st (.ins k.S dx (stG A t'))) A Z M:=by
 let nf:=CA.uf h.nd;let Uz:=CA.ac2 nf;let nr:=CA.mK nf (mi 1 rfl);let c:ϛ [A.st] H (upd H A.st (.ins k.S dx (stG A t'))):=ϛ.upd ∅ (bA MZ);let hF:∀b∈[A.st],b∉R.F:=λb hb=>by rw[Ζ.mp hb];show CA.iJ h.nd (Η _ (mi 1 rfl))
 let hz:∀b∈[A.st],b∈Z\/∀xs,H b≠!.lst xs:=λb hb=>by rw[Ζ.mp hb];show .inr λxs q=>by rw[MZ] at q;cases q
 show⟨⟨dx,aa⟩,h.WB.im c (az Uz 4 [1] rfl rfl "!") (az Uz 5 [1] rfl rfl "!"),h.VH,c.keep _ _ h.Qi (az Uz 6 [1] rfl rfl "!"),λi r d m h1 h2 h3=>?_,h.25,h.43,h.On,
  h.snd.im c (az Uz 7 [1] rfl rfl "!") (az Uz 8 [1] rfl rfl "!") (az Uz 9 [1] rfl rfl "!") (az Uz 10 [1] rfl rfl "!") hz,R.im h.44 c hF,h.Sz,h.zfk c hF,λb hb=>dE c (λb hb=>by rw[Ζ.mp hb];show⟨_,aa⟩) b (h.zo b hb),h.nd⟩
 show(h.row i r d m h1 h2 h3).im c (n1 λz=>nr.1 (z▸(Δ h1))) (n1 λz=>nr.2 (z▸(Δ h2)))
def ahy {A:CA}(h:b∈[A.l,A.t,A.p]):b∈A.l::A.t::A.p::(A.rs++A.ds):=Η (bs:=A.rs++A.ds) h
def akJ {A:CA}(h:b∈[A.dl,A.bz]):b∈[A.de,A.dl,A.bz,A.gr,A.rd,A.ra,A.rb]:=by
 simp only[Κ,Μ,χ] at h;rcases h with rfl | rfl
 ·show mi 1 rfl
 ·show mi 2 rfl
def Kz {A:CA}{F:-Ι}(h:b∈A.rs):b∈stB A F:=mL (m47 (Η _ h))
def Gb {A:CA}{F:-Ι}(h:b∈A.ds):b∈stB A F:=mL (m47 (Β _ h))
def KB {A:CA}{d:DA}{u sp pl:Ι}(hu:H u=none)(PX:H sp=none)(Pm:H pl=none):∀b∈fD A ⟨d.us++[u],d.MT++[sp],d.NS++[pl]⟩,b∈fD A d\/H b=none:=λb hb=>by
 rcases Ξ.mp hb with hb | hb
 ·show .inl (rA hb)
 rcases Ξ.mp hb with hb | hb
 ·rcases Ξ.mp hb with hb | hb
  ·show .inl (Bs hb)
  ·rw[Ζ.mp hb];show .inr hu
 rcases Ξ.mp hb with hb | hb
 ·rcases Ξ.mp hb with hb | hb
  ·show .inl (rq hb)
  ·rw[Ζ.mp hb];show .inr PX
 ·rcases Ξ.mp hb with hb | hb
  ·show .inl (Ga hb)
  ·rw[Ζ.mp hb];show .inr Pm
def Gd {A:CA}{d:DA}{u:Ι}(hu:d.us[j]?=!u)(h:b∈[u,A.bz]):b∈fD A d:=by
 simp only[Κ,Μ,χ] at h;rcases h with rfl | rfl
 ·show Bs (Δ hu)
 ·show rA (mi 2 rfl)
def DX.LN {dl:Ι}{xs:-(-M4×-OV)}(h:DX C CD H r dl bz us MT NS M xs){x:Dd}(hx:M.ds[j]?=!x):∃u,us[j]?=!u:=by
 let hj:=(Α.mp hx).1;have:=h.da.25;show⟨_,Ε ()⟩
def DX.Mq {dl:Ι}{xs:-(-M4×-OV)}(h:DX C CD H r dl bz us MT NS M xs){e:-M4×-OV}(hx:xs[j]?=!e):∃u,MT[j]?=!u:=by
 let hj:=(Α.mp hx).1;have:=h.l1;have:=h.l3;show⟨_,Ε ()⟩
def QM.LO {A:CA}(h:QM k R t H A Z M)(hm:M.Ms[i]?=!m):∃r d,A.rs[i]?=!r/\A.ds[i]?=!d:=by
 let hi:=(Α.mp hm).1;have:=h.On;have:=h.43;show(cr _ _ (Ε ()) (Ε ()))
def zO (Ms:-MB)(l:-M4)(y:M4):O0 Ms (l++[y])=(O0 Ms l).modify y.1.6 λm=>m.out y.2:=by
 unfold O0;rw[Qs];rfl
def oj (Ms:-MB)(l:-M4):(O0 Ms l).4=Ms.4:=by
 unfold O0
 induction l generalizing Ms with
 | nil=>rfl
 | cons x l ih=>rw[Vo,ih];simp
def QM.aoX {k:CK}{A:CA}{p:Int}(h:QM k R t H A Z M)(hr:A.rs[i]?=!r)(hd:A.ds[i]?=!d)(hm:M.Ms[i]?=!m)(c:ϛ [d] H H')(R':ND k.R H' r d (m.out p)):QM k R t H' A Z { M with Ms:=M.Ms.modify i λm=>m.out p }:=by
 have:=h.akF hr hd (c.mono ∅) R';let e:M.Ms.modify i (λm=>m.out p)=M.Ms.set i (m.out p):=by
  show Qv λj=>?_;rw[Ze,TR]
  by_cases ej:i=j
  ·subst ej
   rw[γ rfl,γ ((Α.mp hm).1),hm];simp
  ·rw[Φ ej]
   cases M.Ms[j]?<;>simp[ej]
 rw[e];show this
def ϲ.ZC {p:Ι}(h:ϲ H p rows):∃ts:-Ι,H p=!.lst (ts.map V.ref)/\ts.4=rows.4/\∀(i:Nat) x,(ts.map V.ref)[i]?=!x->∃t r,x=.ref t/\rows[i]?=!r/\H t=!.tup r:=by
 (revert h;show ϭ λts h1 h2=>?_);show(ϡ ts h1 h2.4 (λi x hx=>?_));rw[Ρ] at hx;cases e:ts[i]? with
 | none=>rw[e] at hx;cases hx
 | some t=>
  rw[e] at hx;(show ι (h2.get e) λr hr ht=>?_);show(ϕ t r ((Ϭ hx).17) hr ht)
inductive UC
 | GM (n:-Nat) (k:Nat)
 | put (n:-Nat) (kk dd i pl:Nat) (key:-Nat) (wo:Option (-Nat))
 | begin (dd:Nat) (n:-Nat) (e:Nat)
 | close (dd:Nat)
 | drop (dd:Nat)
 | turn (t:Nat)
abbrev UC.nm:UC->Str
 | .GM _ _=>"hail"
 | .put _ _ _ _ _ _ _=>"put"
 | .begin _ _ _=>"begin"
 | .close _=>"close"
 | .drop _=>"drop"
 | .turn _=>"turn"
abbrev UC.ps:UC->-Part
 | .GM n k=>Xe n k
 | .put n kk dd i pl key wo=>VG n kk dd i pl key wo
 | .begin dd n e=>SA dd n e
 | .close dd=>Q3 dd
 | .drop dd=>Q3 dd
 | .turn t=>Xj t
abbrev UC.ad (ph pp pb pc pd pt:Ι):UC->Ι
 | .GM _ _=>ph
 | .put _ _ _ _ _ _ _=>pp
 | .begin _ _ _=>pb
 | .close _=>pc
 | .drop _=>pd
 | .turn _=>pt
def UC.inL (ph pp pb pc pd pt:Ι)(e:UC):(e.nm,e.ps.map (·.1),e.ad ph pp pb pc pd pt)∈ac3 ph pp pb pc pd pt:=by
 cases e
 ·show bH 0 rfl
 ·show bH 1 rfl
 ·show bH 2 rfl
 ·show bH 3 rfl
 ·show bH 4 rfl
 ·show bH 5 rfl
structure S5 where
 t:Int
 M:CM
 m:DM
abbrev S5.wl (X:S5)(ls:-(-Nat)):S5:=⟨X.t,{ X.M with ls:=ls },X.m⟩
abbrev OC:UC->S5->S5->Prop
 | .GM n _,X,X'=>X.45<=100000/\(∀v,X.M.S.L (S n)=!v->1<=v)/\X'=⟨X.t,X.M.GM (S n),X.m⟩
 | .put n kk dd i _ key wo,X,X'=>∃mr,X.35[i]?=!mr/\mr.19<=10000/\X.45<=100000/\(X.M.S.L (S n)).12=true/\(kk:Int)=X.M.S.T (S n)+1/\
   ((dd=0/\X'=⟨X.t,X.M.put i mr (key,wo,0) (S n) kk,X.m⟩)\/∃j e,dd=j+1/\X.47[j]?=!e/\e.1.4 < 1000/\X'=⟨X.t,X.M.put i mr (key,wo,(dd:Int)) (S n) kk,X.m.hold j e ((i:Int),mr.19)⟩)
 | .begin _ n e,X,X'=>X.m.M.B (S n)=none/\X.m.M.ds.4<=1000/\X.m.M.sz<=1000/\X'=⟨X.t,X.M,X.m.begin (S n) e⟩
 | .close dd,X,X'=>∃j x,dd=j+1/\X.13[j]?=!x/\X.m.M.B x.1=!((j:Int)+1)/\X'=⟨X.t,X.M,X.m.finish j x M5⟩
 | .drop dd,X,X'=>∃j x e,dd=j+1/\X.13[j]?=!x/\X.m.M.B x.1=!((j:Int)+1)/\X.47[j]?=!e/\(∀s∈e.1,0<=s.1/\s.1 < X.M.Ms.4)/\X'=⟨X.t,{ X.M with Ms:=O0 X.35 e.1 },X.m.finish j x wT⟩
 | .turn t',X,X'=>X'=⟨(t':Int),X.M,X.m⟩
def OC.wl {e:UC}(h:OC e X X')(ls:-(-Nat)):OC e (X.wl ls) (X'.wl ls):=by
 cases e
 ·(revert h;show N8 λh1 h2 μ=>?_;subst μ);show⟨h1,h2,rfl⟩
 ·(revert h;show Yq λmr h1 h2 h3 h4=>Nl λh5 h=>?_)
  show(TW mr h1 h2 h3 h4 h5 ?_);rcases h with⟨h6,rfl⟩ | ⟨j,e,h6,h7,h8,rfl⟩
  ·show .inl ⟨h6,rfl⟩
  ·show .inr (Fk j e h6 h7 h8 rfl)
 ·(revert h;show QT λh1 h2 h3 μ=>?_;subst μ);show⟨h1,h2,h3,rfl⟩
 ·(revert h;show P9 λj x h1 h2 h3 μ=>?_;subst μ);show(Fk j x h1 h2 h3 rfl)
 ·(revert h;show QS λj x e h1 h2 h3 h4=>Nl λh5 μ=>?_;subst μ);show(UN j x e h1 h2 h3 h4 h5 rfl)
 ·let h:=h
  rw[h];show rfl
abbrev zP (k:CK)(CD:Ι):Sp:=aR λz1=>aR λD=>aN λH Q _=>∃A,z1=A.st/\∃d Z X X' e,UA k CD X.t H A d Z X.M X.m/\H D=!.dK (RC e.nm e.ps)/\D∉stB A (fD A d)/\(∀b∈A.fx,∃o,H b=!o)/\OC e X X'/\
 UB k CD H A d Z X'.t X'.M X'.m (Q .k4)
structure MY (H:Hp)(ev:Ι)(Ds:-Ι)(es:-UC):Prop where
 lst:H ev=!.lst (Ds.map V.ref)
 len:Ds.4=es.4
 at':∀(i:Nat) D e,Ds[i]?=!D->es[i]?=!e->H D=!.dK (RC e.nm e.ps)
def MY.im {es:-UC}(h:MY H ev Ds es)(c:ϛ B H H')(n1:ev∉B)(n2:∀D∈Ds,D∉B):MY H' ev Ds es:=⟨c.keep _ _ h.28 n1,h.25,λi D e h1 h2=>c.keep _ _ (h.at' i D e h1 h2) (n2 D (Δ h1))⟩
def ϛ.tr2 (c:ϛ B H H')(c':ϛ B' H' H2)(h:∀b∈B',b∈B\/H b=none):ϛ B H H2:=⟨λa o e n=>c'.keep _ _ (c.keep _ _ e n) (λz=>(h a z).elim n (λy=>by rw[e] at y;cases y)),λa o e=>c'.tup _ _ (c.tup _ _ e)⟩
def KC {A:CA}{F:-Ι}(h:b∈stB A F):b∈A.fx++F:=by
 rcases Ξ.mp h with h | h
 ·show Η _ ?_
  rcases Ξ.mp (show b∈[A.st,A.l,A.t,A.p]++(A.rs++A.ds) from h) with h | h
  ·show Η _ ?_
   simp only[Κ,Μ,χ] at h;rcases h with rfl | rfl | rfl | rfl
   ·show mi 1 rfl
   ·show mi 8 rfl
   ·show mi 9 rfl
   ·show mi 10 rfl
  ·show Β _ h
 ·show Β _ h
abbrev UD (k:CK)(CD:Ι)(H:Hp)(A:CA)(d:DA)(Z:-Ι)(n:Nat)(X':S5)(R:Hp->Prop):Prop:=
 ∀H' d' Z' O8,ϛ (A.fx++fD A d) H H'->(∀b∈fD A d',b∈fD A d\/H b=none)->(∀b∈Z,b∈Z')->WC k CD X'.t H' A d' Z' { X'.M with ls:=O8 } X'.m->O8.4=n->R H'
abbrev vF (k:CK)(CD:Ι):Sp:=aR λz1=>aR λt=>aN λH Q _=>∃A,z1=A.c/\∃(d:DA) (Z:-Ι) (X:S5) (ev:Ι) (u:V) (Ds:-Ι) (es:-UC) (Xs:Nat->S5),WC k CD X.t H A d Z X.M X.m/\H t=!.tup [.ref ev,u]/\MY H ev Ds es/\ev∉A.fx++fD A d/\(∀D∈Ds,D∉A.fx++fD A d)/\(∀e∈es,Sy e.nm e.ps)/\X.M.ls.4+es.4<=5000/\Xs 0=X/\(∀i e,es[i]?=!e->OC e (Xs i) (Xs (i+1)))/\
 UD k CD H A d Z (X.M.ls.4+es.4) (Xs es.4) (Q u)
def rB {n:-Nat}{e:Nat}(hn:Om n)(hd:dd < 10 ^ 10)(he:e < 10 ^ 10):Sy "begin" (SA dd n e):=by
 (show sw hn.25 λ_ n1 n2=>?_);show⟨λx hx=>?_,by show Nx [ϒ "event","deed","sender","end"];decide +kernel,by show 3<=7;decide⟩;simp only[SA,Κ,Μ,χ] at hx;rcases hx with rfl | rfl | rfl
 ·show dW (p:="deed") (s!"d") (s!"d") (s!"d") ()
 ·show⟨mJ (p:="sender") (s!"d"),by show n.4<=201;lk,n2⟩
 ·show dW (p:="end") (s!"d") (s!"d") (s!"d") ()
def dR (hd:dd < 10 ^ 10):Sy s (Q3 dd):=by
 show⟨λx hx=>?_,by show Nx [ϒ "event","deed"];decide +kernel,by show 1<=7;decide⟩;simp only[Q3,Κ,Μ,χ] at hx;subst hx;show dW (p:="deed") (s!"d") (s!"d") (s!"d") ()
def uj {t:Nat}(hd:t < 10 ^ 10):Sy s (Xj t):=by
 show⟨λx hx=>?_,by show Nx [ϒ "event","turn"];decide +kernel,by show 1<=7;decide⟩;simp only[Xj,Κ,Μ,χ] at hx;subst hx;show dW (p:="turn") (s!"d") (s!"d") (s!"d") ()
abbrev QC (H:Hp)(es:-UC)(U:V->Hp->Prop)(Q:VK):Prop:=
 ∀tt ev u Ds H',Ω H H'->H ev=none->(∀D∈Ds,H D=none)->H' tt=!.tup [.ref ev,u]->MY H' ev Ds es->U u H'->Q (.ref tt) H'
def MY.one {e:UC}(h1:H ev=!.lst [.ref D])(h2:H D=!.dK (RC e.nm e.ps)):MY H ev [D] [e]:=⟨h1,rfl,λi D' e' g1 g2=>by
 match i,g1,g2 with
 | 0,g1,g2=>cases g1;cases g2;show h2⟩
def ic (h:H D=none):∀D'∈[D],H D'=none:=λD' h'=>by rw[Ζ.mp h'];show h
structure XJ (k:CK)(CD:Ι)(t:Int)(H:Hp)(A:CA)(d:DA)(Z:-Ι)(M:CM)(m:DM)(n:-Nat)(life:Nat):Prop where
 st:UA k CD t H A d Z M m
 nm:Om n
 lo:1<=life
 hi:life<=1000000000
 lf:M.S.L (S n)=!(life:Int)
def XJ.same {A:CA}{d:DA}{n:-Nat}(h:XJ k CD t H A d Z M m n life)(s:Ω H H'):XJ k CD t H' A d Z M m n life:=⟨h.st.same s,h.nm,h.lo,h.hi,h.lf⟩
abbrev Dz (k:CK)(CD:Ι):Sp:=aR λz1=>aT λn=>aK λlife=>aN λH Q _=>∃t A,z1=A.st/\∃d Z M m,XJ k CD t H A d Z M m n life/\∀H',Ω H H'->Q .k4 H'
abbrev sY (k:CK)(CD CB:Ι):Sp:=aR λz1=>aT λn=>aK λlife=>aK λtu=>aN λH Q E=>∃(t:Nat) (A:CA),z1=A.st/\∃(d:DA) (Z:-Ι) (M:CM) (m:DM),XJ k CD (t:Int) H A d Z M m n life/\1<=tu/\tu<=1000/\t<=1000000/\m.M.ds.4<=1000/\
 ((∃i,m.M.B (S n)=!i/\∀H',Ω H H'->Pt E H' CB [("deed",.int i)])\/(m.M.B (S n)=none/\QC H [.begin (m.M.ds.4+1) n (t+tu)] (λu _=>u=.int ((m.M.ds.4:Int)+1)) Q))
abbrev vG (k:CK)(CD CN:Ι):Sp:=aR λz1=>aT λn=>aK λlife=>aN λH Q E=>∃(t:Int) (A:CA),z1=A.st/\∃(d:DA) (Z:-Ι) (M:CM) (m:DM),XJ k CD t H A d Z M m n life/\
 ((∃j:Nat,m.M.B (S n)=!((j:Int)+1)/\j < 1000000/\QC H [.drop (j+1)] (λu _=>u=.int ((j:Int)+1)) Q)\/(m.M.B (S n)=none/\∀H',Ω H H'->Pt E H' CN [("name",.str (S n))]))
abbrev sZ (k:CK)(CD CN:Ι):Sp:=aR λz1=>aT λn=>aK λlife=>aN λH Q E=>∃t A,z1=A.st/\∃(d:DA) (Z:-Ι) (M:CM) (m:DM),XJ k CD t H A d Z M m n life/\
 ((∃(j:Nat) (e:-M4×-OV),m.M.B (S n)=!((j:Int)+1)/\j < 1000000/\m.xs[j]?=!e/\e.2=[]/\QC H [.close (j+1)] (λu H'=>∃L,u=.ref L/\H L=none/\ϲ H' L (e.1.map Tb)) Q)\/(m.M.B (S n)=none/\∀H',Ω H H'->Pt E H' CN [("name",.str (S n))]))
abbrev vH (k:CK)(CD:Ι):Sp:=aR λz1=>aK λtu=>aN λH Q _=>∃(t:Nat) (A:CA),z1=A.st/\∃(d:DA) (Z:-Ι) (M:CM) (m:DM),UA k CD (t:Int) H A d Z M m/\1<=tu/\tu<=1000/\t<=1000000/\m.M.ds.4<=1000/\
 QC H (.turn (t+tu)::(OB m.M ((t+tu:Nat):Int) m.M.ds.4).map λi=>.drop i.6) (λu _=>u=.int ((t+tu:Nat):Int)) Q
abbrev vI (k:CK)(CD:Ι):Sp:=aR λz1=>aT λn=>aN λH Q _=>∃t A,z1=A.st/\∃(d:DA) (Z:-Ι) (M:CM) (m:DM) (kk:Nat),UA k CD t H A d Z M m/\Om n/\(kk:Int)=(M.S.L (S n)).getD 0+1/\kk < 10 ^ 9/\
 ((m.M.B (S n)=none/\QC H [.GM n kk] (λu H'=>∃v,u=.ref v/\H' v=!(.tup [.int (kk:Int),.int (if (M.S.L (S n)).12=true then M.S.T (S n) else 0)])) Q)\/
  ∃j:Nat,m.M.B (S n)=!((j:Int)+1)/\j < 1000000/\QC H [.drop (j+1),.GM n kk] (λu H'=>∃v,u=.ref v/\H' v=!(.tup [.int (kk:Int),.int (if (M.S.L (S n)).12=true then M.S.T (S n) else 0)])) Q)
def MY.snoc {es:-UC}{e:UC}(h:MY H ev Ds es)(hD:H D=!.dK (RC e.nm e.ps)):MY (upd H ev (.lst (Ds.map V.ref++[.ref D]))) ev (Ds++[D]) (es++[e]):=by
 let ne:∀{x:Ι} {o},H x=!.dK o->x≠ev:=λhx z=>by rw[z,h.28] at hx;cases hx
 show⟨by rw[aa,ϐ];rfl,by simp[h.25],λi D' e' g1 g2=>?_⟩;let hl:=h.25
 by_cases hi:i < Ds.4
 ·rw[ϙ hi] at g1
  rw[ϙ ()] at g2;have:=h.at' i D' e' g1 g2;rw[ag (ne this)];show this
 ·rw[ϥ ()] at g1
  rw[ϥ ()] at g2;let hi0:i - Ds.4=0:=by
   have:=(Α.mp g1).1;simp at this;lk
  rw[hi0] at g1;rw[<-hl,hi0] at g2;cases g1;cases g2;rw[ag (ne hD)];show hD
def MY.same {es:-UC}(h:MY H ev Ds es)(s:Ω H H'):MY H' ev Ds es:=⟨s _ _ h.28,h.25,λi D e h1 h2=>s _ _ (h.at' i D e h1 h2)⟩
def MY.nil (h:H ev=!.lst []):MY H ev [] []:=⟨h,rfl,λi D e h1 _=>nomatch h1⟩
def uk (h:∀D∈Ds,H D=none)(h':H D=none):∀D'∈Ds++[D],H D'=none:=λD' z=>(Ξ.mp z).elim (h D') λz=>by rw[Ζ.mp z];show h'
structure aa4 (k:CK)(CD:Ι)(t:Int)(H:Hp)(A:CA)(d:DA)(Z:-Ι)(M:CM)(m:DM)(n shf key:-Nat)(wo:Option (-Nat))(life num dd j i pl:Nat)(x:PN)(mr:MB):Prop where
 ask:XJ k CD t H A d Z M m n life
 sh:Om shf
 ky:keyOk key
 wd:T8 wo
 wl:∀w,wo=!w->w.4<=200
 nu:1<=num/\num<=1000000000
 dde:dd<=1000000000
 op:dd=0\/m.M.B (S n)=!(dd:Int)
 pos:M.xs[j]?=!x
 xn:x.59=shf
 nux:(num:Int)=M.S.T (S n)+1
 row:(i:Int)=Uw M.xs j x key
 mrx:M.Ms[i]?=!mr
 plx:mr.19=(pl:Int)
 ple:pl < 10 ^ 9
abbrev xI (k:CK)(CD:Ι):Sp:=aR λz1=>aT λn=>aK λlife=>aK λnum=>aT λshf=>aR λlt=>aK λdd=>aN λH Q _=>∃t A,z1=A.st/\∃d Z M m key wo j i pl x mr,H lt=!.tup [.str (S key),wV wo]/\aa4 k CD t H A d Z M m n shf key wo life num dd j i pl x mr/\
 QC H [.put n num dd i pl key wo] (λu H'=>∃v,u=.ref v/\H' v=!(.tup [.int (i:Int),.int (pl:Int)])) Q
def jw {A:CA}(h:QM k R t H A Z M):A.rs.4<=9 * M.xs.4:=by
 rw[h.25];show lq (λx hx=>(h.VH.each x hx).2.1.2) _
abbrev Qj (m:DM):-Pr:=agp (λx e=>(x.2.2,e.1)) m.63 m.xs
abbrev FB (M:CM):-Int:=M.Ms.map (·.last)
def Paired.af2 {F:α->β->Prop}:∀{as:-α} {bs:-β},as.4=bs.4->(∀(i:Nat) a b,as[i]?=!a->bs[i]?=!b->F a b)->Paired F as bs
 | [],[],_,_=>.nil
 | [],_::_,h,_=>by simp at h
 | _::_,[],h,_=>by simp at h
 | a::as,b::bs,h,g=>.cons (g 0 a b rfl rfl) (Paired.af2 (by simpa using h) λi a b h1 h2=>g (i+1) a b (by simpa using h1) (by simpa using h2))
def ahz {ls:-Ι}(e:H D=!.lst (ts.map V.ref))(h:ZF H ts ls m.M m.xs m.xs.4)(hl:m.M.ds.4=m.xs.4):RU H D (Qj m):=by
 show(Λ ts e (Paired.af2 ?_ λi t x h1 h2=>?_))
 ·unfold Qj;rw[List.length_zipWith,h.t];lk
 ·unfold Qj at h2
  rw[Ru] at h2;let ht:=h.t;let hll:=h.l;let hi:=(Α.mp h1).1;let g1:ls[i]?=!ls[i]'():=Ε ();let g2:m.63[i]?=!m.63[i]'():=Ε ();let g3:m.xs[i]?=!m.xs[i]'():=Ε ();rw[g2,g3] at h2;cases h2;obtain⟨q1,q2⟩:=h.at' i t _ _ _ h1 g1 g2 g3;show(Λ _ q1 q2)
structure Fr5 (M:CM)(m:DM):Prop where
 wf:WFp M.Ms.4 (Qj m)
 sm:((Qj m).flatMap (·.2)).4<=1000
 dl:m.M.ds.4<=1000
abbrev DB (k:CK)(CD:Ι):Sp:=aR λz1=>aK λr=>aN λH Q _=>∃t A,z1=A.st/\∃d Z M m,UA k CD t H A d Z M m/\r < A.rs.4/\Q .k4 H
abbrev tf (k:CK)(CD:Ι):Sp:=aR λz1=>aK λr=>aN λH Q _=>∃t A,z1=A.st/\∃d Z M m,UA k CD t H A d Z M m/\r < A.rs.4/\∀H',Ω H H'->Q .k4 H'
abbrev vJ (k:CK)(CD:Ι):Sp:=aR λz1=>aK λr=>aN λH Q _=>∃t A,z1=A.st/\∃d Z M m,UA k CD t H A d Z M m/\r < A.rs.4/\Fr5 M m/\
 ∀e H',Ω H H'->Ol (Qj m) (FB M) e->(∀i,0<=e.getD i 0)->Q (.int (e.getD r 0)) H'
abbrev tj (k:CK)(CD:Ι):Sp:=aR λz1=>aK λr=>aK λstart=>aK λmost=>aB λwh=>aN λH Q _=>∃t A,z1=A.st/\∃d Z M m mr,UA k CD t H A d Z M m/\Fr5 M m/\M.Ms[r]?=!mr/\start=0/\most=100/\mr.56=0/\mr.19 < 100/\
 (wh=true->∀e,Ol (Qj m) (FB M) e->(∀i,0<=e.getD i 0)->∀D H',H D=none->Ω H H'->ϲ H' D ((mr.Mu 0 (e.getD r 0).6).map mr.UU)->Q (.ref D) H')/\
 (wh=false->∀D H',H D=none->Ω H H'->ϲ H' D ((mr.Mu 0 mr.last.6).map mr.UU)->Q (.ref D) H')
def dL.any {dl:Ι}(h:dL C CD H r dl bz [] QW):dL C CD' H r dl bz [] QW:=⟨h.30,h.28,h.25,λi u x h1 _=>by simp at h1,h.nd,h.ZB,h.ru⟩
abbrev dm0:DM:=⟨QW,[],read0⟩
abbrev ZG:DA:=⟨[],[],[]⟩
def Bt (A:CA):A.fix.Perm (A.fx++fD A ZG):=Pl.mpr λz=>by
 simp only[CA.fix,CA.fx,fD,ZG,GT,ML,MV,Rs];ac_rfl
def R4.toD {A:CA}(h:R4 k H A Z M):WC k CD 0 H A ZG Z M dm0:=by
 let s:=h.st;obtain⟨_,e1⟩:=s.dee.30;(show ι s.dee.ZB λ_ e2 _=>?_);obtain⟨_,e3⟩:=s.rdr.30;(show ι s.rdr.row λ_ e4 _=>?_);(show ι s.rdr.pla λ_ e5 _=>?_);show⟨h.QL,h.book,s.P3,s.WB,s.VH,s.Qi,s.row,s.25,s.43,s.On,s.85,⟨⟨s.dee.any,rfl,rfl,rfl,λi u _ _ _ h1=>by simp[ZG] at h1,λi s e h1=>by simp[ZG] at h1,λi s e h1=>by simp[ZG] at h1,λe he=>by simp[dm0] at he,by simp[ZG]⟩,s.rdr,s.grp⟩,⟨s.Sz.1,s.Sz.2.1,s.Sz.2.2.1⟩,λb hb=>?_,s.zo,(Bt A).nodup_iff.mp s.nd⟩;let hb:b∈[A.de,A.dl,A.bz,A.gr,A.rd,A.ra,A.rb]:=by
  rcases Ξ.mp hb with hb | hb
  ·show hb
  ·simp[ZG] at hb
 simp only[Κ,Μ,χ] at hb;rcases hb with rfl | rfl | rfl | rfl | rfl | rfl | rfl
 ·show .inr λxs q=>by rw[e1] at q;cases q
 ·show .inl s.Sz.2.2.2
 ·show .inr λxs q=>by rw[e2] at q;cases q
 ·show .inr λxs q=>by rw[s.grp] at q;cases q
 ·show .inr λxs q=>by rw[e3] at q;cases q
 ·show .inr λxs q=>by rw[e4] at q;cases q
 ·show .inr λxs q=>by rw[e5] at q;cases q
def Xh.reZ {A:CA}(h:Xh k R t H A Z M)(c:ϛ B H H')(hB:∀b∈B,b∉A.fx)(hF:∀b∈B,b∉R.F)(hz:∀b∈B,b∈Z\/∀xs,H b≠!.lst xs)(hs:∀b∈B,∃o,H' b=!o)(hy:∀b∈Y,b∈Z\/H b=none)(hy':∀b∈Y,∃o,H' b=!o):Xh k R t H' A (Y++Z) M:=by
 let C:=h.im c hB hF hz hs;let f:∀{a:Ι},a∈[A.c,A.st,A.bk,A.bl,A.sh,A.73,A.rl,A.sn,A.l,A.t,A.p]->a∉B:=λha hb=>hB _ hb (Η _ ha);let s:=C.st;let sn:=(h.st.snd.less (λb hb=>(Ξ.mp hb).elim (hy b) .inl)).im c (f (mi 7 rfl)) (f (mi 8 rfl)) (f (mi 9 rfl)) (f (mi 10 rfl)) (λb hb=>(hz b hb).imp (Β _) id);show⟨C.QL,C.book,⟨s.P3,s.WB,s.VH,s.Qi,s.row,s.25,s.43,s.On,sn,s.44,⟨Β _ s.Sz.1,Β _ s.Sz.2.1,Β _ s.Sz.2.2⟩,λb hb=>(s.zf b hb).imp (Β _) id,λb hb=>(Ξ.mp hb).elim (hy' b) (s.zo b),s.nd⟩⟩
def ahA {A:CA}{d:DA}{es:-UC}(hC:WC k CD X.t H A d Z X.M X.m)(lu:∀e∈es,Sy e.nm e.ps)(hln:X.M.ls.4+es.4<=5000)(Xs:Nat->S5)(h0:Xs 0=X)(MZ:∀i e,es[i]?=!e->OC e (Xs i) (Xs (i+1)))
  (q:∀u H1 H',Ω H H1->U u H1->ϛ (A.fx++fD A d) H1 H'->∀d' Z' O8,(∀b∈fD A d',b∈fD A d\/H b=none)->(∀b∈Z,b∈Z')->WC k CD (Xs es.4).t H' A d' Z' { (Xs es.4).M with ls:=O8 } (Xs es.4).m->O8.4=X.M.ls.4+es.4->Q u H') :
  QC H es U (λv H1=>∀E,vF k CD [.ref A.c,v] H1 Q E):=λtt ev u Ds H1 s Vk hDs YK hE hU E=>by
 show(Λ A rfl (Da d Z X ev u Ds (Ys es Xs (hC.same s) YK hE (hC.RD Vk) (λD hD=>hC.RD (hDs D hD)) lu ⟨hln,h0,MZ,λH' d' Z' O8 c hn hz C hl=>?_⟩)));show q u H1 H' s hU c d' Z' O8 (λb hb=>(hn b hb).imp id λz=>aP s z) hz C hl
def QC.mono {es:-UC}(h:QC H es U Q)(g:∀v H1,Ω H H1->Q v H1->Q' v H1):QC H es U Q':=λtt ev u Ds H' s h1 h2 h3 h4 h5=>g _ _ s (h tt ev u Ds H' s h1 h2 h3 h4 h5)
abbrev ae2 (X X':S5):Nat->S5
 | 0=>X
 | _+1=>X'
def um {e:UC}(h:OC e X X'):∀i e',[e][i]?=!e'->OC e' (ae2 X X' i) (ae2 X X' (i+1)):=λi e' he=>by
 match i,he with
 | 0,he=>cases he;show h
def Ge {e:UC}(h:Sy e.nm e.ps):∀e'∈[e],Sy e'.nm e'.ps:=λe' he=>by rw[Ζ.mp he];show h
def aaB {A:CA}{d:DA}{e:UC}(hC:WC k CD X.t H A d Z X.M X.m)(lu:Sy e.nm e.ps)(hln:X.M.ls.4+1<=5000)(MZ:OC e X X')
  (q:∀u H1 H',Ω H H1->U u H1->ϛ (A.fx++fD A d) H1 H'->∀d' Z' O8,(∀b∈fD A d',b∈fD A d\/H b=none)->(∀b∈Z,b∈Z')->WC k CD X'.t H' A d' Z' { X'.M with ls:=O8 } X'.m->O8.4=X.M.ls.4+1->Q u H') :
  QC H [e] U (λv H1=>∀E,vF k CD [.ref A.c,v] H1 Q E):=ahA hC (Ge lu) hln (ae2 X X') rfl (um MZ) q
structure Xk (k:CK)(CD:Ι)(H:Hp)(A:CA)(d:DA)(Z:-Ι)(X:S5)(n:-Nat)(life:Nat):Prop where
 ce:WC k CD X.t H A d Z X.M X.m
 nm:Om n
 lo:1<=life
 hi:life<=1000000000
 lf:X.M.S.L (S n)=!(life:Int)
 ln:X.M.ls.4+2<=5000
def Xk.ask {A:CA}{d:DA}{n:-Nat}(h:Xk k CD H A d Z X n life):XJ k CD X.t H A d Z X.M X.m n life:=⟨h.ce.st,h.nm,h.lo,h.hi,h.lf⟩
abbrev vK (k:CK)(CD CB:Ι):Sp:=λvs H Q E=>∃(A:CA) (d:DA) (Z:-Ι) (X:S5) (n:-Nat) (life tu t:Nat),vs=[.ref A.c,.str (S n),.int (life:Int),.int (tu:Int)]/\Xk k CD H A d Z X n life/\X.t=(t:Int)/\1<=tu/\tu<=1000/\t<=1000000/\X.m.M.ds.4<=1000/\X.m.M.sz<=1000/\
 ((∃i,X.m.M.B (S n)=!i/\∀H',Ω H H'->Pt E H' CB [("deed",.int i)])\/(X.m.M.B (S n)=none/\UD k CD H A d Z (X.M.ls.4+1) ⟨X.t,X.M,X.m.begin (S n) ((t+tu:Nat):Int)⟩ (Q (.int ((X.m.M.ds.4:Int)+1)))))
abbrev xJ (k:CK)(CD CN:Ι):Sp:=λvs H Q E=>∃(A:CA) (d:DA) (Z:-Ι) (X:S5) (n:-Nat) (life:Nat),vs=[.ref A.c,.str (S n),.int (life:Int)]/\Xk k CD H A d Z X n life/\
 ((∃(j:Nat) (x:Dd) (e:-M4×-OV),X.m.M.B (S n)=!((j:Int)+1)/\j < 1000000/\x.1=S n/\X.13[j]?=!x/\X.47[j]?=!e/\(∀s∈e.1,0<=s.1/\s.1 < X.M.Ms.4)/\
   UD k CD H A d Z (X.M.ls.4+1) ⟨X.t,{ X.M with Ms:=O0 X.35 e.1 },X.m.finish j x wT⟩ (Q (.int ((j:Int)+1))))\/(X.m.M.B (S n)=none/\∀H',Ω H H'->Pt E H' CN [("name",.str (S n))]))
abbrev vL (k:CK)(CD CN:Ι):Sp:=λvs H Q E=>∃(A:CA) (d:DA) (Z:-Ι) (X:S5) (n:-Nat) (life:Nat),vs=[.ref A.c,.str (S n),.int (life:Int)]/\Xk k CD H A d Z X n life/\
 ((∃(j:Nat) (x:Dd) (e:-M4×-OV),X.m.M.B (S n)=!((j:Int)+1)/\j < 1000000/\x.1=S n/\X.13[j]?=!x/\X.47[j]?=!e/\e.2=[]/\
   ∀L H' d' Z' O8,H L=none->ϛ (A.fx++fD A d) H H'->(∀b∈fD A d',b∈fD A d\/(H b=none/\b≠L))->(∀b∈L::Z,b∈Z')->WC k CD X.t H' A d' Z' { X.M with ls:=O8 } (X.m.finish j x M5)->O8.4=X.M.ls.4+1->ϲ H' L (e.1.map Tb)->Q (.ref L) H')\/(X.m.M.B (S n)=none/\∀H',Ω H H'->Pt E H' CN [("name",.str (S n))]))
abbrev UE (X:S5)(n:-Nat)(kk:Nat):-V:=[.int (kk:Int),.int (if (X.M.S.L (S n)).12=true then X.M.S.T (S n) else 0)]
abbrev o9 (k:CK)(CD:Ι):Sp:=λvs H Q _=>∃(A:CA) (d:DA) (Z:-Ι) (X:S5) (n:-Nat) (kk:Nat),vs=[.ref A.c,.str (S n)]/\WC k CD X.t H A d Z X.M X.m/\Om n/\(kk:Int)=(X.M.S.L (S n)).getD 0+1/\kk < 10 ^ 9/\X.M.ls.4+2<=5000/\X.45<=100000/\(∀v,X.M.S.L (S n)=!v->1<=v)/\
 ((X.m.M.B (S n)=none/\∀v,UD k CD H A d Z (X.M.ls.4+1) ⟨X.t,X.M.GM (S n),X.m⟩ (λH'=>H' v=!.tup (UE X n kk)->Q (.ref v) H'))\/
  (∃(j:Nat) (x:Dd) (e:-M4×-OV),X.m.M.B (S n)=!((j:Int)+1)/\j < 1000000/\x.1=S n/\X.13[j]?=!x/\X.47[j]?=!e/\(∀s∈e.1,0<=s.1/\s.1 < X.M.Ms.4)/\
   ∀v,UD k CD H A d Z (X.M.ls.4+2) ⟨X.t,CM.GM { X.M with Ms:=O0 X.35 e.1 } (S n),X.m.finish j x wT⟩ (λH'=>H' v=!.tup (UE X n kk)->Q (.ref v) H')))
abbrev ahB (X X1 X2:S5):Nat->S5
 | 0=>X
 | 1=>X1
 | _+2=>X2
def DC {e f:UC}(h:OC e X X1)(g:OC f X1 X2):∀i e',[e,f][i]?=!e'->OC e' (ahB X X1 X2 i) (ahB X X1 X2 (i+1)):=λi e' he=>by
 match i,he with
 | 0,he=>cases he;show h
 | 1,he=>cases he;show g
abbrev Sk (X:S5)(t tu:Nat):-UC:=.turn (t+tu)::(OB X.77 ((t+tu:Nat):Int) X.m.M.ds.4).map λi=>.drop i.6
abbrev xK (k:CK)(CD:Ι):Sp:=λvs H Q _=>∃(A:CA) (d:DA) (Z:-Ι) (X:S5) (tu t:Nat) (Xs:Nat->S5),vs=[.ref A.c,.int (tu:Int)]/\WC k CD X.t H A d Z X.M X.m/\X.t=(t:Int)/\1<=tu/\tu<=1000/\t<=1000000/\X.m.M.ds.4<=1000/\X.M.ls.4+1+X.m.M.ds.4<=5000/\Xs 0=X/\(∀i e,(Sk X t tu)[i]?=!e->OC e (Xs i) (Xs (i+1)))/\
 UD k CD H A d Z (X.M.ls.4+(Sk X t tu).4) (Xs (Sk X t tu).4) (Q (.int ((t+tu:Nat):Int)))
abbrev zQ (k:CK)(CD:Ι):Sp:=λvs H Q _=>∃(A:CA) (d:DA) (Z:-Ι) (X X':S5) (n shf key:-Nat) (wo:Option (-Nat)) (life num dd j i pl:Nat) (x:PN) (mr:MB),vs=[.ref A.c,.str (S n),.int (life:Int),.int (num:Int),.str (S shf),.str (S key),wV wo,.int (dd:Int)]/\WC k CD X.t H A d Z X.M X.m/\X.M.ls.4+2<=5000/\aa4 k CD X.t H A d Z X.M X.m n shf key wo life num dd j i pl x mr/\OC (.put n num dd i pl key wo) X X'/\
 ∀v,UD k CD H A d Z (X.M.ls.4+1) X' (λH'=>H' v=!(.tup [.int (i:Int),.int (pl:Int)])->Q (.ref v) H')
abbrev xM (k:CK)(CD:Ι):Sp:=λvs H Q _=>∃(A:CA) (d:DA) (Z:-Ι) (X:S5) (r:Nat) (wh:Bool) (mr:MB),vs=[.ref A.c,.int (r:Int),.int ((0:Nat):Int),.int ((100:Nat):Int),.bl wh]/\WC k CD X.t H A d Z X.M X.m/\Fr5 X.M X.m/\X.35[r]?=!mr/\mr.56=0/\mr.19 < 100/\
 (wh=true->∀e,Ol (Qj X.m) (FB X.M) e->(∀i,0<=e.getD i 0)->∀D H',H D=none->Ω H H'->ϲ H' D ((mr.Mu 0 (e.getD r 0).6).map mr.UU)->Q (.ref D) H')/\
 (wh=false->∀D H',H D=none->Ω H H'->ϲ H' D ((mr.Mu 0 mr.last.6).map mr.UU)->Q (.ref D) H')
abbrev vM (k:CK)(CD:Ι):Sp:=λvs H Q _=>∃(A:CA) (d:DA) (Z:-Ι) (X:S5) (r:Nat),vs=[.ref A.c,.int (r:Int)]/\WC k CD X.t H A d Z X.M X.m/\r < A.rs.4/\Fr5 X.M X.m/\
 ∀e H',Ω H H'->Ol (Qj X.m) (FB X.M) e->(∀i,0<=e.getD i 0)->Q (.int (e.getD r 0)) H'
abbrev xN (k:CK)(CD:Ι):Sp:=λvs H Q _=>∃(A:CA) (d:DA) (Z:-Ι) (X:S5) (j:Nat) (x:Dd),vs=[.ref A.c,.int ((j:Int)+1)]/\WC k CD X.t H A d Z X.M X.m/\j < 1000000/\X.13[j]?=!x/\∀H',Ω H H'->Q (.str x.2.2) H'
def aa4.same {A:CA}{d:DA}{m:DM}{n shf:-Nat}{life num pl:Nat}{x:PN}(h:aa4 k CD t H A d Z M m n shf key wo life num dd j i pl x mr)(s:Ω H H'):aa4 k CD t H' A d Z M m n shf key wo life num dd j i pl x mr:=⟨h.ask.same s,h.sh,h.ky,h.wd,h.wl,h.nu,h.dde,h.op,h.pos,h.xn,h.nux,h.row,h.mrx,h.plx,h.ple⟩
abbrev Wm (X:S5)(j:Nat):S5:=match X.13[j]?,X.47[j]? with
 | some x,some e=>⟨X.t,{ X.M with Ms:=O0 X.35 e.1 },X.m.finish j x wT⟩
 | _,_=>X
abbrev Pw (X:S5)(js:-Nat):S5:=js.foldl Wm X
structure OS (X:S5):Prop where
 op:Ta X.77
 len:X.m.xs.4=X.m.M.ds.4
 sp:∀e∈X.47,∀s∈e.1,0<=s.1/\s.1 < X.M.Ms.4
def jx {x:Dd}{e:-M4×-OV}(hx:X.13[j]?=!x)(he:X.47[j]?=!e):Wm X j=⟨X.t,{ X.M with Ms:=O0 X.35 e.1 },X.m.finish j x wT⟩:=by
 unfold Wm;rw[hx,he]
def OS.vN (I:OS X){x:Dd}(hx:X.13[j]?=!x):∃e,X.47[j]?=!e:=by
 let hj:=(Α.mp hx).1;have:=I.25;show⟨_,Ε ()⟩
def uo:M5≠ii:=by decide +kernel
def iK:wT≠ii:=by decide +kernel
def Gf (I:OS X){x:Dd}(hx:X.13[j]?=!x)(ho:x.2.2=ii):OC (.drop (j+1)) X (Wm X j):=by
 obtain⟨e,he⟩:=I.vN hx;rw[jx hx he];show(UN j x e rfl hx (I.op.b j x hx ho) he (λs hs=>by have:=I.sp e (Δ he) s hs;show this) rfl)
def vO (I:OS X){x:Dd}(hx:X.13[j]?=!x)(ho:x.2.2=ii):OS (Wm X j):=by
 obtain⟨e,he⟩:=I.vN hx;rw[jx hx he];show⟨I.op.finish hx (I.op.b j x hx ho) iK,?_,λe' Rm s hs=>?_⟩
 ·change X.m.xs.4=(X.m.M.ds.set j _).4
  rw[ϗ];show I.25
 ·change 0<=s.1/\s.1 < ((O0 X.35 e.1).4)
  rw[oj];show I.sp e' Rm s hs
def vP (I:OS X){x:Dd}(hx:X.13[j]?=!x)(n:j≠j'):(Wm X j).13[j']?=X.13[j']?:=by
 obtain⟨e,he⟩:=I.vN hx;rw[jx hx he];show(X.m.M.ds.set j _)[j']?=_;rw[ϔ n]
def zR (I:OS X){js:-Nat}(nd:js.14)(hj:∀j∈js,∃x,X.13[j]?=!x/\x.2.2=ii):∀i j,js[i]?=!j->OC (.drop (j+1)) (Pw X (js.take i)) (Pw X (js.take (i+1))):=by
 induction js generalizing X with
 | nil=>intro i j h;simp at h
 | cons a js ih=>
  intro i j h;(show ι (hj a ∅) λx hx ho=>?_);let n1:=ϊ.mp nd;cases i with
  | zero=>
   simp at h;subst h;show Gf I hx ho
  | succ i=>
   have:=ih (vO I hx ho) n1.2 (λj' hj'=>by
    (show ι (hj j' (θ _ hj')) λx' h1 h2=>?_)
    show(Λ x' (by rw[vP I hx (λz=>n1.1 (z▸hj'))];show h1) h2)) i j (by simpa using h)
   show this
abbrev Tc (X:S5)(t':Nat):-Nat:=(Ϟ X.m.M.ds.4).filter (odd X.77 (t':Int))
abbrev aaC (X:S5)(t':Nat):Nat->S5
 | 0=>X
 | i+1=>Pw ⟨(t':Int),X.M,X.m⟩ ((Tc X t').take i)
def xO (X:S5)(t tu:Nat):Sk X t tu=.turn (t+tu)::(Tc X (t+tu)).map λj=>.drop (j+1):=by
 unfold Sk OB Tc;rw[ϣ];rfl
def zS (I:OS X)(t tu:Nat):∀i e,(Sk X t tu)[i]?=!e->OC e (aaC X (t+tu) i) (aaC X (t+tu) (i+1)):=by
 intro i e h;rw[xO] at h;cases i with
 | zero=>
  simp at h;subst h;show rfl
 | succ i=>
  simp only[Ye,Ρ] at h;(show ι (ξ.mp h) λj hj μ=>?_;subst μ);let I':OS ⟨((t+tu:Nat)),X.M,X.m⟩:=⟨I.op,I.25,I.sp⟩
  show zR I' (Vc _ acl) (λj hj=>?_) i j hj;have:=(Nh.mp hj).2;unfold odd at this;cases e:X.13[j]? with
  | none=>rw[e] at this;cases this
  | some x=>
   rw[e] at this;simp only[io,PZ] at this;show(Λ x rfl this.1)
def uq (X:S5)(t tu:Nat):(Sk X t tu).4=(Tc X (t+tu)).4+1:=by rw[xO];simp
def DD (X:S5)(t tu:Nat):aaC X (t+tu) (Sk X t tu).4=Pw ⟨((t+tu:Nat):Int),X.M,X.m⟩ (Tc X (t+tu)):=by
 rw[uq];change Pw _ _=_;rw[bv]
def OS.GM (I:OS X)(n:Str):OS ⟨X.t,X.M.GM n,X.m⟩:=⟨I.op,I.25,I.sp⟩
def OS.begin (I:OS X){n:Str}{e:Int}(h:X.m.M.B n=none):OS ⟨X.t,X.M,X.m.begin n e⟩:=by
 show⟨I.op.begin _ _ h,?_,λe' Rm s hs=>?_⟩
 ·show(X.47++[([],[])]).4=(X.13++[(n,e,ii)]).4
  rw[Χ,Χ,I.25];rfl
 ·rcases Ξ.mp Rm with h | h
  ·show I.sp e' h s hs
  ·rw[Ζ.mp h] at hs;cases hs
def OS.close (I:OS X){x:Dd}(hx:X.13[j]?=!x)(hb:X.m.M.B x.1=!((j:Int)+1)):OS ⟨X.t,X.M,X.m.finish j x M5⟩:=by
 show⟨I.op.finish hx hb uo,?_,I.sp⟩;change X.m.xs.4=(X.m.M.ds.set j _).4;rw[ϗ];show I.25
def OS.put (I:OS X){n:Str}:OS ⟨X.t,X.M.put i mr l n k,X.m⟩:=⟨I.op,I.25,λe he s hs=>by
 change 0<=s.1/\s.1 < ((X.M.Ms.set i (mr.add l)).4);rw[ϗ]
 show I.sp e he s hs⟩
def OS.hold (I:OS X){n:Str}{e:-M4×-OV}(hi:i < X.M.Ms.4)(he:X.47[j]?=!e):OS ⟨X.t,X.M.put i mr l n k,X.m.hold j e ((i:Int),mr.19)⟩:=by
 show⟨I.op,?_,λe' Rm s hs=>?_⟩
 ·show(X.m.xs.set j _).4=_
  rw[ϗ];show I.25
 ·change 0<=s.1/\s.1 < ((X.M.Ms.set i (mr.add l)).4)
  rw[ϗ];rcases Ev Rm with h | h
  ·show I.sp e' h s hs
  ·rw[h] at hs
   rcases Ξ.mp hs with hs | hs
   ·show I.sp e (Δ he) s hs
   ·rw[Ζ.mp hs]
    show⟨by show(0:Int)<=(i:Int);lk,by show(i:Int) < _;lk⟩
structure KA where
 kd:Ι
 dl:Ι
 rl:Ι
 lv:Ι
 nb:Ι
 ft:Ι
 ds:-Ι
 ss:-Ι
abbrev XM (x:Dd)(s:Ι):-(Key×V):=[(.inr "sender",.str x.1),(.inr "end",.int x.2.1),(.inr "fate",.str x.2.2),(.inr "spots",.ref s)]
abbrev NX (k:KA)(t:Int):-(Key×V):=[(.inr "deeds",.ref k.dl),(.inr "rows",.ref k.rl),(.inr "lives",.ref k.lv),(.inr "numbers",.ref k.nb),(.inr "turn",.int t),(.inr "fronts",.ref k.ft)]
def dF (k:KA)(t:Int):lc (NX k t) (.inr "deeds")=!.ref k.dl:=by rfl
def kn (k:KA)(t:Int):lc (NX k t) (.inr "rows")=!.ref k.rl:=by rfl
def rC (k:KA)(t:Int):lc (NX k t) (.inr "lives")=!.ref k.lv:=by rfl
def lA (k:KA)(t:Int):lc (NX k t) (.inr "numbers")=!.ref k.nb:=by rfl
def qp (k:KA)(t:Int):lc (NX k t) (.inr "turn")=!.int t:=by rfl
def ur (k:KA)(t:Int):lc (NX k t) (.inr "fronts")=!.ref k.ft:=by rfl
def DE (x:Dd)(s:Ι):lc (XM x s) (.inr "sender")=!.str x.1:=by rfl
def KD (x:Dd)(s:Ι):lc (XM x s) (.inr "end")=!.int x.2.1:=by rfl
def iL (x:Dd)(s:Ι):lc (XM x s) (.inr "fate")=!.str x.2.2:=by rfl
def rD (x:Dd)(s:Ι):lc (XM x s) (.inr "spots")=!.ref s:=by rfl
structure NE (H:Hp)(k:KA)(ds:-Dd)(xs:-(-M4)):Prop where
 lst:H k.dl=!.lst (k.ds.map V.ref)
 l1:k.ds.4=ds.4
 l2:k.ss.4=ds.4
 l3:xs.4=ds.4
 ob:∀(i:Nat) d s x,k.ds[i]?=!d->k.ss[i]?=!s->ds[i]?=!x->H d=!.dK (XM x s)
 sp:∀(i:Nat) s e,k.ss[i]?=!s->xs[i]?=!e->ϲ H s (e.map Tb)
 nd:(k.kd::k.dl::(k.ds++k.ss)).14
def NE.get {ds:-Dd}{xs:-(-M4)}(h:NE H k ds xs)(hd:k.ds[i]?=!d):∃s x e,k.ss[i]?=!s/\ds[i]?=!x/\xs[i]?=!e/\H d=!.dK (XM x s):=by
 let hi:=(Α.mp hd).1;have:=h.l1;have:=h.l2;have:=h.l3;show(ϰ _ _ _ (Ε ()) (Ε ()) (Ε ()) (h.ob i d _ _ hd (Ε ()) (Ε ())))
abbrev zT:Sp:=λvs H Q _=>∃k t M xs n,vs=[.ref k.kd,.str n]/\H k.kd=!.dK (NX k t)/\NE H k M.ds xs/\Ta M/\M.ds.4<=1000/\∀H',Ω H H'->Q (.int ((M.B n).getD 0)) H'
abbrev uu:Sp:=λvs H Q _=>∃(k:KA) (t:Int) (ds:-Dd) (xs:-(-M4)) (num:Int) (f:Str),vs=[.ref k.kd,.int num,.str f]/\H k.kd=!.dK (NX k t)/\NE H k ds xs/\
 ((num<=0/\Q .k4 H)\/(∃(j:Nat) (x:Dd) (d:Ι),num=(j:Int)+1/\ds[j]?=!x/\k.ds[j]?=!d/\∀H',ϛ [d] H H'->NE H' k (ds.set j (x.1,x.2.1,f)) xs->Q .k4 H'))
def NE.fin {ds:-Dd}{xs:-(-M4)}(h:NE H k ds xs){x:Dd}{f:Str}(hd:k.ds[j]?=!d)(hs:k.ss[j]?=!s)(hx:ds[j]?=!x)(c:ϛ [d] H H')(e:H' d=!.dK (XM (x.1,x.2.1,f) s)):NE H' k (ds.set j (x.1,x.2.1,f)) xs:=by
 let md:=Δ hd;let n2:=ϊ.mp (ϊ.mp h.nd).2;let n3:=υ.mp n2.2;show⟨c.keep _ _ h.28 (λz=>n2.1 (Η _ (Ζ.mp z▸md))),by rw[ϗ];show h.l1,by rw[ϗ];show h.l2,by rw[ϗ];show h.l3,λi d' s' x' g1 g2 g3=>?_,λi s' e' g1 g2=>(h.sp i s' e' g1 g2).im c (λz=>n3.2.2 d md s' (Δ g1) (Ζ.mp z).17),h.nd⟩
 by_cases ij:j=i
 ·subst ij
  rw[hd] at g1;cases g1;rw[hs] at g2;cases g2;rw[ϑ ((Α.mp hx).1)] at g3;cases g3;show e
 ·rw[ϔ ij] at g3
  show c.keep _ _ (h.ob i d' s' x' g1 g2 g3) (λz=>ij (ib n3.1 hd ((Ζ.mp z)▸g1)))
def rE {y:Pr}:y∈Qj m↔∃(i:Nat) (x:Dd) (e:-M4×-OV),m.63[i]?=!x/\m.xs[i]?=!e/\y=(x.2.2,e.1):=by
 unfold Qj;constructor
 ·intro h
  obtain⟨i,hi⟩:=Ϣ h;rw[Ru] at hi;cases e1:m.63[i]? with
  | none=>rw[e1] at hi;cases e2:m.xs[i]?<;>cases hi
  | some x=>
   cases e2:m.xs[i]? with
   | none=>rw[e1,e2] at hi;cases hi
   | some e=>rw[e1,e2] at hi;cases hi;show(UL i x e e1 e2 rfl)
 ·rintro⟨i,x,e,h1,h2,rfl⟩
  show Δ (i:=i) ?_;rw[Ru,h1,h2]
abbrev R7 (F:-Int)(m:DM):Prop:=∀(i:Nat) x e,m.63[i]?=!x->m.xs[i]?=!e->aeO F (x.2.2,e.1)
def mN :VF F (Qj m)↔R7 F m:=
 ⟨λh i x e h1 h2=>h _ (rE.mpr (UL i x e h1 h2 rfl)),λh y hy=>by
  (show aco (rE.mp hy) λi x e h1 h2 μ=>?_;subst μ)
  show h i x e h1 h2⟩
def cE {a y:α}(h:(l++[a])[i]?=!y):l[i]?=!y\/(i=l.4/\y=a):=by
 by_cases c:i < l.4
 ·rw[ϙ c] at h;show .inl h
 ·rw[ϥ ()] at h
  let hi:i - l.4=0:=by
   have:=(Α.mp h).1;simp at this;lk
  rw[hi] at h;cases h;show .inr ⟨(),rfl⟩
def R7.begin (h:R7 F m)(hl:m.xs.4=m.M.ds.4)(n:Str)(e:Int):R7 F (m.begin n e):=λi x e' h1 h2=>by
 rcases cE h1 with h1 | ⟨rfl,rfl⟩
 ·rcases cE h2 with h2 | ⟨rfl,rfl⟩
  ·show h i x e' h1 h2
  ·rw[hl,sK (δ _)] at h1;cases h1
 ·rcases cE h2 with h2 | ⟨_,rfl⟩
  ·rw[<-hl,sK (δ _)] at h2;cases h2
  ·show⟨λ_ s hs=>(by cases hs),λ_=>.inl λs hs=>(by cases hs)⟩
def af3 {x:Dd}{e:-M4×-OV}(h:aeO F (x.2.2,e.1))(ho:x.2.2=ii):∀s∈e.1,Q2 F s=false:=h.1 ho
def R7.close (h:R7 F m){x:Dd}(hx:m.63[j]?=!x)(ho:x.2.2=ii):R7 F (m.finish j x M5):=λi y e h1 h2=>by
 let h1:(m.M.ds.set j (x.1,x.2.1,M5))[i]?=!y:=h1
 by_cases c:j=i
 ·subst c
  rw[ϑ ((Α.mp hx).1)] at h1;cases h1;show⟨λz=>absurd z uo,λ_=>.inr (af3 (h j x e hx h2) ho)⟩
 ·rw[ϔ c] at h1
  show h i y e h1 h2
def rF:wT≠M5:=by decide +kernel
def R7.drop (h:R7 F m){x:Dd}(hx:m.63[j]?=!x):R7 F (m.finish j x wT):=λi y e h1 h2=>by
 let h1:(m.M.ds.set j (x.1,x.2.1,wT))[i]?=!y:=h1
 by_cases c:j=i
 ·subst c
  rw[ϑ ((Α.mp hx).1)] at h1;cases h1;show⟨λz=>absurd z iK,λz=>absurd z rF⟩
 ·rw[ϔ c] at h1
  show h i y e h1 h2
def R7.hold (h:R7 F m){x:Dd}{e:-M4×-OV}(hx:m.63[j]?=!x)(ho:x.2.2=ii)(he:m.xs[j]?=!e)(hs:Q2 F s=false):R7 F (m.hold j e s):=λi y e' h1 h2=>by
 let h1:m.63[i]?=!y:=h1;let h2:(m.xs.set j (e.1++[s],e.2))[i]?=!e':=h2
 by_cases c:j=i
 ·subst c
  rw[ϑ ((Α.mp he).1)] at h2;rw[hx] at h1;cases h1;cases h2;show⟨λ_ s' Vh=>?_,λz=>absurd (ho.symm.trans z) (s!"d")⟩;rcases Ξ.mp Vh with g | g
  ·show af3 (h j x e hx he) ho s' g
  ·rw[Ζ.mp g];show hs
 ·rw[ϔ c] at h2
  show h i y e' h1 h2
def zU {X:S5}(h:Ol (Qj X.m) (FB X.M) F)(hb:∀(i:Nat) e,X.47[i]?=!e->∀s∈e.1,Q2 (FB X.M) s=true)(hno:∀(i:Nat) x,X.13[i]?=!x->x.2.2≠ii):F=FB X.M:=
 h.self (mN.mpr λi x e h1 h2=>⟨λz=>absurd z (hno i x h1),λ_=>.inl (hb i e h2)⟩)
def Gg {X:S5}(h:Ol (Qj X.m) (FB X.M) F)(h0:R7 F0 X.m)(hle:TH F0 (FB X.M)):TH F0 F:=h.most F0 hle (mN.mpr h0)
abbrev MB.aa6 (m:MB)(r:Nat)(l:-M4):MB:={ m with L:=λp=>if ((r:Int),p)∈l then none else m.L p }
def Gh (m:MB)(r:Nat):m.aa6 r []=m:=by
 unfold MB.aa6;simp
def xP (l:-M4)(Ms:-MB)(h:∀s∈l,0<=s.1)(r:Nat):(O0 Ms l)[r]?=Ms[r]?.map λm=>m.aa6 r l:=by
 induction l generalizing Ms with
 | nil=>
  change Ms[r]?=_;cases Ms[r]? with
  | none=>rfl
  | some m=>show some m=!m.aa6 r [];rw[Gh]
 | cons s l ih=>
  show(O0 (Ms.modify s.1.6 λm=>m.out s.2) l)[r]?=_;rw[ih _ λs' Vh=>h s' (θ _ Vh)];rw[Ze];let h0:=h s ∅;cases Ms[r]? with
  | none=>rfl
  | some m=>
   by_cases c:s.1.6=r
   ·simp only[c,if_true,NO,aak]
    congr 1;unfold MB.aa6 MB.out;congr 1;funext p;let e1:(((r:Int),p)∈s::l)=(p=s.2\/((r:Int),p)∈l):=by
     rw[Κ];have:(((r:Int),p)=s)=(p=s.2):=by
      apply propext;constructor
      ·intro z;rw[<-z]
      ·intro z;show Prod.ext (by show(r:Int)=s.1;lk) z
     rw[this]
    rw[show(if ((r:Int),p)∈s::l then none else m.L p)=if (p=s.2\/((r:Int),p)∈l) then none else m.L p by simp only[e1]]
    by_cases c1:((r:Int),p)∈l
    ·simp[c1]
    ·by_cases c2:p=s.2
     ·simp[c1,c2]
     ·simp[c1,c2]
   ·simp only[c,if_false,NO,aak]
    congr 1;unfold MB.aa6;congr 1;funext p;have:((r:Int),p)≠s:=λz=>c (by rw[<-z];show((r:Int)).6=r;lk);simp[Κ,this]
abbrev IR (ds:-Dd)(dd:Int):Bool:=match ds[(dd - 1).6]? with
 | some x=>decide (1<=dd) && decide (x.2.2=wT)
 | none=>false
abbrev R9 (ds:-Dd)(w:-Oa)(p:Int):Option Oa:=if 0<=p then(w[p.6]?).bind λl=>if IR ds l.2.2=true then none else some l else none
structure ae4 (ds:-Dd)(w:-Oa)(m:MB):Prop where
 first:m.56=0
 last:m.19=w.4
 L:∀p,m.L p=R9 ds w p
structure RE (X:S5)(W:-(-Oa)):Prop where
 inv:OS X
 len:W.4=X.M.Ms.4
 row:∀(r:Nat) w m,W[r]?=!w->X.35[r]?=!m->ae4 X.13 w m
 spt:∀(j:Nat) e,X.47[j]?=!e->∀s,s∈e.1↔∃(r p:Nat) (w:-Oa) (l:Oa),s=((r:Int),(p:Int))/\W[r]?=!w/\w[p]?=!l/\l.2.2=(j:Int)+1
 dd:∀(r:Nat) w (p:Nat) l,W[r]?=!w->w[p]?=!l->0<=l.2.2/\l.2.2<=X.m.M.ds.4
 pl:∀e∈X.47,e.2=[]
def uv {ds:-Dd}{x y:Dd}{dd:Int}(hx:ds[j]?=!x)(h0:0<=dd):IR (ds.set j y) dd=if dd=(j:Int)+1 then decide (y.2.2=wT) else IR ds dd:=by
 unfold IR
 by_cases c:dd=(j:Int)+1
 ·subst c
  rw[γ rfl,show((j:Int)+1 - 1).6=j by lk,ϑ ((Α.mp hx).1)];simp;lk
 ·rw[Φ c]
  by_cases c1:(dd - 1).6=j
  ·let d0:dd=0:=by lk
   subst d0;cases (ds.set j y)[((0:Int) - 1).6]?<;>cases ds[((0:Int) - 1).6]?<;>simp
  ·rw[ϔ (ψ c1)]
def zV {ds:-Dd}{w:-Oa}{x:Dd}(hx:ds[j]?=!x)(ho:x.2.2=ii)(hw:∀(p:Nat) l,w[p]?=!l->0<=l.2.2)(p:Int):R9 (ds.set j (x.1,x.2.1,M5)) w p=R9 ds w p:=by
 unfold R9
 by_cases c:0<=p
 ·rw[γ c,γ c]
  cases e:w[p.6]? with
  | none=>rfl
  | some l=>
   show(if IR (ds.set j (x.1,x.2.1,M5)) l.2.2=true then none else some l)=if IR ds l.2.2=true then none else some l;rw[uv hx (hw _ _ e)]
   by_cases d:l.2.2=(j:Int)+1
   ·rw[γ d,Ϫ (λz=>rF z.17)]
    have:IR ds l.2.2=false:=by
     unfold IR;rw[d,show((j:Int)+1 - 1).6=j by lk,hx];simp only[OL,aci];show .inr (by rw[ho];show λz=>iK z.17)
    rw[this]
   ·rw[Φ d]
 ·rw[Φ c,Φ c]
def RE.close (h:RE X W){x:Dd}(hx:X.13[j]?=!x)(ho:x.2.2=ii):RE ⟨X.t,X.M,X.m.finish j x M5⟩ W:=by
 show⟨h.inv.close hx (h.inv.op.b j x hx ho),h.25,λr w m h1 h2=>?_,h.spt,λr w p l h1 h2=>?_,h.pl⟩
 ·obtain⟨a,b,c⟩:=h.row r w m h1 h2
  show⟨a,b,λp=>by rw[c p];show(zV hx ho (λp l hp=>(h.dd r w p l h1 hp).1) p).17⟩
 ·change 0<=l.2.2/\l.2.2<=((X.m.M.ds.set j _).4:Int)
  rw[ϗ];show h.dd r w p l h1 h2
def RE.drop (h:RE X W){x:Dd}(hx:X.13[j]?=!x)(ho:x.2.2=ii):RE (Wm X j) W:=by
 obtain⟨e,he⟩:=h.inv.vN hx;let I:=vO h.inv hx ho;rw[jx hx he] at I ⊢;let s0:=λs hs=>(h.inv.sp e (Δ he) s hs).1;show⟨I,by show W.4=(O0 X.35 e.1).4;rw[oj];show h.25,λr w m h1 h2=>?_,h.spt,λr w p l h1 h2=>?_,h.pl⟩
 ·let h2:=h2
  rw[xP _ _ s0] at h2;(show ι (ξ.mp h2) λm0 hm0 μ=>?_;subst μ);obtain⟨a,b,c⟩:=h.row r w m0 h1 hm0;show⟨a,b,λp=>?_⟩;show(if ((r:Int),p)∈e.1 then none else m0.L p)=R9 (X.m.M.ds.set j (x.1,x.2.1,wT)) w p;rw[c p];unfold R9
  by_cases c0:0<=p
  ·rw[γ c0,γ c0]
   obtain⟨q,rfl⟩:∃q:Nat,p=(q:Int):=⟨p.6,()⟩
   rw[Ϝ];cases ew:w[q]? with
   | none=>show(if _ then none else none)=none;simp
   | some l=>
    show(if ((r:Int),(q:Int))∈e.1 then none else if IR X.13 l.2.2=true then none else some l)=if IR (X.m.M.ds.set j (x.1,x.2.1,wT)) l.2.2=true then none else some l;rw[uv hx ((h.dd r w q l h1 ew).1)]
    by_cases d:l.2.2=(j:Int)+1
    ·have:((r:Int),(q:Int))∈e.1:=(h.spt j e he _).mpr (UO r q w l rfl h1 ew d)
     rw[γ this,γ d,ϝ rfl,γ rfl]
    ·have:((r:Int),(q:Int))∉e.1:=λz=>by
      (show aeg ((h.spt j e he _).mp z) λr' q' w' l' g1=>N8 λg2 g3 g4=>?_);let e1:=congrArg Prod.fst g1;let e2:(q:Int)=q':=congrArg Prod.snd g1;let e1:r=r':=by lk
      let e2:q=q':=by lk
      subst e1;subst e2;rw[h1] at g2;cases g2;rw[ew] at g3;cases g3;show d g4
     rw[Φ this,Φ d]
  ·rw[Φ c0,Φ c0]
   simp
 ·change 0<=l.2.2/\l.2.2<=((X.m.M.ds.set j _).4:Int)
  rw[ϗ];show h.dd r w p l h1 h2
def RE.GM (h:RE X W)(n:Str):RE ⟨X.t,X.M.GM n,X.m⟩ W:=⟨h.inv.GM n,h.25,h.row,h.spt,h.dd,h.pl⟩
def RE.turn (h:RE X W)(t:Int):RE ⟨t,X.M,X.m⟩ W:=⟨⟨h.inv.op,h.inv.25,h.inv.sp⟩,h.25,h.row,h.spt,h.dd,h.pl⟩
def zW {ds:-Dd}{y:Dd}{dd:Int}(h0:0<=dd)(h:dd<=ds.4):IR (ds++[y]) dd=IR ds dd:=by
 unfold IR
 by_cases c:dd=0
 ·subst c
  cases (ds++[y])[((0:Int) - 1).6]?<;>cases ds[((0:Int) - 1).6]?<;>simp
 ·rw[ϙ ()]
def zX {ds ds':-Dd}{w:-Oa}(h:∀(p:Nat) l,w[p]?=!l->IR ds' l.2.2=IR ds l.2.2)(p:Int):R9 ds' w p=R9 ds w p:=by
 unfold R9
 by_cases c:0<=p
 ·rw[γ c,γ c]
  cases e:w[p.6]? with
  | none=>rfl
  | some l=>
   show(if IR ds' l.2.2=true then none else some l)=if IR ds l.2.2=true then none else some l;rw[h _ _ e]
 ·rw[Φ c,Φ c]
def RE.begin (h:RE X W){n:Str}{e:Int}(hB:X.m.M.B n=none):RE ⟨X.t,X.M,X.m.begin n e⟩ W:=by
 show⟨h.inv.begin hB,h.25,λr w m h1 h2=>?_,λj e' Rm s=>?_,λr w p l h1 h2=>?_,λe' Rm=>?_⟩
 ·obtain⟨a,b,c⟩:=h.row r w m h1 h2
  show⟨a,b,λp=>by rw[c p];show(zX (λp l hp=>zW (h.dd r w p l h1 hp).1 (h.dd r w p l h1 hp).2) p).17⟩
 ·rcases cE Rm with Rm | ⟨rfl,rfl⟩
  ·show h.spt j e' Rm s
  ·constructor
   ·intro z;cases z
   ·rintro⟨r,p,w,l,_,g2,g3,g4⟩
    have:=(h.dd r w p l g2 g3).2;rw[h.inv.25] at g4;lk
 ·change 0<=l.2.2/\l.2.2<=((X.13++[(n,e,ii)]).4:Int)
  have:=h.dd r w p l h1 h2;rw[Χ];show⟨this.1,by have:=this.2;simp;lk⟩
 ·rcases Ξ.mp Rm with g | g
  ·show h.pl e' g
  ·rw[Ζ.mp g]
abbrev QD (W:-(-Oa))(i:Nat)(w:-Oa)(l:Oa):-(-Oa):=W.set i (w++[l])
def fm {w:-Oa}(hw:W[i]?=!w){r p:Nat}:(∃w',(QD W i w l)[r]?=!w'/\w'[p]?=!l')↔(∃w',W[r]?=!w'/\w'[p]?=!l')\/(r=i/\p=w.4/\l'=l):=by
 unfold QD
 by_cases c:i=r
 ·subst c
  rw[ϑ ((Α.mp hw).1),hw];constructor
  ·rintro⟨w',h1,h2⟩
   cases h1;rcases cE h2 with h2 | ⟨h2,h3⟩
   ·show .inl (Λ w rfl h2)
   ·show .inr ⟨rfl,h2,h3⟩
  ·rintro(⟨w',h1,h2⟩ | ⟨_,rfl,rfl⟩)
   ·cases h1
    show(Λ _ rfl (by rw[ϙ (Α.mp h2).1];show h2))
   ·show(Λ _ rfl ∅)
 ·rw[ϔ c]
  constructor
  ·show .inl
  ·rintro(h | ⟨h,_⟩)
   ·show h
   ·show absurd h.symm c
def Gi {ds:-Dd}{w:-Oa}(hd:IR ds l.2.2=false)(p:Int):R9 ds (w++[l]) p=if p=(w.4:Int) then some l else R9 ds w p:=by
 unfold R9
 by_cases c0:0<=p
 ·rw[γ c0,γ c0]
  obtain⟨q,rfl⟩:∃q:Nat,p=(q:Int):=⟨p.6,()⟩
  rw[Ϝ]
  by_cases c1:q=w.4
  ·subst c1
   simp[hd]
  ·rw[Φ ()]
   by_cases c2:q < w.4
   ·rw[ϙ c2]
   ·rw[sK (by simp;lk),sK ()]
 ·rw[Φ c0,Φ c0,Φ ()]
def RE.xQ (h:RE X W){w:-Oa}(hw:W[i]?=!w)(hm:X.35[i]?=!mr)(hd:IR X.13 l.2.2=false):∀(r:Nat) w' m',(QD W i w l)[r]?=!w'->(X.M.Ms.set i (mr.add l))[r]?=!m'->ae4 X.13 w' m':=λr w' m' h1 h2=>by
 unfold QD at h1
 by_cases c:i=r
 ·subst c
  rw[ϑ ((Α.mp hw).1)] at h1;rw[ϑ ((Α.mp hm).1)] at h2;cases h1;cases h2;obtain⟨a,b,e⟩:=h.row i w mr hw hm;show⟨a,by show mr.19+1=_;rw[b];simp,λp=>?_⟩;rw[Gi hd,<-e p,<-b];rfl
 ·rw[ϔ c] at h1 h2
  show h.row r w' m' h1 h2
def RE.ahC (h:RE X W){w:-Oa}{n:Str}(hw:W[i]?=!w)(hm:X.35[i]?=!mr):RE ⟨X.t,X.M.put i mr (key,wo,0) n k,X.m⟩ (QD W i w (key,wo,0)):=by
 let hd:IR X.13 0=false:=by
  unfold IR;cases X.13[((0:Int) - 1).6]?<;>simp
 show⟨h.inv.put,by show(W.set i _).4=(X.M.Ms.set i _).4;rw[ϗ,ϗ];show h.25,h.xQ hw hm hd,λj e he s=>?_,λr w' p l h1 h2=>?_,h.pl⟩
 ·rw[h.spt j e he s]
  constructor
  ·rintro⟨r,p,w',l,g1,g2,g3,g4⟩
   obtain⟨w2,a,b⟩:=(fm hw).mpr (.inl (Λ w' g2 g3));show(UO r p w2 l g1 a b g4)
  ·rintro⟨r,p,w',l,g1,g2,g3,g4⟩
   rcases(fm hw).mp (Λ w' g2 g3) with⟨w2,a,b⟩ | ⟨_,_,rfl⟩
   ·show(UO r p w2 l g1 a b g4)
   ·let g4:(0:Int)=(j:Int)+1:=g4
    lk
 ·rcases(fm hw).mp (Λ w' h1 h2) with⟨w2,a,b⟩ | ⟨_,_,rfl⟩
  ·show h.dd r w2 p l a b
  ·show⟨Oe _,by show(0:Int)<=_;lk⟩
def RE.putD (h:RE X W){w:-Oa}{n:Str}{x:Dd}{e:-M4×-OV}(hw:W[i]?=!w)(hm:X.35[i]?=!mr)(hx:X.13[j]?=!x)(ho:x.2.2=ii)(he:X.47[j]?=!e):RE ⟨X.t,X.M.put i mr (key,wo,(j:Int)+1) n k,X.m.hold j e ((i:Int),mr.19)⟩ (QD W i w (key,wo,(j:Int)+1)):=by
 let hj2:=(Α.mp hx).1;let af4:=(h.row i w mr hw hm).19;let hd:IR X.13 (j+1)=false:=by
  unfold IR;rw[show((j:Int)+1 - 1).6=j by lk,hx];simp only[OL,aci];show .inr (by rw[ho];show λz=>iK z.17)
 show⟨h.inv.hold ((Α.mp hm).1) he,by show(W.set i _).4=(X.M.Ms.set i _).4;rw[ϗ,ϗ];show h.25,h.xQ hw hm hd,λj' e' Rm s=>?_,λr w' p l h1 h2=>?_,λe' Rm=>?_⟩
 ·let Rm:(X.m.xs.set j (e.1++[((i:Int),mr.19)],e.2))[j']?=!e':=Rm
  by_cases c:j=j'
  ·subst c
   rw[ϑ ((Α.mp he).1)] at Rm;cases Rm;rw[Ξ,h.spt j e he s,Ζ];constructor
   ·rintro(⟨r,p,w',l,g1,g2,g3,g4⟩ | rfl)
    ·obtain⟨w2,a,b⟩:=(fm hw).mpr (.inl (Λ w' g2 g3))
     show(UO r p w2 l g1 a b g4)
    ·obtain⟨w2,a,b⟩:=(fm hw).mpr (.inr ⟨rfl,rfl,rfl⟩)
     show(UO i w.4 w2 _ (by rw[af4]) a b rfl)
   ·rintro⟨r,p,w',l,g1,g2,g3,g4⟩
    rcases(fm hw).mp (Λ w' g2 g3) with⟨w2,a,b⟩ | ⟨rfl,rfl,rfl⟩
    ·show .inl (UO r p w2 l g1 a b g4)
    ·show .inr (by rw[g1,af4])
  ·rw[ϔ c] at Rm
   rw[h.spt j' e' Rm s];constructor
   ·rintro⟨r,p,w',l,g1,g2,g3,g4⟩
    obtain⟨w2,a,b⟩:=(fm hw).mpr (.inl (Λ w' g2 g3));show(UO r p w2 l g1 a b g4)
   ·rintro⟨r,p,w',l,g1,g2,g3,g4⟩
    rcases(fm hw).mp (Λ w' g2 g3) with⟨w2,a,b⟩ | ⟨_,_,rfl⟩
    ·show(UO r p w2 l g1 a b g4)
    ·let g4:(j:Int)+1=(j':Int)+1:=g4
     show absurd () c
 ·rcases(fm hw).mp (Λ w' h1 h2) with⟨w2,a,b⟩ | ⟨_,_,rfl⟩
  ·show h.dd r w2 p l a b
  ·show⟨by show(0:Int)<=(j:Int)+1;lk,by show(j:Int)+1<=(X.m.M.ds.4:Int);lk⟩
 ·rcases Ev Rm with g | g
  ·show h.pl e' g
  ·rw[g];show h.pl e (Δ he)
abbrev QY (xs:-(-M4×-OV)):Nat:=(xs.map λe=>e.1.4).76
def xR:∀(ds:-Dd) (xs:-(-M4×-OV)),((agp (λ(x:Dd) (e:-M4×-OV)=>((x.2.2,e.1):Pr)) ds xs).flatMap (·.2)).4<=QY xs
 | [],xs=>by simp[QY]
 | _::_,[]=>by simp[QY]
 | d::ds,x::xs=>by
  have:=xR ds xs;simp only[List.zipWith_cons_cons,Qu,Χ];change x.1.4+_<=QY (x::xs);unfold QY at this ⊢;simp only[Ϗ,lm];lk
def DF (xs:-(-M4×-OV)):QY (xs++[([],[])])=QY xs:=by
 unfold QY;simp
def uw:∀(xs:-(-M4×-OV)) (j:Nat) (e:-M4×-OV) (y:M4),xs[j]?=!e->QY (xs.set j (e.1++[y],e.2))=QY xs+1
 | [],j,e,y,h=>by simp at h
 | x::xs,0,e,y,h=>by
  simp at h;subst h;unfold QY;simp only[List.set_cons_zero,Ϗ,lm,Χ,ς,ϸ];lk
 | x::xs,j+1,e,y,h=>by
  have:=uw xs j e y (by simpa using h);unfold QY at this ⊢;simp only[List.set_cons_succ,Ϗ,lm];lk
def RE.zY (h:RE X W){e:-M4×-OV}(he:X.47[j]?=!e)(hs:s∈e.1):0<=s.1/\s.1 < X.M.Ms.4/\0<=s.2/\s.2 < ZC (FB X.M) s.1:=by
 (show aeg ((h.spt j e he s).mp hs) λr p w l μ=>N8 λh1 h2 _=>?_;subst μ);let hr:=(Α.mp h1).1;let hp:=(Α.mp h2).1;let hl:=h.25;let hm:X.35[r]?=!X.35[r]'():=Ε ();show⟨by show(0:Int)<=(r:Int);lk,by show(r:Int) < _;lk,by show(0:Int)<=(p:Int);lk,?_⟩;show(p:Int) < (FB X.M).getD ((r:Int)).toNat 0;unfold FB;rw[Ϝ,ε,Ρ,hm];show(p:Int) < (X.35[r]'()).19;rw[(h.row r w _ h1 hm).19];lk
def RE.Q2 (h:RE X W):∀(i:Nat) e,X.47[i]?=!e->∀s∈e.1,L2.Q2 (FB X.M) s=true:=λi e he s hs=>by
 unfold L2.Q2;show ϝ (h.zY he hs).2.2.2
def RE.fr (h:RE X W)(hc:QY X.47<=1000)(hd:X.m.M.ds.4<=1000):Fr5 X.M X.m:=by
 show⟨λy hy s hs=>?_,ο (xR _ _) hc,hd⟩;(show aco (rE.mp hy) λi x e h1 h2 μ=>?_;subst μ);(show acm (h.zY h2 hs) λa b c _=>?_);show⟨a,b,c⟩
abbrev P4 (ds:-Dd)(w:-Oa)(p:Nat):Option (-V):=(w[p]?).bind λl=>if IR ds l.2.2=true then none else some [.int (p:Int),.str (S l.1),wV l.2.1]
abbrev ZH (ds:-Dd)(w:-Oa)(f:Int):-(-V):=(Ϟ w.4).filterMap λ(p:Nat)=>if (p:Int) < f then P4 ds w p else none
def rG {f g:α->Option β}:∀{l:-α},(∀x∈l,f x=g x)->l.filterMap f=l.filterMap g
 | [],_=>rfl
 | a::l,h=>by
  rw[pi,pi,h a ∅,rG λx hx=>h x (θ _ hx)]
def Gj (ds:-Dd)(w:-Oa)(n k:Nat):(Ϟ (n+k)).filterMap (λ(p:Nat)=>if (p:Int) < (n:Int) then P4 ds w p else none)=(Ϟ n).filterMap (P4 ds w):=by
 induction k with
 | zero=>
  show rG λp hp=>by
   have:=Ow.mp hp;rw[γ ()]
 | succ k ih=>
  rw[show n+(k+1)=(n+k)+1 by lk,AT,Rv,ih];simp only[pi,SR];rw[Φ ()];simp
def ahD {ds:-Dd}{w:-Oa}(h:ae4 ds w m)(n:Nat):(m.Mu 0 n).map m.UU=(Ϟ n).filterMap (P4 ds w):=by
 unfold MB.Mu
 induction n with
 | zero=>rfl
 | succ n ih=>
  rw[AT,ϐ,MA,ϐ,ih,Rv];congr 1;let e0:m.L (0+(n:Int))=R9 ds w n:=by rw[h.L];congr 1;lk
  simp only[Ϗ,Po,pi,SR];let e1:R9 ds w n=(w[n]?).bind λl=>if IR ds l.2.2=true then none else some l:=by
   unfold R9;rw[γ (),Ϝ]
  rw[e1] at e0;unfold P4;cases ew:w[n]? with
  | none=>
   rw[ew] at e0;let e0:=e0;rw[MU (by rw[e0];simp)];rfl
  | some l=>
   rw[ew] at e0
   by_cases c:IR ds l.2.2=true
   ·let e0:m.L (0+(n:Int))=none:=by rw[e0];show(if _ then _ else _)=_;rw[γ c]
    rw[MU (by rw[e0];simp)];simp[c]
   ·let e0:m.L (0+(n:Int))=!l:=by rw[e0];show(if _ then _ else _)=_;rw[Φ c]
    rw[Od (by rw[e0];rfl)];simp only[Rr,Ϗ,Po,TQ,Φ c];unfold MB.UU;rw[e0];simp
def af5 {ds:-Dd}{w:-Oa}(h:ae4 ds w m){f:Int}(h0:0<=f)(hf:f<=w.4):(m.Mu 0 f.6).map m.UU=ZH ds w f:=by
 obtain⟨n,rfl⟩:∃n:Nat,f=(n:Int):=⟨f.6,()⟩
 rw[Ϝ,ahD h n];unfold ZH;obtain⟨k,hk⟩:∃k,w.4=n+k:=⟨w.4 - n,()⟩
 rw[hk];show(Gj ds w n k).17
abbrev VJ (w:-Oa):-(-V):=w.mapIdx λp l=>[.int ((p:Nat):Int),.str (S l.1),wV l.2.1,.int l.2.2]
def Ii {w:-Oa}{r:-V}(h:(VJ w)[i]?=!r):∃l,w[i]?=!l/\r=[.int (i:Int),.str (S l.1),wV l.2.1,.int l.2.2]:=by
 unfold VJ at h;rw[List.getElem?_mapIdx] at h;(show ι (ξ.mp h) λl h1 h2=>?_);show(Λ l h1 h2.17)
def jy (w:-Oa):(VJ w).4=w.4:=by unfold VJ;simp
abbrev part5 (ds:-Dd)(w:-Oa)(f:Int)(i:Nat):-(-V):=(Ϟ i).filterMap λ(p:Nat)=>if (p:Int) < f then P4 ds w p else none
def rH (ds:-Dd)(w:-Oa)(f:Int)(i:Nat):part5 ds w f (i+1)=part5 ds w f i++(match (if (i:Int) < f then P4 ds w i else none) with | some r=>[r] | none=>[]):=by
 unfold part5;rw[AT,Rv];simp only[pi,SR];cases (if i < f then P4 ds w i else none)<;>rfl
abbrev tm:Sp:=λvs H Q _=>∃(k:KA) (t:Int) (ds:-Dd) (xs:-(-M4)) (rws:-Ι) (r:Nat) (a:Ι) (w:-Oa) (f:Int),vs=[.ref k.kd,.int (r:Int),.int f]/\H k.kd=!.dK (NX k t)/\NE H k ds xs/\H k.rl=!.lst (rws.map V.ref)/\rws[r]?=!a/\ϲ H a (VJ w)/\w.4<=1000/\(∀(p:Nat) l,w[p]?=!l->0<=l.2.2/\l.2.2<=ds.4)/\
 ∀D H',H D=none->Ω H H'->ϲ H' D (ZH ds w f)->Q (.ref D) H'
def ϲ.push {D t:Ι}{r:-V}(e:H D=!.lst (ts0.map V.ref))(h:M3 H ts0 rows)(ht:H t=!.tup r):ϲ (upd H D (.lst (ts0.map V.ref++[V.ref t]))) D (rows++[r]):=by
 let c:ϛ [D] H (upd H D (.lst (ts0.map V.ref++[V.ref t]))):=ϛ.upd ∅ (cv e);show(Λ (ts0++[t]) ?_ (Paired.akv (F:=λa b=>upd H D (.lst (ts0.map V.ref++[V.ref t])) a=!.tup b) (c.tup _ _ ht) (h.im c)));rw[ϐ];show aa
abbrev Sa (H:Hp)(a:Ι)(f:Str->Option Int):Prop:=∃ϓ,H a=!.dK ϓ/\ϓ.4<=100/\∀z,lc ϓ (.inr z)=(f z).map V.int
abbrev KA.all (k:KA)(rws:-Ι):-Ι:=[k.kd,k.dl,k.rl,k.lv,k.nb,k.ft]++(k.ds++(k.ss++rws))
structure Db (H:Hp)(k:KA)(rws:-Ι)(t:Int)(ds:-Dd)(xs:-(-M4))(W:-(-Oa))(lv nb:Str->Option Int)(F:-Int):Prop where
 kd:H k.kd=!.dK (NX k t)
 OH:NE H k ds xs
 rl:H k.rl=!.lst (rws.map V.ref)
 lr:rws.4=W.4
 rw:∀(r:Nat) a w,rws[r]?=!a->W[r]?=!w->ϲ H a (VJ w)
 lv:Sa H k.lv lv
 nb:Sa H k.nb nb
 ft:H k.ft=!.lst (F.map V.int)
 nd:(k.all rws).14
def Sa.im {f:Str->Option Int}(h:Sa H a f)(c:ϛ B H H')(n:a∉B):Sa H' a f:=let ⟨ϓ,e,l,v⟩:=h;(ϡ ϓ (c.keep _ _ e n) l v)
def NE.im {ds:-Dd}{xs:-(-M4)}(h:NE H k ds xs)(c:ϛ B H H')(n0:k.dl∉B)(n1:∀d∈k.ds,d∉B)(n2:∀s∈k.ss,s∉B):NE H' k ds xs:=
 ⟨c.keep _ _ h.28 n0,h.l1,h.l2,h.l3,λi d s x g1 g2 g3=>c.keep _ _ (h.ob i d s x g1 g2 g3) (n1 d (Δ g1)),λi s e g1 g2=>(h.sp i s e g1 g2).im c (n2 s (Δ g1)),h.nd⟩
def Db.im {ds:-Dd}{xs:-(-M4)}(h:Db H k rws t ds xs W lv nb F)(c:ϛ B H H')(hB:∀b∈B,b∉k.all rws):Db H' k rws t ds xs W lv nb F:=by
 let n:∀{a:Ι},a∈k.all rws->a∉B:=λha hb=>hB _ hb ha;let f:∀{a:Ι},a∈[k.kd,k.dl,k.rl,k.lv,k.nb,k.ft]->a∉B:=λha=>n (Η _ ha);show⟨c.keep _ _ h.kd (f (mi 0 rfl)),h.OH.im c (f (mi 1 rfl)) (λd hd=>n (Β _ (Η _ hd))) (λd hd=>n (Β _ (Β _ (Η _ hd)))),c.keep _ _ h.rl (f (mi 2 rfl)),h.lr,λr a w g1 g2=>(h.rw r a w g1 g2).im c (n (Β _ (Β _ (Β _ (Δ g1))))),h.lv.im c (f (mi 3 rfl)),h.nb.im c (f (mi 4 rfl)),c.keep _ _ h.ft (f (mi 5 rfl)),h.nd⟩
def Db.same {ds:-Dd}{xs:-(-M4)}(h:Db H k rws t ds xs W lv nb F)(s:Ω H H'):Db H' k rws t ds xs W lv nb F:=h.im (B:=[]) (ϛ.of_same s) (λ_ z=>nomatch z)
abbrev ahE (ds:-Dd):Prop:=∀(i:Nat) x,ds[i]?=!x->x.2.2≠ii
abbrev xS:Sp:=λvs H Q _=>∃(k:KA) (rws:-Ι) (t:Int) (m:DM) (W:-(-Oa)) (lv nb:Str->Option Int) (F0 F:-Int) (fa:Ι),vs=[.ref k.kd,.ref fa]/\Db H k rws t m.63 (m.xs.map (·.1)) W lv nb F0/\H fa=!.lst (F.map V.int)/\R7 F m/\(∀(j:Nat) e,m.xs[j]?=!e->e.1.4<=1000/\∀s∈e.1,0<=s.1/\s.1 < F.4)/\m.M.ds.4<=1000/\W.4<=100/\F.4<=100/\(ahE m.63->F=W.map λw=>(w.4:Int))/\
 ∀H',Ω H H'->Q (.bl true) H'
def KG (b:Bool)(bs:-Bool):inV (.bl b) (bs.map V.bl)=decide (b∈bs):=by
 unfold inV
 induction bs with
 | nil=>rfl
 | cons a l ih=>
  rw[Ϗ,NU,ih];rw[show eqV (.bl a) (.bl b)=(a == b) from rfl];cases a<;>cases b<;>simp
abbrev aoY (F:-Int):-V->V
 | [.int a,.int b]=>.bl (Q2 F (a,b))
 | _=>.bl false
def Ij (bs:-Bool):(bs.map V.bl).all N1=true:=by
 simp[N1]
structure Bd5 (X:S5)(W:-(-Oa))(s:Nat):Prop where
 ds:X.m.M.ds.4<=s
 sz:X.m.M.sz<=s
 cn:QY X.47<=s
 wl:∀(r:Nat) w,W[r]?=!w->w.4<=s
 ls:X.M.ls.4<=4+s * 60
 ss:X.45<=3+s
 tu:∃t:Nat,X.t=(t:Int)/\t<=10 * s
structure Nm5 (X:S5)(nm:Nat->-Nat)(s:Nat):Prop where
 ok:∀i,i < 5->Om (nm i)
 inj:∀i j,i < 5->j < 5->nm i=nm j->i=j
 x0:∃x,X.74[0]?=!x/\x.59=nm 0/\1<=x.40
 x1:∃x,X.74[1]?=!x/\x.59=nm 1/\1<=x.40
 xl:X.M.xs.4=2
 xr:X.M.Ms.4=Ϩ X.74 2
 lv:∀i,2<=i->i < 5->∃l:Nat,X.M.S.L (S (nm i))=!(l:Int)/\1<=l/\l<=1+s
 nu:∀i,2<=i->i < 5->∃n:Nat,X.M.S.T (S (nm i))=(n:Int)/\n<=s
structure Qk (X:S5)(W:-(-Oa))(F:-Int)(nm:Nat->-Nat)(s:Nat):Prop where
 wd:RE X W
 snd:R7 F X.m
 ZI:TH F (FB X.M)
 f0:∀i,0<=F.getD i 0
 bd:Bd5 X W s
 nm:Nm5 X nm s
 lt:∀w∈W,∀l∈w,XE l.1/\YC (wV l.2.1)
def DG (h:∀s∈l,0<=s.1):(O0 Ms l).map (·.last)=Ms.map (·.last):=Qv λi=>by
 rw[Ρ,xP l Ms h i,Ρ];cases Ms[i]?<;>rfl
def xT {Ms:-MB}(hm:Ms[i]?=!mr):TH (Ms.map (·.last)) ((Ms.set i (mr.add l)).map (·.last)):=by
 show⟨∅,λj=>?_⟩;rw[ε,ε,Ρ,Ρ]
 by_cases c:i=j
 ·subst c
  rw[ϑ ((Α.mp hm).1),hm];change mr.19<=mr.19+1;lk
 ·rw[ϔ c]
  show Oe _
def RE.wl (h:RE X W)(ls:-(-Nat)):RE (X.wl ls) W:=⟨⟨h.inv.op,h.inv.25,h.inv.sp⟩,h.25,h.row,h.spt,h.dd,h.pl⟩
def Nm5.mono (h:Nm5 X nm s)(e1:X'.74=X.74)(e2:X'.M.Ms.4=X.M.Ms.4)(lv:∀i,2<=i->i < 5->∃l:Nat,X'.M.S.L (S (nm i))=!(l:Int)/\1<=l/\l<=1+(s+1))(nu:∀i,2<=i->i < 5->∃n:Nat,X'.M.S.T (S (nm i))=(n:Int)/\n<=s+1):Nm5 X' nm (s+1):=⟨h.ok,h.inj,by rw[e1];show h.x0,by rw[e1];show h.x1,by rw[e1];show h.xl,by rw[e1,e2];show h.xr,lv,nu⟩
def Nm5.lv1 (h:Nm5 X nm s):∀i,2<=i->i < 5->∃l:Nat,X.M.S.L (S (nm i))=!(l:Int)/\1<=l/\l<=1+(s+1):=λi a b=>by
 (show ϱ (h.lv i a b) λl x y z=>?_);show(ϡ l x y ())
def Nm5.nu1 (h:Nm5 X nm s):∀i,2<=i->i < 5->∃n:Nat,X.M.S.T (S (nm i))=(n:Int)/\n<=s+1:=λi a b=>by
 (show ι (h.nu i a b) λl x y=>?_);show(Λ l x ())
section
variable {X:S5} {W:-(-Oa)} {nm:Nat->-Nat} {s:Nat} 
def Qk.up (h:Qk X W F nm s):Qk X W F nm (s+1):=by
 (show ι h.69 λt e l=>?_);show⟨h.wd,h.85,h.ZI,h.f0,⟨ϋ h.bd.ds,ϋ h.bd.sz,ϋ h.bd.cn,λr w e=>ϋ (h.bd.wl r w e),by have:=h.bd.ls;lk,by have:=h.bd.ss;lk,t,e,()⟩,h.nm.mono rfl rfl h.89 h.90,h.lt⟩
def Qk.begin (h:Qk X W F nm s){n:Str}{e:Int}(hB:X.m.M.B n=none)(hl:ls.4=X.M.ls.4+1):Qk ⟨X.t,{ X.M with ls:=ls },X.m.begin n e⟩ W F nm (s+1):=by
 (show ι h.69 λt et lt=>?_);let b:=h.bd;show⟨(h.wd.begin hB).wl ls,h.snd.begin h.wd.inv.25 n e,h.ZI,h.f0,⟨?_,?_,?_,λr w e=>ϋ (b.wl r w e),?_,?_,t,et,()⟩,h.nm.mono rfl rfl h.89 h.90,h.lt⟩
 ·show(X.13++[_]).4<=_
  rw[Χ];show NJ b.ds
 ·show NJ b.sz
 ·change QY (X.47++[([],[])])<=_
  rw[DF];show ϋ b.cn
 ·change ls.4<=_;have:=b.ls;lk
 ·change X.45<=_;have:=b.ss;lk
def Qk.close (h:Qk X W F nm s){x:Dd}(hx:X.13[j]?=!x)(ho:x.2.2=ii)(hl:ls.4=X.M.ls.4+1):Qk ⟨X.t,{ X.M with ls:=ls },X.m.finish j x M5⟩ W F nm (s+1):=by
 (show ι h.69 λt et lt=>?_);let b:=h.bd;show⟨(h.wd.close hx ho).wl ls,h.snd.close hx ho,h.ZI,h.f0,⟨?_,ϋ b.sz,ϋ b.cn,λr w e=>ϋ (b.wl r w e),?_,?_,t,et,()⟩,h.nm.mono rfl rfl h.89 h.90,h.lt⟩
 ·show(X.m.M.ds.set j _).4<=_
  rw[ϗ];show ϋ b.ds
 ·change ls.4<=_;have:=b.ls;lk
 ·change X.45<=_;have:=b.ss;lk
def Qk.Wm (h:Qk X W F nm s){x:Dd}(hx:X.13[j]?=!x)(ho:x.2.2=ii):Qk (Wm X j) W F nm s:=by
 (show ι h.69 λt et lt=>?_);let b:=h.bd;let wd:=h.wd.drop hx ho;obtain⟨e,he⟩:=h.wd.inv.vN hx;let h0:∀s∈e.1,0<=s.1:=λs hs=>(h.wd.inv.sp e (Δ he) s hs).1;let eq:=jx hx he;rw[eq] at wd ⊢;show⟨wd,h.snd.drop hx,?_,h.f0,⟨?_,b.sz,b.cn,b.wl,b.ls,b.ss,t,et,lt⟩,?_,h.lt⟩
 ·change TH F ((O0 X.35 e.1).map (·.last))
  rw[DG h0];show h.ZI
 ·show(X.m.M.ds.set j _).4<=_
  rw[ϗ];show b.ds
 ·show⟨h.nm.ok,h.nm.inj,h.nm.x0,h.nm.x1,h.nm.xl,(oj _ _).trans h.nm.xr,h.nm.lv,h.nm.nu⟩
def Qk.lin (h:Qk X W F nm s)(hl:ls.4<=X.M.ls.4+60):Qk (X.wl ls) W F nm (s+1):=by
 (show ι h.69 λt et lt=>?_);let b:=h.bd;show⟨h.wd.wl ls,h.85,h.ZI,h.f0,⟨ϋ b.ds,ϋ b.sz,ϋ b.cn,λr w e=>ϋ (b.wl r w e),?_,?_,t,et,()⟩,h.nm.mono rfl rfl h.89 h.90,h.lt⟩
 ·change ls.4<=_;have:=b.ls;lk
 ·change X.45<=_;have:=b.ss;lk
def Qk.drop (h:Qk X W F nm s){x:Dd}{e:-M4×-OV}(hx:X.13[j]?=!x)(he:X.47[j]?=!e)(ho:x.2.2=ii)(hl:ls.4=X.M.ls.4+1):Qk ⟨X.t,{ X.M with Ms:=O0 X.35 e.1,ls:=ls },X.m.finish j x wT⟩ W F nm (s+1):=by
 have:=h.Wm hx ho;rw[jx hx he] at this;show this.lin (by show ls.4<=X.M.ls.4+60;lk)
def Qk.GM (h:Qk X W F nm s)(i2:2<=i)(i5:i < 5)(hl:ls.4<=X.M.ls.4+60):Qk ⟨X.t,{ (X.M.GM (S (nm i))) with ls:=ls },X.m⟩ W F nm (s+1):=by
 (show ι h.69 λt et lt=>?_);let b:=h.bd;let ne:∀j,j < 5->j≠i->¬S (nm j)=S (nm i):=λj hj e z=>e (h.nm.inj j i hj i5 (tY z));(show ϱ (h.nm.lv i i2 i5) λl el l1 l2=>?_);let g:(X.M.S.L (S (nm i))).getD 0=(l:Int):=by rw[el];rfl
 show⟨(h.wd.GM _).wl ls,h.85,h.ZI,h.f0,⟨ϋ b.ds,ϋ b.sz,ϋ b.cn,λr w e=>ϋ (b.wl r w e),?_,?_,t,et,()⟩,h.nm.mono rfl rfl (λj a c=>?_) (λj a c=>?_),h.lt⟩
 ·change ls.4<=_;have:=b.ls;lk
 ·change X.45+1<=_;have:=b.ss;lk
 ·by_cases q:j=i
  ·subst q
   show(ϡ (l+1) (by show(if S (nm j)=S (nm j) then some ((X.M.S.L (S (nm j))).getD 0+1) else _)=_;rw[γ rfl,g];rfl) () ())
  ·(show ι (h.nm.lv1 j a c) λv x y=>?_)
   show(Λ v (by show(if S (nm j)=S (nm i) then _ else X.M.S.L (S (nm j)))=_;rw[Φ (ne j c q)];show x) y)
 ·(show ι (h.nm.nu1 j a c) λv x y=>?_)
  show(Λ v ?_ y);show(if S (nm j)=S (nm i) then(if (X.M.S.L (S (nm i))).getD 0=0 then 0 else X.M.S.T (S (nm i))) else X.M.S.T (S (nm j)))=_
  by_cases q:j=i
  ·subst q
   rw[γ rfl,Φ (by rw[g];lk)];show x
  ·rw[Φ (ne j c q)];show x
def Qk.turn (h:Qk X W F nm s){t tu:Nat}(et:X.t=(t:Int))(h10:tu<=10)(hl:ls.4<=X.M.ls.4+60):Qk ⟨((t+tu:Nat):Int),{ X.M with ls:=ls },X.m⟩ W F nm (s+1):=by
 (show ι h.69 λt' et' lt=>?_)
 let b:=h.bd;show⟨(h.wd.turn _).wl ls,h.85,h.ZI,h.f0,⟨ϋ b.ds,ϋ b.sz,ϋ b.cn,λr w e=>ϋ (b.wl r w e),?_,?_,_,rfl,()⟩,h.nm.mono rfl rfl h.89 h.90,h.lt⟩
 ·change ls.4<=_;have:=b.ls;lk
 ·change X.45<=_;have:=b.ss;lk
def Qk.Pw (h:Qk X W F nm s){js:-Nat}(nd:js.14)(hj:∀j∈js,∃x,X.13[j]?=!x/\x.2.2=ii):Qk (Pw X js) W F nm s:=by
 induction js generalizing X with
 | nil=>show h
 | cons a js ih=>
  (show ι (hj a ∅) λx hx ho=>?_);let n1:=ϊ.mp nd;show ih (h.Wm hx ho) n1.2 λj' hj'=>by
   (show ι (hj j' (θ _ hj')) λx' h1 h2=>?_);show(Λ x' (by rw[vP h.wd.inv hx (λz=>n1.1 (z▸hj'))];show h1) h2)
end
section
variable {X:S5} {W:-(-Oa)} {nm:Nat->-Nat} {s:Nat} 
def xU {w:-Oa}(h:∀(r:Nat) w,W[r]?=!w->w.4<=s)(hw:W[r]?=!w):∀(q:Nat) w',(QD W r w l)[q]?=!w'->w'.4<=s+1:=λq w' e=>by
 unfold QD at e
 by_cases c:r=q
 ·subst c
  rw[ϑ (Α.mp hw).1] at e;cases e;have:=h r w hw;rw[Χ];show NJ this
 ·rw[ϔ c] at e
  show ϋ (h q w' e)
def Bu {w:-Oa}(h:∀w∈W,∀l∈w,XE l.1/\YC (wV l.2.1))(hw:W[r]?=!w)(hl:XE l.1/\YC (wV l.2.1)):∀w'∈QD W r w l,∀l'∈w',XE l'.1/\YC (wV l'.2.1):=λw' hw' l' Xl=>by
 rcases Ev hw' with q | q
 ·show h w' q l' Xl
 ·rw[q] at Xl
  rcases Ξ.mp Xl with g | g
  ·show h w (Δ hw) l' g
  ·rw[Ζ.mp g];show hl
def Nm5.put (h:Nm5 X nm s)(i2:2<=i)(i5:i < 5){k:Nat}(hk:(k:Int)=X.M.S.T (S (nm i))+1)(e:X'.M={ (X.M.put r mr l (S (nm i)) (k:Int)) with ls:=ls }):Nm5 X' nm (s+1):=by
 show h.mono (by rw[e];rfl) (by rw[e];show ϗ) (by rw[e];show h.lv1) (λj a c=>?_);rw[e];(show ι (h.nu j a c) λv x y=>?_);change ∃n:Nat,(if S (nm j)=S (nm i) then(k:Int) else X.M.S.T (S (nm j)))=(n:Int)/\_
 by_cases q:j=i
 ·subst q
  show(Λ k (by rw[γ rfl]) ())
 ·show(Λ v (by rw[Φ (λz=>q (h.inj j i c i5 (tY z)))];show x) ())
def Qk.ahC (h:Qk X W F nm s)(i2:2<=i)(i5:i < 5){w:-Oa}{k:Nat}(hk:(k:Int)=X.M.S.T (S (nm i))+1)(hw:W[r]?=!w)(hm:X.35[r]?=!mr)(lu:XE key/\YC (wV wo))(hl:ls.4=X.M.ls.4+1):Qk ⟨X.t,{ (X.M.put r mr (key,wo,0) (S (nm i)) (k:Int)) with ls:=ls },X.m⟩ (QD W r w (key,wo,0)) F nm (s+1):=by
 (show ι h.69 λt et lt=>?_);let b:=h.bd;show⟨(h.wd.ahC hw hm).wl ls,h.85,h.ZI.trans (xT hm),h.f0,⟨ϋ b.ds,ϋ b.sz,ϋ b.cn,xU b.wl hw,?_,?_,t,et,()⟩,h.nm.put i2 i5 hk rfl,Bu h.lt hw lu⟩
 ·change ls.4<=_;have:=b.ls;lk
 ·change X.45+1<=_;have:=b.ss;lk
def Qk.putD (h:Qk X W F nm s)(i2:2<=i)(i5:i < 5){w:-Oa}{k:Nat}{x:Dd}{e:-M4×-OV}(hk:(k:Int)=X.M.S.T (S (nm i))+1)(hw:W[r]?=!w)(hm:X.35[r]?=!mr)(hx:X.13[j]?=!x)(ho:x.2.2=ii)(he:X.47[j]?=!e)(lu:XE key/\YC (wV wo))(hl:ls.4=X.M.ls.4+1) :
  Qk ⟨X.t,{ (X.M.put r mr (key,wo,(j:Int)+1) (S (nm i)) (k:Int)) with ls:=ls },X.m.hold j e ((r:Int),mr.19)⟩ (QD W r w (key,wo,(j:Int)+1)) F nm (s+1):=by
 (show ι h.69 λt et lt=>?_);let b:=h.bd;let hb:L2.Q2 F (r,mr.19)=false:=by
  let q:=h.ZI.2 r;unfold FB at q;rw[ε (l:=PP _ _),Ρ,hm] at q;let q:F.getD r 0<=mr.19:=q;show Ϫ ?_;change ¬mr.19 < F.getD ((r:Int)).toNat 0;rw[Ϝ];lk
 show⟨(h.wd.putD hw hm hx ho he).wl ls,h.snd.hold hx ho he hb,h.ZI.trans (xT hm),h.f0,⟨ϋ b.ds,ϋ b.sz,?_,xU b.wl hw,?_,?_,t,et,()⟩,h.nm.put i2 i5 hk rfl,Bu h.lt hw lu⟩
 ·change QY (X.m.xs.set j (e.1++[_],e.2))<=_
  rw[uw _ _ _ _ he];show NJ b.cn
 ·change ls.4<=_;have:=b.ls;lk
 ·change X.45+1<=_;have:=b.ss;lk
end
structure KM where
 t:Int
 ds:-Dd
 xs:-(-M4)
 W:-(-Oa)
 lv:Str->Option Int
 nb:Str->Option Int
 F:-Int
theorem KpM (H:Hp)(r:KA)(rws:-Ι)(m:KM):Prop:=Db H r rws m.t m.ds m.xs m.W m.lv m.nb m.F
def Db.here {ds:-Dd}{xs:-(-M4)}(h:Db H k rws t ds xs W lv nb F):∀b∈k.all rws,∃o,H b=!o:=λb hb=>by
 let l1:=h.70;let l2:=h.OH.l2;let l3:=h.OH.l3;let lr:=h.lr;rcases Ξ.mp hb with hb | hb
 ·(show ι h.lv λ_ e1 _=>?_)
  (show ι h.nb λ_ e2 _=>?_);simp only[Κ,Μ,χ] at hb;rcases hb with rfl | rfl | rfl | rfl | rfl | rfl
  ·show⟨_,h.kd⟩
  ·show⟨_,h.OH.28⟩
  ·show⟨_,h.rl⟩
  ·show⟨_,e1⟩
  ·show⟨_,e2⟩
  ·show⟨_,h.ft⟩
 ·rcases Ξ.mp hb with hb | hb
  ·obtain⟨i,hi⟩:=Ϣ hb
   (show Vu (h.OH.get hi) λ_ _ _ _ _ _ e=>?_);show⟨_,e⟩
  ·rcases Ξ.mp hb with hb | hb
   ·obtain⟨i,hi⟩:=Ϣ hb
    have:=(Α.mp hi).1;(show ι (h.OH.sp i b _ hi (Ε ())) λ_ e _=>?_);show⟨_,e⟩
   ·obtain⟨i,hi⟩:=Ϣ hb
    have:=(Α.mp hi).1;(show ι (h.rw i b _ hi (Ε ())) λ_ e _=>?_);show⟨_,e⟩
abbrev KA.zl (r:KA)(rws:-Ι):-Ι:=r.dl::(r.ss++rws)
def KA.LP {r:KA}(h:b∈r.zl rws):b∈r.all rws:=by
 rcases Κ.mp h with rfl | h
 ·show Η _ (mi 1 rfl)
 ·show Β _ (Β _ h)
structure Xm (k:CK)(CD:Ι)(H:Hp)(A:CA)(d:DA)(Z:-Ι)(X:S5)(r:KA)(rws:-Ι)(m:KM):Prop where
 ce:WC k CD X.t H A d Z X.M X.m
 kp:KpM H r rws m
 sep:∀b∈r.all rws,b∉A.fx++fD A d
 Sz:∀b∈r.zl rws,b∈Z
section
variable {k:CK} {A:CA} {d:DA} {X:S5} {r:KA} {m:KM}
def Xm.same (h:Xm k CD H A d Z X r rws m)(s:Ω H H'):Xm k CD H' A d Z X r rws m:=⟨h.ce.same s,h.kp.same s,h.sep,h.Sz⟩
def Xm.QL (h:Xm k CD H A d Z X r rws m)(c:ϛ (A.fx++fD A d) H H')(hd:∀b∈fD A d',b∈fD A d\/H b=none)(hz:∀b∈Z,b∈Z')(ce:WC k CD X'.t H' A d' Z' X'.M X'.m):Xm k CD H' A d' Z' X' r rws m:=
 ⟨ce,h.kp.im c (λb hb z=>h.sep b z hb),λb hb z=>by
  rcases Ξ.mp z with z | z
  ·show h.sep b hb (Η _ z)
  ·rcases hd b z with q | q
   ·show h.sep b hb (Β _ q)
   ·obtain⟨o,e⟩:=h.kp.here b hb
    show(nomatch q.symm.trans e),λb hb=>hz b (h.Sz b hb)⟩
def Xm.ahG (h:Xm k CD H A d Z X r rws m)(c:ϛ B H H')(hB:∀b∈B,b∈r.all rws)(hl:∀b∈B,b∈r.zl rws\/∀xs,H b≠!.lst xs)(kp:KpM H' r' rws m')(hn:∀b∈r'.all rws,b∈r.all rws\/H b=none)(hz:∀b∈r'.zl rws,b∈r.zl rws\/H b=none)(hs:∀b∈B,∃o,H' b=!o):Xm k CD H' A d (r'.zl rws++Z) X r' rws m':=by
 show⟨h.ce.reZ c (λb hb z=>h.sep b (hB b hb) (Η _ z)) (λb hb z=>h.sep b (hB b hb) (Β _ z)) (λb hb=>(hl b hb).imp (h.Sz b) id) hs (λb hb=>(hz b hb).imp (h.Sz b) id) (λb hb=>kp.here b (KA.LP hb)),kp,λb hb z=>?_,λb hb=>Η _ hb⟩;rcases hn b hb with q | q
 ·show h.sep b q z
 ·show h.ce.RD q z
end
def Ik (k:KA)(t t':Int):putK (NX k t) (.inr "turn") (.int t')=NX k t':=by rfl
def Il (k:KA)(t:Int)(fa:Ι):putK (NX k t) (.inr "fronts") (.ref fa)=NX { k with ft:=fa } t:=by rfl
def pe (h:(lc ϓ k).12=true):(putK ϓ k v).4=ϓ.4:=by
 unfold putK;rw[gY,γ h,Θ]
section
variable {k:KA} {ds:-Dd} {xs:-(-M4)} {W:-(-Oa)}  
def Sa.set {f:Str->Option Int}(e:H a=!.dK ϓ)(l:ϓ.4<=100)(g:∀z,lc ϓ (.inr z)=(f z).map V.int){n:Str}(hn:(f n).12=true)(v:Int):Sa (upd H a (.dK (putK ϓ (.inr n) (.int v)))) a (λz=>if z=n then some v else f z):=by
 show(ϡ _ aa ?_ (λz=>?_))
 ·rw[pe (by rw[g];cases h:f n with
   | none=>rw[h] at hn;cases hn
   | some x=>rfl)]
  show l
 ·rw[dB]
  change _=(if z=n then some v else f z).map V.int
  by_cases c:z=n
  ·subst c;rw[γ rfl,γ rfl];rfl
  ·rw[Φ (λz=>c (At z)),Φ c,g]
def Db.ap (h:Db H k rws t ds xs W lv nb F):[k.kd,k.dl,k.rl,k.lv,k.nb,k.ft].14/\(∀b∈[k.kd,k.dl,k.rl,k.lv,k.nb,k.ft],b∉k.ds++(k.ss++rws))/\(k.ds++(k.ss++rws)).14:=by
 have:=υ.mp h.nd;show⟨this.1,λb hb z=>this.2.2 b hb b z rfl,this.2.1⟩
def Db.ac4 (h:Db H k rws t ds xs W lv nb F)(c:ϛ B H H')(hB:∀b∈B,b∈k.ds++k.ss)(d':NE H' k ds' xs'):Db H' k rws t ds' xs' W lv nb F:=by
 (show sw h.ap λn6 ap n3=>?_);let f:∀{a:Ι},a∈[k.kd,k.dl,k.rl,k.lv,k.nb,k.ft]->a∉B:=λha hb=>ap _ ha (by rw[<-Oy];show Η _ (hB _ hb));show⟨c.keep _ _ h.kd (f (mi 0 rfl)),d',c.keep _ _ h.rl (f (mi 2 rfl)),h.lr,λr a w g1 g2=>(h.rw r a w g1 g2).im c (λz=>((υ.mp (show((k.ds++k.ss)++rws).14 by rw[Oy];show n3)).2.2) _ (hB _ z) _ (Δ g1) rfl),h.lv.im c (f (mi 3 rfl)),h.nb.im c (f (mi 4 rfl)),c.keep _ _ h.ft (f (mi 5 rfl)),h.nd⟩
def Db.vQ (h:Db H k rws t ds xs W lv nb F)(hb:b∈[k.kd,k.dl,k.rl,k.lv,k.nb,k.ft]):(∀d∈k.ds,d≠b)/\(∀d∈k.ss,d≠b)/\∀d∈rws,d≠b:=by
 let ap:=h.ap.2.1 b hb;show⟨λd hd z=>ap (z▸Η _ hd),λd hd z=>ap (z▸Β _ (Η _ hd)),λd hd z=>ap (z▸Β _ (Β _ hd))⟩
def Db.ae5 (h:Db H k rws t ds xs W lv nb F)(ha:a∈[k.kd,k.dl,k.rl,k.lv,k.nb,k.ft])(c:ϛ [a] H H')(n:a≠k.dl):NE H' k ds xs/\∀(r:Nat) b w,rws[r]?=!b->W[r]?=!w->ϲ H' b (VJ w):=by
 (show sw (h.vQ ha) λa1 a2 a3=>?_);let e:∀{b:Ι},b≠a->b∉[a]:=λhb z=>hb (Ζ.mp z);show⟨h.OH.im c (e (ψ n)) (λd hd=>e (a1 d hd)) (λd hd=>e (a2 d hd)),λr b w g1 g2=>(h.rw r b w g1 g2).im c (e (a3 b (Δ g1)))⟩
def Db.aoZ (h:Db H k rws t ds xs W lv nb F){t':Int}(c:ϛ [k.kd] H H')(e:H' k.kd=!.dK (NX k t')):Db H' k rws t' ds xs W lv nb F:=by
 (show sw h.ap λn6 _ _=>?_);obtain⟨d,r⟩:=h.ae5 (mi 0 rfl) c (λz=>az n6 0 [1] rfl rfl "!" (Ζ.mpr z));show⟨e,d,c.keep _ _ h.rl (az n6 2 [0] rfl rfl "!"),h.lr,r,h.lv.im c (az n6 3 [0] rfl rfl "!"),h.nb.im c (az n6 4 [0] rfl rfl "!"),c.keep _ _ h.ft (az n6 5 [0] rfl rfl "!"),h.nd⟩
def Db.akM (h:Db H k rws t ds xs W lv nb F)(c:ϛ [k.nb] H H')(e:Sa H' k.nb nb'):Db H' k rws t ds xs W lv nb' F:=by
 (show sw h.ap λn6 _ _=>?_);obtain⟨d,r⟩:=h.ae5 (mi 4 rfl) c (λz=>az n6 4 [1] rfl rfl "!" (Ζ.mpr z));show⟨c.keep _ _ h.kd (az n6 0 [4] rfl rfl "!"),d,c.keep _ _ h.rl (az n6 2 [4] rfl rfl "!"),h.lr,r,h.lv.im c (az n6 3 [4] rfl rfl "!"),e,c.keep _ _ h.ft (az n6 5 [4] rfl rfl "!"),h.nd⟩
def Db.akN (h:Db H k rws t ds xs W lv nb F)(c:ϛ [k.lv] H H')(e:Sa H' k.lv lv'):Db H' k rws t ds xs W lv' nb F:=by
 (show sw h.ap λn6 _ _=>?_);obtain⟨d,r⟩:=h.ae5 (mi 3 rfl) c (λz=>az n6 3 [1] rfl rfl "!" (Ζ.mpr z));show⟨c.keep _ _ h.kd (az n6 0 [3] rfl rfl "!"),d,c.keep _ _ h.rl (az n6 2 [3] rfl rfl "!"),h.lr,r,e,h.nb.im c (az n6 4 [3] rfl rfl "!"),c.keep _ _ h.ft (az n6 5 [3] rfl rfl "!"),h.nd⟩
def Db.ao0 (h:Db H k rws t ds xs W lv nb F)(c:ϛ [k.kd] H H')(e:H' k.kd=!(.dK (NX { k with ft:=fa } t)))(hf:H' fa=!.lst (F'.map V.int))(hn:fa∉k.all rws):Db H' { k with ft:=fa } rws t ds xs W lv nb F':=by
 (show sw h.ap λn6 ap n3=>?_);obtain⟨d,r⟩:=h.ae5 (mi 0 rfl) c (λz=>az n6 0 [1] rfl rfl "!" (Ζ.mpr z));show⟨e,⟨d.28,d.l1,d.l2,d.l3,d.ob,d.sp,d.nd⟩,c.keep _ _ h.rl (az n6 2 [0] rfl rfl "!"),h.lr,r,h.lv.im c (az n6 3 [0] rfl rfl "!"),h.nb.im c (az n6 4 [0] rfl rfl "!"),hf,?_⟩;let p5:=(υ.mp (show([k.kd,k.dl,k.rl,k.lv,k.nb]++[k.ft]).14 from n6)).1;let akO:∀b∈[k.kd,k.dl,k.rl,k.lv,k.nb],b∈[k.kd,k.dl,k.rl,k.lv,k.nb,k.ft]:=λb hb=>Η [k.ft] hb;show(([k.kd,k.dl,k.rl,k.lv,k.nb]++[fa])++(k.ds++(k.ss++rws))).14;show υ.mpr ⟨υ.mpr ⟨p5,∅,λa ha b hb z=>?_⟩,n3,λa ha b hb z=>?_⟩
 ·rw[Ζ.mp hb] at z
  show hn (z▸Η _ (akO a ha))
 ·subst z
  rcases Ξ.mp ha with ha | ha
  ·show ap a (akO a ha) hb
  ·rw[Ζ.mp ha] at hb
   show hn (Β _ hb)
def Db.ao1 (h:Db H k rws t ds xs W lv nb F){sn:Ι}{x:Dd}(c:ϛ [k.dl] H H')(e:H' k.dl=!.lst ((k.ds++[dn]).map V.ref))(ed:H' dn=!.dK (XM x sn))(es:H' sn=!.lst [])(hd:dn∉k.all rws)(hs:sn∉k.all rws)(ne:dn≠sn):Db H' { k with ds:=k.ds++[dn],ss:=k.ss++[sn] } rws t (ds++[x]) (xs++[[]]) W lv nb F:=by
 (show sw h.ap λn6 ap n3=>?_);(show sw (h.vQ (mi 1 rfl)) λa1 a2 a3=>?_);let o:∀{b:Ι},b≠k.dl->b∉[k.dl]:=λhb z=>hb (Ζ.mp z);let l1:=h.70;let l2:=h.OH.l2;let l3:=h.OH.l3;let nd':(k.kd::k.dl::((k.ds++[dn])++(k.ss++[sn]))).14/\(KA.all { k with ds:=k.ds++[dn],ss:=k.ss++[sn] } rws).14:=by
  let p:(KA.all { k with ds:=k.ds++[dn],ss:=k.ss++[sn] } rws).14:=by
   show(aqF (Pl.mpr λb=>?_)).mp (ϊ.mpr ⟨λz=>(Κ.mp z).elim ne hd,ϊ.mpr ⟨hs,h.nd⟩⟩);simp only[KA.all,GT,ML,MV,Rs];ac_rfl
  show⟨Xt ?_ p,p⟩;show .cons₂ _ (.cons₂ _ (.cons _ (.cons _ (.cons _ (.cons _ ?_)))));show(ai7 _).append (Xu _ _)
 show⟨c.keep _ _ h.kd (az n6 0 [1] rfl rfl "!"),⟨e,?_,?_,?_,λi d s y g1 g2 g3=>?_,λi s ee g1 g2=>?_,nd'.1⟩,c.keep _ _ h.rl (az n6 2 [1] rfl rfl "!"),h.lr,λr b w g1 g2=>(h.rw r b w g1 g2).im c (o (a3 b (Δ g1))),h.lv.im c (az n6 3 [1] rfl rfl "!"),h.nb.im c (az n6 4 [1] rfl rfl "!"),c.keep _ _ h.ft (az n6 5 [1] rfl rfl "!"),nd'.2⟩
 ·show(k.ds++[dn]).4=_;rw[Χ,Χ,l1];rfl
 ·show(k.ss++[sn]).4=_;rw[Χ,Χ,l2];rfl
 ·rw[Χ,Χ,l3];rfl
 ·rcases cE g1 with g1 | ⟨rfl,rfl⟩
  ·let hi:=(Α.mp g1).1
   rcases cE g2 with g2 | ⟨rfl,_⟩
   ·rcases cE g3 with g3 | ⟨rfl,_⟩
    ·show c.keep _ _ (h.OH.ob i d s y g1 g2 g3) (o (a1 d (Δ g1)))
    ·lk
   ·lk
  ·rcases cE g2 with g2 | ⟨_,rfl⟩
   ·have:=(Α.mp g2).1;lk
   ·rcases cE g3 with g3 | ⟨_,rfl⟩
    ·have:=(Α.mp g3).1;lk
    ·show ed
 ·rcases cE g1 with g1 | ⟨rfl,rfl⟩
  ·rcases cE g2 with g2 | ⟨rfl,_⟩
   ·show(h.OH.sp i s ee g1 g2).im c (o (a2 s (Δ g1)))
   ·have:=(Α.mp g1).1;lk
  ·rcases cE g2 with g2 | ⟨_,rfl⟩
   ·have:=(Α.mp g2).1;lk
   ·show(Λ ([]) es (.nil))
def Db.ao2 (h:Db H k rws t ds xs W lv nb F){w:-Oa}(ha:rws[i]?=!a)(hw:W[i]?=!w)(c:ϛ [a] H H')(e:ϲ H' a (VJ (w++[l]))):Db H' k rws t ds xs (QD W i w l) lv nb F:=by
 (show sw h.ap λn6 ap n3=>?_);let ma:=Δ ha;let f:∀{b:Ι},b∈[k.kd,k.dl,k.rl,k.lv,k.nb,k.ft]->b∉[a]:=λhb z=>(h.vQ hb).2.2 a ma (Ζ.mp z).17;let n4:=(υ.mp (show((k.ds++k.ss)++rws).14 by rw[Oy];show n3))
 let g:∀{b:Ι},b∈k.ds++k.ss->b∉[a]:=λhb z=>n4.2.2 _ hb _ ma (Ζ.mp z);show⟨c.keep _ _ h.kd (f (mi 0 rfl)),h.OH.im c (f (mi 1 rfl)) (λd hd=>g (Η _ hd)) (λd hd=>g (Β _ hd)),c.keep _ _ h.rl (f (mi 2 rfl)),?_,λr b w' g1 g2=>?_,h.lv.im c (f (mi 3 rfl)),h.nb.im c (f (mi 4 rfl)),c.keep _ _ h.ft (f (mi 5 rfl)),h.nd⟩
 ·unfold QD;rw[ϗ];show h.lr
 ·unfold QD at g2
  by_cases q:i=r
  ·subst q
   rw[ϑ (Α.mp hw).1] at g2;rw[ha] at g1;cases g1;cases g2;show e
  ·rw[ϔ q] at g2
   show(h.rw r b w' g1 g2).im c (λz=>q (ib n4.2.1 ha ((Ζ.mp z)▸g1)))
def NE.ao3 (h:NE H k ds xs){e:-M4}{y:M4}(hs:k.ss[j]?=!s)(he:xs[j]?=!e)(c:ϛ [s] H H')(g:ϲ H' s ((e++[y]).map Tb)):NE H' k ds (xs.set j (e++[y])):=by
 let ms:=Δ hs;let n2:=ϊ.mp (ϊ.mp h.nd).2;let n3:=υ.mp n2.2;show⟨c.keep _ _ h.28 (λz=>n2.1 (Β _ (Ζ.mp z▸ms))),h.l1,h.l2,by rw[ϗ];show h.l3,λi d' s' x' g1 g2 g3=>c.keep _ _ (h.ob i d' s' x' g1 g2 g3) (λz=>n3.2.2 d' (Δ g1) s ms (Ζ.mp z)),λi s' e' g1 g2=>?_,h.nd⟩
 by_cases q:j=i
 ·subst q
  rw[ϑ (Α.mp he).1] at g2;rw[hs] at g1;cases g1;cases g2;show g
 ·rw[ϔ q] at g2
  show(h.sp i s' e' g1 g2).im c (λz=>q (ib n3.2.1 hs ((Ζ.mp z)▸g1)))
end
abbrev QZ (S:Q1):Str->Option Int:=λz=>(S.L z).map λ_=>S.T z
abbrev Rn (X:S5)(W:-(-Oa))(F:-Int):KM:=⟨X.t,X.13,X.m.xs.map (·.1),W,X.86,QZ X.M.S,F⟩
structure XN (k:CK)(CD:Ι)(H:Hp)(A:CA)(d:DA)(Z:-Ι)(X:S5)(r:KA)(rws:-Ι)(W:-(-Oa))(F:-Int)(nm:Nat->-Nat)(s:Nat):Prop where
 ob:Xm k CD H A d Z X r rws (Rn X W F)
 pw:Qk X W F nm s
abbrev RF (A:CA)(d:DA)(r:KA)(rws:-Ι):-Ι:=(A.fx++fD A d)++r.all rws
noncomputable abbrev FK5:=Ψ
abbrev QE (k:CK)(CD:Ι)(H:Hp)(A:CA)(d:DA)(r:KA)(rws:-Ι)(F:-Int)(nm:Nat->-Nat)(s:Nat)(R:Hp->Prop):Prop:=
 ∀H' d' Z' X' r' W',ϛ (RF A d r rws) H H'->(∀b o,H b=!o->b∉RF A d r rws->b∉RF A d' r' rws)->r'.kd=r.kd->XN k CD H' A d' Z' X' r' rws W' F nm (s+1)->R H'
def XN.same {A:CA}{d:DA}{X:S5}{r:KA}(h:XN k CD H A d Z X r rws W F nm s)(e:Ω H H'):XN k CD H' A d Z X r rws W F nm s:=⟨h.ob.same e,h.pw⟩
def Gk (h:XE l):YC (.str (S l)):=by
 change XE (S l).11;simpa [S] using h
def vR {ds:-Dd}{w:-Oa}{f:Int}(h:∀l∈w,XE l.1/\YC (wV l.2.1)):∀r∈ZH ds w f,r.all N1=true/\∀v∈r,YC v:=λr hr=>by
 (show ι (PQ.mp hr) λp _ hp=>?_)
 by_cases c:(p:Int) < f
 ·rw[γ c] at hp
  unfold P4 at hp;cases hw:w[p]? with
  | none=>rw[hw] at hp;cases hp
  | some l=>
   rw[hw] at hp;let hp:(if IR ds l.2.2=true then none else some [V.int p,.str (S l.1),wV l.2.1])=!r:=hp
   split at hp
   ·cases hp
   ·cases hp
    obtain⟨o1,o2⟩:=h l (Δ hw);show⟨?_,λv hv=>?_⟩
    ·cases hl:l.2.1<;>rfl
    ·simp only[Κ,Μ,χ] at hv
     rcases hv with rfl | rfl | rfl
     ·trivial
     ·show Gk o1
     ·show o2
 ·rw[Φ c] at hp;cases hp
def af6 {K:FK5}{D1 D2:Ι}{ds:-Dd}{w:-Oa}{f:Int}(h:∀l∈w,XE l.1/\YC (wV l.2.1))(h1:ϲ H D1 (ZH ds w f))(h2:ϲ H D2 (ZH ds w f))(q:Q (.bl false) H):Zt K (.ref D1) (.ref D2) H Q:=
 t8 (h1.den λr hr=>(vR h r hr).1) (h2.den λr hr=>(vR h r hr).1) (Bd λr hr=>(vR h r hr).2) rfl q
abbrev vS (k:CK)(CD:Ι):Sp:=λvs H Q _=>∃A d Z X r rws W F nm s,vs=[.ref A.c,.ref r.kd]/\XN k CD H A d Z X r rws W F nm s/\s<=57/\
 ∀H' Z' r' F',ϛ [r.kd] H H'->(∀b∈r'.all rws,b∈r.all rws\/H b=none)->r'.kd=r.kd->XN k CD H' A d Z' X r' rws W F' nm s->Ol (Qj X.m) (FB X.M) F'->Q (.bl true) H'
abbrev xV (k:CK)(CD:Ι):Sp:=λvs H Q _=>∃A d Z X r rws W F nm s,vs=[.ref A.c,.ref r.kd]/\XN k CD H A d Z X r rws W F nm s/\s<=57/\Ol (Qj X.m) (FB X.M) F/\
 ∀H',Ω H H'->Q (.bl true) H'
def XN.rl {k:CK}{A:CA}{d:DA}{X:S5}{r:KA}(h:XN k CD H A d Z X r rws W F nm s):rws.4=W.4/\W.4=X.M.Ms.4/\A.rs.4=X.M.Ms.4/\1<=rws.4/\rws.4<=18/\(FB X.M).4=rws.4:=by
 let a:=h.ob.kp.lr;let b:=h.pw.wd.25;let c:=h.ob.ce.st.On;let e:=jw h.ob.ce.st;let f:=h.pw.nm.xl;(show ϱ h.pw.nm.x0 λx hx _ x1=>?_);let g:=h.pw.nm.xr;let p:1<=Ϩ X.74 2:=by
  match hm:X.74,f with
  | [u,v],_=>
   rw[hm] at hx;cases hx;unfold Ϩ;simp;lk
 let q:(FB X.M).4=X.M.Ms.4:=by unfold FB;simp
 let a:rws.4=W.4:=a;lk
def Bv (h:RE X W){w:-Oa}(hw:W[r]?=!w):(FB X.M).getD r 0=(w.4:Int):=by
 let hr:=(Α.mp hw).1;let hl:=h.25;let hm:X.35[r]?=!X.35[r]'():=Ε ();unfold FB;rw[ε,Ρ,hm];show (h.row r w _ hw hm).19
def KH (h:RE X W):FB X.M=W.map λw=>(w.4:Int):=Qv λi=>by
 let hl:=h.25;unfold FB;rw[Ρ,Ρ];cases hw:W[i]? with
 | none=>
  have:=List.getElem?_eq_none_iff.mp hw;rw[sK ()];rfl
 | some w=>
  let hr:=(Α.mp hw).1;let hm:X.35[i]?=!X.35[i]'():=Ε ();rw[hm];show congrArg some (h.row i w _ hw hm).19
def Qk.ahH {nm:Nat->-Nat}(h:Qk X W F nm s)(f:Ol (Qj X.m) (FB X.M) F')(f0:∀i,0<=F'.getD i 0):Qk X W F' nm s:=⟨h.wd,mN.mp f.85,f.le,f0,h.bd,h.nm,h.lt⟩
def qq:∀{xs:-(-M4×-OV)} {j:Nat} {e:-M4×-OV},xs[j]?=!e->e.1.4<=QY xs
 | [],j,e,h=>by simp at h
 | x::xs,0,e,h=>by
  simp at h;subst h;unfold QY;simp
 | x::xs,j+1,e,h=>by
  have:=qq (xs:=xs) (j:=j) (e:=e) (by simpa using h);unfold QY at this ⊢;simp only[Ϗ,lm];lk
def akP {r:KA}(hD:H D=none)(hb:b∈KA.all { r with ft:=D } rws):b∈r.all rws\/H b=none:=by
 rcases Ξ.mp hb with h | h
 ·rcases Ξ.mp (show b∈[r.kd,r.dl,r.rl,r.lv,r.nb]++[D] from h) with h | h
  ·show .inl (Η _ (Η [r.ft] h))
  ·show .inr (Ζ.mp h▸hD)
 ·show .inl (Β _ h)
abbrev xW (k:CK)(CD:Ι):Sp:=λvs H Q _=>∃(A:CA) (d:DA) (Z:-Ι) (X:S5) (r:KA) (rws:-Ι) (W:-(-Oa)) (F:-Int) (nm:Nat->-Nat) (s i tu:Nat),vs=[.ref A.c,.ref r.kd,.str (S (nm i)),.int (tu:Int)]/\XN k CD H A d Z X r rws W F nm s/\s<=56/\2<=i/\i < 5/\1<=tu/\tu<=10/\QE k CD H A d r rws F nm s (Q (.bl true))
abbrev ux (k:CK)(CD:Ι):Sp:=λvs H Q _=>∃(A:CA) (d:DA) (Z:-Ι) (X:S5) (r:KA) (rws:-Ι) (W:-(-Oa)) (F:-Int) (nm:Nat->-Nat) (s i q dd:Nat) (key wo:-Nat) (lt:Ι),vs=[.ref A.c,.ref r.kd,.str (S (nm i)),.int (dd:Int),.ref lt]/\XN k CD H A d Z X r rws W F nm s/\s<=56/\2<=i/\i < 5/\q < 2/\H lt=!.tup [.str (S (nm q)),.str (S key),.str (S wo)]/\keyOk key/\T8 (!wo)/\wo.4<=200/\XE wo/\(dd=0\/X.m.M.B (S (nm i))=!(dd:Int))/\QE k CD H A d r rws F nm s (Q (.bl true))
abbrev vT (k:CK)(CD:Ι):Sp:=λvs H Q _=>∃A d Z X r rws W F nm s i cl,vs=[.ref A.c,.ref r.kd,.str (S (nm i)),.bl cl]/\XN k CD H A d Z X r rws W F nm s/\s<=56/\2<=i/\i < 5/\QE k CD H A d r rws F nm s (Q (.bl true))
abbrev zZ (k:CK)(CD:Ι):Sp:=λvs H Q _=>∃A d Z X r rws W F nm s i,vs=[.ref A.c,.ref r.kd,.str (S (nm i))]/\XN k CD H A d Z X r rws W F nm s/\s<=56/\2<=i/\i < 5/\QE k CD H A d r rws F nm s (Q (.bl true))
abbrev xX (k:CK)(CD:Ι):Sp:=λvs H Q _=>∃(A:CA) (d:DA) (Z:-Ι) (X:S5) (r:KA) (rws:-Ι) (W:-(-Oa)) (F:-Int) (nm:Nat->-Nat) (s tu:Nat),vs=[.ref A.c,.ref r.kd,.int (tu:Int)]/\XN k CD H A d Z X r rws W F nm s/\s<=56/\1<=tu/\tu<=10/\QE k CD H A d r rws F nm s (Q (.bl true))
section
variable {k:CK} {A:CA} {d d':DA} {X X':S5} {r r':KA} {W W':-(-Oa)} {nm:Nat->-Nat} {s:Nat}
def XN.call (h:XN k CD H A d Z X r rws W F nm s)(hs:s<=56)(i2:2<=i)(i5:i < 5):∃life,Xk k CD H A d Z X (nm i) life/\life<=100:=by
 (show ϱ (h.pw.nm.lv i i2 i5) λl e a b=>?_);have:=h.pw.bd.ls;show(Λ l ⟨h.ob.ce,h.pw.nm.ok i i5,a,(),e,()⟩ ())
def kH (h:b∈A.fx++fD A d):b∈RF A d r rws:=Η _ h
def d7 (h:b∈r.all rws):b∈RF A d r rws:=Β _ h
def YL (n:b∉RF A d r rws)(hd:∀b∈fD A d',b∈fD A d\/H1 b=none)(k1:H1 b=!o1)(hr:∀b∈r'.all rws,b∈r.all rws\/H2 b=none)(k2:H2 b=!o2):b∉RF A d' r' rws:=λhb=>by
 rcases Ξ.mp hb with hb | hb
 ·rcases Ξ.mp hb with hb | hb
  ·show n (kH (Η _ hb))
  ·rcases hd b hb with z | z
   ·show n (kH (Β _ z))
   ·rw[z] at k1;cases k1
 ·rcases hr b hb with z | z
  ·show n (d7 z)
  ·rw[z] at k2;cases k2
def ϛ.up5 (c:ϛ [] H H'):ϛ B H H':=c.mono (λ_ z=>nomatch z)
def mk5 {p3 p4:Ι}(h3:Hx p3=none)(h4:upd Hx p3 (.dK []) p4=none)(e:upd (upd (upd Hx p3 (.dK [])) p4 (.lst [])) p3 (.dK v)=Hw):Ω Hx Hw/\Hw p3=!.dK v/\Hw p4=!.lst []/\p3≠p4/\Hx p4=none:=by
 subst e;let n:p4≠p3:=λz=>by rw[z,aa] at h4;cases h4
 let VL:Hx p4=none:=by rw[ag n] at h4;show h4
 show⟨λb o hb=>?_,aa,by rw[ag n,aa],n.17,VL⟩;rw[ag (aq hb h3),ag (aq hb VL),ag (aq hb h3)];show hb
def qr {k:KA}{ds:-Dd}{xs:-(-M4)}(h:Db H k rws t ds xs W lv nb F)(e:H b=none):b∉k.all rws:=λz=>by
 obtain⟨o,eo⟩:=h.here b z;rw[e] at eo;cases eo
def newD {sn:Ι}(hd:H dn=none)(hs:H sn=none)(hb:b∈KA.all { r with ds:=r.ds++[dn],ss:=r.ss++[sn] } rws):b∈r.all rws\/H b=none:=by
 rcases Ξ.mp hb with h | h
 ·show .inl (Η _ h)
 ·rcases Ξ.mp h with h | h
  ·rcases Ξ.mp h with h | h
   ·show .inl (Β _ (Η _ h))
   ·show .inr (Ζ.mp h▸hd)
  ·rcases Ξ.mp h with h | h
   ·rcases Ξ.mp h with h | h
    ·show .inl (Β _ (Β _ (Η _ h)))
    ·show .inr (Ζ.mp h▸hs)
   ·show .inl (Β _ (Β _ (Β _ h)))
def ao4 {sn:Ι}(hs:H sn=none)(hb:b∈KA.zl { r with ds:=r.ds++[dn],ss:=r.ss++[sn] } rws):b∈r.zl rws\/H b=none:=by
 rcases Κ.mp hb with h | h
 ·show .inl (h▸ϳ)
 ·rcases Ξ.mp h with h | h
  ·rcases Ξ.mp h with h | h
   ·show .inl (θ _ (Η _ h))
   ·show .inr (Ζ.mp h▸hs)
  ·show .inl (θ _ (Β _ h))
def Db.life {k:KA}{ds:-Dd}{xs:-(-M4)}{n:Str}{K:FK5}(h:Db H k rws t ds xs W lv nb F)(e:lv n=!v)(q:Q (.int v) H):Rl K (.ref k.kd) (.str "lives") H λx H1=>Rl K x (.str n) H1 Q:=by
 (show ϱ h.lv λϓ e1 _ g=>?_);show ay (dg h.kd (rC k _)) (ay (dg e1 (by rw[g,e];rfl)) q)
def Db.ahI {k:KA}{ds:-Dd}{xs:-(-M4)}{n:Str}{K:FK5}(h:Db H k rws t ds xs W lv nb F)(e:nb n=!v)(q:Q (.int v) H):Rl K (.ref k.kd) (.str "numbers") H λx H1=>Rl K x (.str n) H1 Q:=by
 (show ϱ h.nb λϓ e1 _ g=>?_);show ay (dg h.kd (lA k _)) (ay (dg e1 (by rw[g,e];rfl)) q)
def Db.akQ {k:KA}{ds:-Dd}{xs:-(-M4)}{n:Str}{Q:Hp->Prop}{K:FK5}(h:Db H k rws t ds xs W lv nb F)(e:lv n=!v)(q:∀H',ϛ [k.lv] H H'->(∃o,H' k.lv=!o)->Db H' k rws t ds xs W (λz=>if z=n then some v' else lv z) nb F->Q H'):Rl K (.ref k.kd) (.str "lives") H λo H1=>VB o (.str n) (.int v') H1 Q:=by
 (show ϱ h.lv λϓ e1 l g=>?_);let c:ϛ [k.lv] H (upd H k.lv (.dK (putK ϓ (.inr n) (.int v')))):=ϛ.upd ∅ (cP e1);show ay (dg h.kd (rC k _)) (cu (Qc.k (k:=.inr n) e1 (ό l "!")) (q _ c ⟨_,aa⟩ (h.akN c (Sa.set e1 l g (by rw[e];rfl) v'))))
def Db.akR {k:KA}{ds:-Dd}{xs:-(-M4)}{n:Str}{Q:Hp->Prop}{K:FK5}(h:Db H k rws t ds xs W lv nb F)(e:nb n=!v)(q:∀H',ϛ [k.nb] H H'->(∃o,H' k.nb=!o)->Db H' k rws t ds xs W lv (λz=>if z=n then some v' else nb z) F->Q H'):Rl K (.ref k.kd) (.str "numbers") H λo H1=>VB o (.str n) (.int v') H1 Q:=by
 (show ϱ h.nb λϓ e1 l g=>?_);let c:ϛ [k.nb] H (upd H k.nb (.dK (putK ϓ (.inr n) (.int v')))):=ϛ.upd ∅ (cP e1);show ay (dg h.kd (lA k _)) (cu (Qc.k (k:=.inr n) e1 (ό l "!")) (q _ c ⟨_,aa⟩ (h.akM c (Sa.set e1 l g (by rw[e];rfl) v'))))
def KI {M:Q1}{n:Str}(e:M.L n=!v):(M.GM n).L=λz=>if z=n then some (v+1) else M.L z:=by
 funext z;show(if z=n then some ((M.L n).getD 0+1) else M.L z)=_;rw[e];rfl
def DH {n:Str}(e:M.L n=!v)(h1:1<=v):QZ (M.GM n)=QZ M:=by
 funext z;show(if z=n then some ((M.L n).getD 0+1) else M.L z).map (λ_=>if z=n then(if (M.L n).getD 0=0 then 0 else M.T n) else M.T z)=(M.L z).map λ_=>M.T z
 by_cases c:z=n
 ·subst c
  rw[γ rfl,γ rfl,e,Φ (by show ¬v=0;lk)];rfl
 ·rw[Φ c,Φ c]
def uy {n:Str}{v k:Int}{x:Spot}(e:M.L n=!v):QZ (M.note n k x)=λz=>if z=n then some k else QZ M z:=by
 funext z;show(M.L z).map (λ_=>if z=n then k else M.T z)=if z=n then some k else(M.L z).map λ_=>M.T z
 by_cases c:z=n
 ·subst c
  rw[γ rfl,γ rfl,e];rfl
 ·rw[Φ c,Φ c]
def Xm.one (h:Xm k CD H A d Z X r rws m)(c:ϛ [a] H H')(ha:a∈r.all rws)(hl:a∈r.zl rws\/∀xs,H a≠!.lst xs)(e:∃o,H' a=!o)(kp:KpM H' r rws m'):Xm k CD H' A d (r.zl rws++Z) X r rws m':=h.ahG c (λb hb=>Ζ.mp hb▸ha) (λb hb=>Ζ.mp hb▸hl) kp (λb hb=>.inl hb) (λb hb=>.inl hb) (λb hb=>Ζ.mp hb▸e)
def ahJ {K:FK5}{u v:Ι}{t:-V}(hu:H u=!.tup t)(hv:H v=!.tup t)(hf:t.all N1=true)(ho:∀x∈t,YC x)(q:Q (.bl true) H):aaV K (.ref u) (.ref v) H Q:=
 nV (.tup (.inl (.inl hu)) (dP hf)) (.tup (.inl (.inl hv)) (dP hf)) (qL λe he=>by
  (show ι (ω.mp he) λv hv μ=>?_;subst μ)
  show vo 0 (ho v hv)) rfl q
def ahK (a b:Int):∀x∈[V.int a,V.int b],YC x:=λx hx=>by
 simp only[Κ,Μ,χ] at hx;rcases hx with rfl | rfl<;>trivial
def NE.nl {ds:-Dd}{xs:-(-M4)}(h:NE H r ds xs)(e:r.ds[j]?=!a):∀xs,H a≠!.lst xs:=λxs z=>by
 (show Vu (h.get e) λ_ _ _ _ _ _ q=>?_);rw[q] at z;cases z
def NE.ex {ds:-Dd}{xs:-(-M4)}(h:NE H r ds xs)(e:r.ds[j]?=!a):∃o,H a=!o:=by
 (show Vu (h.get e) λ_ _ _ _ _ _ q=>?_);show⟨_,q⟩
def Sa.nl {f:Str->Option Int}(h:Sa H a f):∀xs,H a≠!.lst xs:=λxs z=>by
 (revert h;show ϭ λ_ e _=>?_);rw[e] at z;cases z
def QE.same (h:XN k CD H A d Z X r rws W F nm s)(q:QE k CD H A d r rws F nm s R)(e:Ω H H'):R H':=q H' d Z X r W (ϛ.of_same e).up5 (λ_ _ _ n=>n) rfl ⟨h.ob.same e,h.pw.up⟩
end
def Im (I:OS X)(nd:js.14)(hj:∀j∈js,∃x,X.13[j]?=!x/\x.2.2=ii)(n:j'∉js):(Pw X js).13[j']?=X.13[j']?:=by
 induction js generalizing X with
 | nil=>rfl
 | cons a js ih=>
  (show ι (hj a ∅) λx hx ho=>?_);let n1:=ϊ.mp nd
  have:=ih (vO I hx ho) n1.2 (λj hj'=>by
   (show ι (hj j (θ _ hj')) λx' h1 h2=>?_)
   show(Λ x' (by rw[vP I hx (λz=>n1.1 (z▸hj'))];show h1) h2)) (λz=>n (θ _ z))
  show this.trans (vP I hx (λz=>n (by rw[<-z];show ϳ)))
def DI (X:S5)(js:-Nat)(j:Nat):Pw X (js++[j])=Wm (Pw X js) j:=by
 unfold Pw;rw[Qs];rfl
def LQ (X:S5)(j:Nat):(Wm X j).t=X.t:=by
 unfold Wm
 split<;>rfl
def Gm (X:S5)(js:-Nat):(Pw X js).t=X.t:=by
 induction js generalizing X with
 | nil=>rfl
 | cons a js ih=>show(ih (Wm X a)).trans (LQ X a)
abbrev VM (M:o0)(t:Int)(i:Nat):-Nat:=(Ϟ i).filter (odd M t)
def uz (M:o0)(t:Int)(i:Nat):VM M t (i+1)=VM M t i++(if odd M t i=true then[i] else[]):=by
 unfold VM;rw[AT,MA]
 by_cases c:odd M t i=true
 ·rw[γ c,Od c];rfl
 ·rw[Φ c,MU c];rfl
def vU (M:o0)(t:Int)(i:Nat):(VM M t i).14:=Vc _ acl
def Io (h:j∈VM M t i):∃x,M.ds[j]?=!x/\x.2.2=ii:=by
 have:=(Nh.mp h).2;unfold odd at this;cases e:M.ds[j]? with
 | none=>rw[e] at this;cases this
 | some x=>
  rw[e] at this;simp only[io,PZ] at this;show(Λ x rfl this.1)
def Gn (M:o0)(t:Int)(i:Nat):i∉VM M t i:=λz=>by
 have:=Ow.mp (Nh.mp z).1;lk
def Qk.ao5 {nm:Nat->-Nat}(h:Qk X W F nm s)(hl:ls.4<=4+s * 60):Qk (X.wl ls) W F nm s:=by
 (show ι h.69 λt et lt=>?_);let b:=h.bd;show⟨h.wd.wl ls,h.85,h.ZI,h.f0,⟨b.ds,b.sz,b.cn,b.wl,hl,b.ss,t,et,lt⟩,⟨h.nm.ok,h.nm.inj,h.nm.x0,h.nm.x1,h.nm.xl,h.nm.xr,h.nm.lv,h.nm.nu⟩,h.lt⟩
def Nm5.row (h:Nm5 X nm s)(hq:q < 2)(key:-Nat):∃x,X.74[q]?=!x/\x.59=nm q/\Uw X.74 q x key < X.M.Ms.4:=by
 (show ϱ h.x0 λx0 a0 n0 r0=>?_);(show ϱ h.x1 λx1 a1 n1 r1=>?_);let s1:Ϩ X.74 1=_:=bN a0;let s2:Ϩ X.74 2=_:=bN a1;let md:∀(n:Nat),1<=n->(YG key % n).6 < n:=λn hn=>by
  let h2:=Nb (YG key) (show(0:Int) < n by lk);let h3:=A' (YG key) (show(n:Int)≠0 by lk);lk
 rw[h.xr];unfold Uw
 match q,hq with
 | 0,_=>show(ϡ x0 a0 n0 (by have:=md x0.40 r0;lk))
 | 1,_=>show(ϡ x1 a1 n1 (by have:=md x1.40 r1;lk))
def DJ (w:-Oa)(l:Oa):VJ (w++[l])=VJ w++[[.int (w.4:Int),.str (S l.1),wV l.2.1,.int l.2.2]]:=by
 unfold VJ;rw[List.mapIdx_append];simp
def DK (h:keyOk l):XE l:=λc hc=>by have:=h.len.2 c hc;lk
abbrev DL:Sp:=λvs H Q _=>∃(c:Int) (m:Nat),vs=[.int c,.int m]/\m<=36/\∀D H' (ks:-(-Nat)),H D=none->Ω H H'->H' D=!.lst (tx ks)->ks.4=m->(∀l∈ks,keyOk l)->Q (.ref D) H'
def Go {b:-Nat}{Xn x:Nat}(h1:1<=b.4)(h2:b.4<=24)(h3:∀c∈b,Oi c=true)(h4:Oi x=true):keyOk (b.set Xn x):=by
 show⟨by rw[ϗ];show h1,by rw[ϗ];show h2,λc hc=>?_⟩;rcases Ev hc with h | rfl
 ·show h3 c h
 ·show h4
def uA (c:Int)(k:Nat):Om (MH c k):=by
 let h:=zr c k;show⟨h.1,h.2.1,OO.mp h.2.2⟩
def ahL (c:Int):T8 (!MO (wn c 6))/\(MO (wn c 6)).4<=10/\XE (MO (wn c 6)):=by
 let b:=Bb c 6;obtain⟨m,hm⟩:∃m:Nat,wn c 6=(m:Int):=⟨(wn c 6).6,()⟩
 rw[hm] at b ⊢;let l:=qo (m:=m) (k:=10) "!" ();let dg:=mC m;show⟨λw e=>?_,l,λx hx=>by have:=dg x hx;lk⟩;cases e;show⟨Ϡ _,(),λx hx=>?_⟩;unfold Oi;have:=dg x hx;simp only[io,PZ];lk
abbrev z9 (k:CK)(CD:Ι):Sp:=λvs H Q _=>∃A d Z X r rws W F nm s nl kl ks c,vs=[.ref A.c,.ref nl,.ref kl,.ref r.kd,.int c]/\XN k CD H A d Z X r rws W F nm s/\s<=56/\H nl=!.lst [.str (S (nm 0)),.str (S (nm 1)),.str (S (nm 2)),.str (S (nm 3)),.str (S (nm 4))]/\H kl=!.lst (tx ks)/\ks.4=6/\(∀l∈ks,keyOk l)/\QE k CD H A d r rws F nm s (Q (.bl true))
def QE.on {A:CA}{d:DA}{r:KA}(q:QE k CD H A d r rws F nm s R)(e:Ω H H1):QE k CD H1 A d r rws F nm s R:=λH' d' Z' X' r' W' c o hk L=>q H' d' Z' X' r' W' ((ϛ.of_same e).trans c) (λb x hb n=>o b x (e _ _ hb) n) hk L
abbrev akS:R2:=λx y H Q=>acP x y H Q\/ajH x y H Q
def Ip :M7 X (binaryOp .Mult) akS:=kj.or JI
def Iq (ϓ:-(Key×V))(k:Key)(v:V):(putK ϓ k v).4<=ϓ.4+1:=by
 by_cases h:(lc ϓ k).12=true
 ·rw[pe h];lk
 ·let h:lc ϓ k=none:=by cases e:lc ϓ k with
   | none=>rfl
   | some x=>rw[e] at h;show absurd rfl h
  rw[Fb v h,Χ];show δ _
abbrev Few (H:Hp)(a:Ι)(i:Nat):Prop:=∃ϓ,H a=!.dK ϓ/\ϓ.4<=i
def Few.keep (h:Few H a i)(c:ϛ B H H')(n:a∉B):Few H' a i:=let ⟨k,e,l⟩:=h;(Λ k (c.keep _ _ e n) l)
section
variable {k:KA} {ds:-Dd} {xs:-(-M4)} {W:-(-Oa)} {K:FK5}
def Sa.put {f:Str->Option Int}(h:Sa H a f)(g:Few H a i)(hi:i<=50)(n:Str)(v:Int):∃ϓ,H a=!.dK ϓ/\ϓ.4 < sizeLine/\Sa (upd H a (.dK (putK ϓ (.inr n) (.int v)))) a (λz=>if z=n then some v else f z)/\Few (upd H a (.dK (putK ϓ (.inr n) (.int v)))) a (i+1):=by
 (revert h;show Nq λϓ e _ w=>?_);(revert g;show ϭ λauL e' l=>?_);rw[e] at e';cases e';let q:=Iq ϓ (.inr n) (.int v);show(MD ϓ e (ό (ο l hi) "!") (ϡ _ aa () (λz=>?_)) (Λ _ aa ()));rw[dB];change _=(if z=n then some v else f z).map V.int
 by_cases c:z=n
 ·subst c;rw[γ rfl,γ rfl];rfl
 ·rw[Φ (λz=>c (At z)),Φ c,w]
def Db.akT {n:Str}{Q:Hp->Prop}(h:Db H k rws t ds xs W lv nb F)(g:Few H k.lv i)(hi:i<=50)(q:∀H',ϛ [k.lv] H H'->Few H' k.lv (i+1)->Db H' k rws t ds xs W (λz=>if z=n then some v else lv z) nb F->Q H'):Rl K (.ref k.kd) (.str "lives") H λo H1=>VB o (.str n) (.int v) H1 Q:=by
 (show agr (h.lv.put g hi n v) λϓ e1 l nd fw=>?_);let c:ϛ [k.lv] H (upd H k.lv (.dK (putK ϓ (.inr n) (.int v)))):=ϛ.upd ∅ (cP e1);show ay (dg h.kd (rC k _)) (cu (Qc.k (k:=.inr n) e1 l) (q _ c fw (h.akN c nd)))
def Db.akU {n:Str}{Q:Hp->Prop}(h:Db H k rws t ds xs W lv nb F)(g:Few H k.nb i)(hi:i<=50)(q:∀H',ϛ [k.nb] H H'->Few H' k.nb (i+1)->Db H' k rws t ds xs W lv (λz=>if z=n then some v else nb z) F->Q H'):Rl K (.ref k.kd) (.str "numbers") H λo H1=>VB o (.str n) (.int v) H1 Q:=by
 (show agr (h.nb.put g hi n v) λϓ e1 l nd fw=>?_);let c:ϛ [k.nb] H (upd H k.nb (.dK (putK ϓ (.inr n) (.int v)))):=ϛ.upd ∅ (cP e1);show ay (dg h.kd (lA k _)) (cu (Qc.k (k:=.inr n) e1 l) (q _ c fw (h.akM c nd)))
end
abbrev Ot (H:Hp)(wr:-Ι)(b:Ι)(o:HO):Prop:=H b=!o/\b∉wr
section
variable {wr wr':-Ι} {K:FK5}
def Ot.step (h:Ot H wr b o)(c:ϛ wr H H')(out:∀b o,H b=!o->b∉wr->b∉wr'):Ot H' wr' b o:=⟨c.keep _ _ h.1 h.2,out b o h.1 h.2⟩
def Scr.step {p:Ι}(h:Scr K H wr p xs)(c:ϛ wr H H')(out:∀b o,H b=!o->b∉wr->b∉wr'):Scr K H' wr' p xs:=by
 rcases h with⟨h,n⟩ | h
 ·rcases(Scr.im (.inl ⟨h,n⟩:Scr K H wr p xs) c) with⟨h',_⟩ | h'
  ·rcases h with(h | ⟨o,h⟩) | h
   ·show .inl ⟨h',out p _ h n⟩
   ·show .inl ⟨h',out p _ h n⟩
   ·show .inr λ_=>.inr h
  ·show .inr h'
 ·show .inr h
end
structure Ex5 (K:FK5)(H:Hp)(wr:-Ι)(p nl kl:Ι)(ns:-Int)(ks:-(-Nat))(nm:Nat->-Nat):Prop where
 sc:Scr K H wr p (ns.map V.int)
 on:Ot H wr nl (.lst [.str (S (nm 0)),.str (S (nm 1)),.str (S (nm 2)),.str (S (nm 3)),.str (S (nm 4))])
 ok:Ot H wr kl (.lst (tx ks))
def Ex5.step {K:FK5}{p nl kl:Ι}(h:Ex5 K H wr p nl kl ns ks nm)(c:ϛ wr H H')(out:∀b o,H b=!o->b∉wr->b∉wr'):Ex5 K H' wr' p nl kl ns ks nm:=⟨h.sc.step c out,h.on.step c out,h.ok.step c out⟩
def ahM {K:FK5}{u v:Ι}{t:-V}(hu:H u=!.tup t)(hv:H v=!.tup t)(hf:t.all N1=true)(ho:∀x∈t,YC x)(q:Q (.bl false) H):Zt K (.ref u) (.ref v) H Q:=
 t8 (.tup (.inl (.inl hu)) (dP hf)) (.tup (.inl (.inl hv)) (dP hf)) (qL λe he=>by
  (show ι (ω.mp he) λv hv μ=>?_;subst μ)
  show vo 0 (ho v hv)) rfl q
structure Ini (X:S5)(xs:-PN)(n:Nat)(nm:Nat->-Nat)(i:Nat):Prop where
 t:X.t=0
 m:X.m=dm0
 xs:X.74=xs
 ms:X.35=τ n XF
 sz:X.45<=i
 ls:X.M.ls.4<=1+i
 hd:∀j,j < i->X.M.S.L (S (nm (2+j)))=some 1/\X.M.S.T (S (nm (2+j)))=0
 no:∀j,i<=j->j < 3->X.M.S.L (S (nm (2+j)))=none
def qu {M:Q1}{n:Str}(e:M.L n=none):(M.GM n).L=λz=>if z=n then some 1 else M.L z:=by
 funext z;show(if z=n then some ((M.L n).getD 0+1) else M.L z)=_;rw[e];rfl
def Aa {n:Str}(e:M.L n=none):QZ (M.GM n)=λz=>if z=n then some 0 else QZ M z:=by
 funext z;show(if z=n then some ((M.L n).getD 0+1) else M.L z).map (λ_=>if z=n then(if (M.L n).getD 0=0 then 0 else M.T n) else M.T z)=if z=n then some 0 else(M.L z).map λ_=>M.T z
 by_cases c:z=n
 ·subst c
  rw[γ rfl,γ rfl,γ rfl,e];rfl
 ·rw[Φ c,Φ c,Φ c]
def Ini.GM {xs:-PN}(h:Ini X xs n nm i)(inj:∀i j,i < 5->j < 5->nm i=nm j->i=j)(hi:i < 3)(hl:ls.4=X.M.ls.4+1):Ini ⟨X.t,{ (X.M.GM (S (nm (2+i)))) with ls:=ls },X.m⟩ xs n nm (i+1):=by
 let e:=h.no i (δ _) hi;let ne:∀j,j < 3->j≠i->¬S (nm (2+j))=S (nm (2+i)):=λj hj e z=>e (by have:=inj (2+j) (2+i) () () (tY z);lk);show⟨h.t,h.m,h.xs,h.ms,by show X.45+1<=_;have:=h.sz;lk,by show ls.4<=_;have:=h.ls;lk,λj hj=>?_,λj h1 h2=>?_⟩
 ·by_cases c:j=i
  ·subst c
   show⟨?_,?_⟩
   ·show(X.M.S.GM (S (nm (2+j)))).L _=_
    rw[qu e];show γ rfl
   ·show(if S (nm (2+j))=S (nm (2+j)) then(if (X.M.S.L (S (nm (2+j)))).getD 0=0 then 0 else X.M.S.T (S (nm (2+j)))) else _)=(0:Int)
    rw[γ rfl,e];rfl
  ·obtain⟨a,b⟩:=h.hd j ()
   show⟨?_,?_⟩
   ·show(X.M.S.GM (S (nm (2+i)))).L _=_
    show(Φ (ne j () c)).trans a
   ·show(Φ (ne j () c)).trans b
 ·show(X.M.S.GM (S (nm (2+i)))).L _=_
  show(Φ (ne j h2 ())).trans (h.no j () h2)
def Ini.pw {n1 n2:Nat}{k1 k2:Str}(h:Ini X [⟨nm 0,n1,k1⟩,⟨nm 1,n2,k2⟩] (n1+n2) nm 3)(ok:∀i,Om (nm i))(inj:∀i j,i < 5->j < 5->nm i=nm j->i=j)(a:1<=n1)(b:1<=n2):Qk X (τ (n1+n2) []) (τ (n1+n2) 0) nm 0/\Ol (Qj X.m) (FB X.M) (τ (n1+n2) 0):=by
 let ee:FB X.M=τ (n1+n2) 0:=by
  unfold FB;rw[h.ms,aaL];rfl
 let MZ:Ϩ [(⟨nm 0,n1,k1⟩:PN),⟨nm 1,n2,k2⟩] 2=n1+n2:=by simp[Ϩ]
 let ls:=h.ls;let sz:=h.sz;show⟨⟨⟨⟨by rw[h.m];show HY,by rw[h.m];rfl,λe he=>by rw[h.m] at he;cases he⟩,by rw[h.ms,jp,jp],λr w m h1 h2=>?_,λj e he=>by rw[h.m] at he;simp[dm0] at he,λr w p l h1 h2=>?_,λe he=>by rw[h.m] at he;cases he⟩,λi x e h1=>by rw[h.m] at h1;simp[dm0,QW] at h1,by rw[ee];show TH.refl _,λi=>?_,⟨by rw[h.m];show δ _,by rw[h.m];show δ _,by rw[h.m];show δ _,λr w hw=>?_,(),(),0,h.t,()⟩,⟨λi _=>ok i,inj,(ϡ _ (by rw[h.xs];rfl) rfl a),(ϡ _ (by rw[h.xs];rfl) rfl b),by rw[h.xs];rfl,by rw[h.ms,h.xs,MZ,jp],λi i2 i5=>?_,λi i2 i5=>?_⟩,λw hw l hl=>?_⟩,⟨by rw[ee];show TH.refl _,λy hy=>?_,λr hr _=>ee▸hr⟩⟩
 ·rw[h.ms] at h2
  let e1:=(M8.mp (Δ h1)).2;let e2:=(M8.mp (Δ h2)).2;subst e1 e2;show⟨rfl,rfl,λp=>?_⟩;unfold R9;show(none:Option Oa)=_
  split<;>simp
 ·let e1:=(M8.mp (Δ h1)).2
  subst e1;simp at h2
 ·rw[ε,QN]
  split<;>show Oe _
 ·let e1:=(M8.mp (Δ hw)).2
  subst e1;show δ _
 ·obtain⟨x,_⟩:=h.hd (i - 2) ()
  rw[show 2+(i - 2)=i by lk] at x;show(ϡ 1 x () ())
 ·obtain⟨_,x⟩:=h.hd (i - 2) ()
  rw[show 2+(i - 2)=i by lk] at x;show(Λ 0 x ())
 ·let e1:=(M8.mp hw).2
  subst e1;cases hl
 ·rw[h.m] at hy
  cases hy
structure FT (K:Ψ)(mg:Str->Option Υ)(x:Str)(st:ϟ)(ps:-Str)(f:Ι)(d:Mx):Prop where
 F:Fun K x x st f d
 b:Binds K d ps []
 m:mg x=!.ref f
structure FM (K:Ψ)(C:Ι)(x q:Str)(st:ϟ)(ps:-Str)(f:Ι)(d:Mx):Prop where
 F:Fun K x q st f d
 b:Binds K d ps []
 m:Xz K C x f
structure FI (K:Ψ)(q:Str)(st:ϟ)(ps:-Str)(f:Ι)(d:Mx):Prop where
 F:Fun K "__init__" q st f d
 b:Binds K d ps []
abbrev FT.O {K:Ψ}{mg:Str->Option Υ}{x:Str}{st:ϟ}{ps:-Str}{f:Ι}{d:Mx}(_:FT K mg x st ps f d)(P:ϯ)(w:J')(m:Str->Option Υ)(h:be)(k:Nat)(s:Sp):Prop:=OZ P w K m h Yx k f d ps s
abbrev FT.OX {K:Ψ}{mg:Str->Option Υ}{x:Str}{st:ϟ}{ps:-Str}{f:Ι}{d:Mx}(_:FT K mg x st ps f d)(P:ϯ)(w:J')(m:Str->Option Υ)(h:be)(k:Nat)(s:Sp):Prop:=OZ P w K m h (CXv P w) k f d ps s
abbrev FM.O {K:Ψ}{C:Ι}{x q:Str}{st:ϟ}{ps:-Str}{f:Ι}{d:Mx}(_:FM K C x q st ps f d)(P:ϯ)(w:J')(m:Str->Option Υ)(h:be)(k:Nat)(s:Sp):Prop:=OZ P w K m h Yx k f d ps s
abbrev FM.OX {K:Ψ}{C:Ι}{x q:Str}{st:ϟ}{ps:-Str}{f:Ι}{d:Mx}(_:FM K C x q st ps f d)(P:ϯ)(w:J')(m:Str->Option Υ)(h:be)(k:Nat)(s:Sp):Prop:=OZ P w K m h (CXv P w) k f d ps s
abbrev FI.O {K:Ψ}{q:Str}{st:ϟ}{ps:-Str}{f:Ι}{d:Mx}(_:FI K q st ps f d)(P:ϯ)(w:J')(m:Str->Option Υ)(h:be)(k:Nat)(s:Sp):Prop:=OZ P w K m h Yx k f d ps s
abbrev FI.OX {K:Ψ}{q:Str}{st:ϟ}{ps:-Str}{f:Ι}{d:Mx}(_:FI K q st ps f d)(P:ϯ)(w:J')(m:Str->Option Υ)(h:be)(k:Nat)(s:Sp):Prop:=OZ P w K m h (CXv P w) k f d ps s
section
variable {K:Ψ} {h:be} {q:Str} {st:ϟ} {ps:-Str} {kV:Υ}
def jA (l:K.lookup f=!⟨oc,od,.func (Nu "__init__" q (My st) (wE st) (Ο st) .none kV doc pm an Nd ct),W1⟩)(c:Rp K Nd q=true)(k:NI K (.ref f)=true)
  (e:∀kV doc pm an Nd ct us,us.4=ps.4->bindArgs (Nu "__init__" q (My st) (wE st) (Ο st) .none kV doc pm an Nd ct) ⟨us,[]⟩=pure (ps.zip us)) :
  FI K q st ps f (Nu "__init__" q (My st) (wE st) (Ο st) .none kV doc pm an Nd ct):=⟨nN l c k,(nN l c k).binds e⟩
def bC (a:F2 K (.ref C) x=!some (.ref f))(i:Wh K (.ref f)=true)(l:K.lookup f=!⟨oc,od,.func (Nu x q (My st) (wE st) (Ο st) .none kV doc pm an Nd ct),W1⟩)(c:Rp K Nd q=true)(k:NI K (.ref f)=true)
  (e:∀kV doc pm an Nd ct us,us.4=ps.4->bindArgs (Nu x q (My st) (wE st) (Ο st) .none kV doc pm an Nd ct) ⟨us,[]⟩=pure (ps.zip us)) :
  FM K C x q st ps f (Nu x q (My st) (wE st) (Ο st) .none kV doc pm an Nd ct):=⟨nN l c k,(nN l c k).binds e,a,i,k⟩
def aW (X:K.In h)(G:h.Ns mainGlobals mg)(a:W.nsIn K mainGlobals x=!some (.ref f))(l:K.lookup f=!⟨oc,od,.func (Nu x x (My st) (wE st) (Ο st) .none kV doc pm an Nd ct),W1⟩)(c:Rp K Nd x=true)(k:NI K (.ref f)=true)
  (e:∀kV doc pm an Nd ct us,us.4=ps.4->bindArgs (Nu x x (My st) (wE st) (Ο st) .none kV doc pm an Nd ct) ⟨us,[]⟩=pure (ps.zip us)) :
  FT K mg x st ps f (Nu x x (My st) (wE st) (Ο st) .none kV doc pm an Nd ct):=⟨nN l c k,(nN l c k).binds e,Vd X G a⟩
end
theorem Em (K:Ψ)(C D:Ι)(b:Bool):Prop:=Yd K (.ref C) (.ref D)=!b
theorem Xi (K:Ψ)(C f:Ι):Prop:=F2 K (.ref C) "__init__"=!some (.ref f)
theorem Xf (K:Ψ)(f:Ι):Prop:=Wh K (.ref f)=true
def lB {K:Ψ}{td:Option Ι}{vs:-V}(r:Vals vs us)(hn:us.4<=sizeLine)(l:K.lookup a=!⟨.type "tuple",td,.seq us.10 tn,tsl⟩):∀H,Of K H a vs:=λ_=>.inr (IB _ _ _ l rfl rfl hn r)
abbrev akV:V->Tok->Υ
 | .k4,_=>.none
 | .bl b,_=>.bool b
 | .int i,t=>.int i t
 | .str x,t=>.str x t
 | .Y' b,t=>.bytes b t
 | .flt b,t=>.float b t
 | .ref a,_=>.ref a
 | .ty n,_=>.type n
def Oo {t:Tok}:RelV v (akV v t):=by cases v<;>first | rfl | show⟨t,rfl⟩
def jB {t:Tok}(h:mg x=!akV v t):OG mg x v:=(Λ _ h Oo)
theorem iT (z:Int){t:Tok}:Υ:=.int z t
def Jk {K:Ψ}{F:-(Str×V)}{p:Ι}{es:Array RM}(g:mg x=!.ref p)(l:K.lookup p=some { cls:=.type "dict",dict:=none,data:=.dict es ep,slots:=#[] })
  (k:Pf w.42 es.37) (d:∀kv∈F,∃u,Xc es kv.1=!u/\RelV kv.2 u):aeT w K mg x F:=(ϰ _ _ _ g l k d)
def Jl {K:Ψ}{td:Option Ι}{vs:-V}(g:mg x=!.ref a)(r:Vals vs us)(hn:us.4<=sizeLine)(l:K.lookup a=!⟨.type "tuple",td,.seq us.10 tn,tsl⟩):XG K mg x vs:=(Λ _ g (lB r hn l))
def el8 {p:-α->Prop}(h:∀a b c d e f g i,p [a,b,c,d,e,f,g,i]):∀us:-α,us.4=8->p us:=elS λa=>el7 (h a)
def el9 {p:-α->Prop}(h:∀a b c d e f g i j,p [a,b,c,d,e,f,g,i,j]):∀us:-α,us.4=9->p us:=elS λa=>el8 (h a)
section
variable {X:Cx} {k:Nat} {ps N:-Str} {E:XK} {m q:Str} {a b o:tz} {tb:TE} {t:TA} {st:ϟ} {sco:QI}
def aZ (he:PE X o ta)(c:Wu X.K C)(g:FM X.K C m q st ps f fd)(F:X.Fo CX k f fd ps sp)(hr:MW k0 X.A)(hx:Passes CX X E)(ha:PA X (e::es) t)(hk:autoParam (k<=k0) L2.M9._auto_1)
  (MZ: ~~~(StE X e es)) (Pm: ~~~(BkA X pos es))
  (ht:autoParam (eval (.Call (.Attribute o m apos) (e::es) [] pos) X.9=(do
   let ov <-eval o X.9
   standAt apos.99
   let (f,first) <-holding [ov] (getMethod ov m pl)
   callWith pos f first (backTo pos (starEach (e::es) X.9)) (backToKw pos (keywordEach [] X.9)))) L2.ϩ._auto_1) :
  PE X (.Call (.Attribute o m apos) (e::es) [] pos) (acz C m sp [] E ta t):=iA he c g.m F (hr.mono hk) g.b .nil hx ha MZ Pm ht
def ar (g:FT X.K X.mg x st ps f fd)(F:X.Fo CX k f fd ps sp)(hr:MW k0 X.A)(hx:Passes CX X E)(ha:PA X (e::es) t)(hk:autoParam (k<=k0) L2.M9._auto_1)(hg: ~~~(Gl X x))(Zm:autoParam (Ws x) L2.M9._auto_1)(he: ~~~(StE X e es))(Pm: ~~~(BkA X pos es)) :
  PE X (.Call (.Name x p) (e::es) [] pos) (afF sp [] E t):=Hc F (hr.mono hk) hg g.m g.F.kp g.b .nil hx ha Zm he Pm
def aG (i:Nat)(sc:ζ X.N ps sco)(he:PE X e te)(hi: ~~~(X.N[i]?=!x))(hx:autoParam (Loc X.15 x) L2.ann._auto_1)(hs: ~~~(swapsWith e (!.Name x pos') pos.53 X.9=pure false))(hf:autoParam (X.fnl x) L2.aaO._auto_1) :
  PS X (.Assign [.Name x pos'] e pos) (Zg te (Vx i)):=Jy sc.nd hi hx he hs hf
def ak (K:Ψ)(hr:MW k X.A)(ha:PE X a ta)(hb:PE X b tb)(hs:autoParam (XB b) L2.ano._auto_1)(hK: ~~~(X.K=K)):PE X (.Subscript a b pos) (tOp (Rl K) ta tb):=Ls (HE (R0 hr) hK) ha hb hs
def ax (K:Ψ)(he:PE X e ta)(hb: ~~~(attributeBase e x X.9 (eval e X.9)=eval e X.9))(hK: ~~~(X.K=K)):PE X (.Attribute e x pos) (agG K ta x):=HF he hb hK
def am (ha:PE X a ta)(hs: ~~~(starEach [a] X.9=[(false,eval a X.9)])):PA X [a] (aao ta acy):=aj ha cX hs
def eC (ha:PE X a ta)(hb:PE X b tb)(hs: ~~~(starEach [a,b] X.9=(false,eval a X.9)::starEach [b] X.9))(Vh: ~~~(starEach [b] X.9=[(false,eval b X.9)])):PA X [a,b] (aao ta (aao tb acy)):=aj ha (am hb Vh) hs
end
section
variable {X:Cx}  
def Ϯ (hN: ~~~(X.N[0]?=!x))(hv:autoParam (Vis X.15 x) L2.acq._auto_1)(hd:autoParam (Ws x) L2.M9._auto_1)(TD:autoParam (Cdt x) L2.M9._auto_1):PE X (.Name x pos) (Vw 0):=pv 0 hN hv hd TD
def ϶ (hN: ~~~(X.N[1]?=!x))(hv:autoParam (Vis X.15 x) L2.acq._auto_1)(hd:autoParam (Ws x) L2.M9._auto_1)(TD:autoParam (Cdt x) L2.M9._auto_1):PE X (.Name x pos) (Vw 1):=pv 1 hN hv hd TD
def wv (hN: ~~~(X.N[2]?=!x))(hv:autoParam (Vis X.15 x) L2.acq._auto_1)(hd:autoParam (Ws x) L2.M9._auto_1)(TD:autoParam (Cdt x) L2.M9._auto_1):PE X (.Name x pos) (Vw 2):=pv 2 hN hv hd TD
def MN (hN: ~~~(X.N[3]?=!x))(hv:autoParam (Vis X.15 x) L2.acq._auto_1)(hd:autoParam (Ws x) L2.M9._auto_1)(TD:autoParam (Cdt x) L2.M9._auto_1):PE X (.Name x pos) (Vw 3):=pv 3 hN hv hd TD
end
end
end L2
namespace K75
open PySem PySem.Spec PyProof.Rows L2
abbrev top (i:Nat):ϟ:=PySem.Challenge.pw_lettercell_k75_deeds_over_rows.main.body.getD i (.Pass ⟨0,0,0,0⟩)
theorem mO:ϟ:=inClass (top 6) 0
def Ab:ζ ["self","name"] ["self","name"] (Ο mO):=s!"f"
theorem mP:ϟ:=inClass (top 9) 0
def Ac:ζ ["self","life"] ["self","life"] (Ο mP):=s!"f"
theorem rJ:ϟ:=inClass (top 10) 0
def Ey:ζ ["self","due"] ["self","due"] (Ο rJ):=s!"f"
theorem mQ:ϟ:=inClass (top 11) 0
def Ad:ζ ["self","number"] ["self","number"] (Ο mQ):=s!"f"
theorem iQ:ϟ:=inClass (top 16) 0
def om:ζ ["self","deed"] ["self","deed"] (Ο iQ):=s!"f"
theorem gw:ϟ:=inClass (top 17) 0
def lC:ζ ["self","name"] ["self","name"] (Ο gw):=s!"f"
theorem pM:ϟ:=inClass (top 21) 0
def DN:ζ ["self","row","place"] ["self","row","place"] (Ο pM):=s!"f"
theorem uB:ϟ:=top 24
def Ae:ζ ["text"] ["text"] (Ο uB):=s!"f"
theorem rK:ϟ:=top 25
def Lg:ζ ["fields"] ["fields"] (Ο rK):=s!"f"
theorem xY:ϟ:=top 26
def oo:ζ ["text","c","sign"] ["text"] (Ο xY):=s!"f"
theorem uC:ϟ:=top 27
def Af:ζ ["number","body","figures"] ["number","body"] (Ο uC):=s!"f"
theorem pj:ϟ:=top 31
def Ir:ζ ["word"] ["word"] (Ο pj):=s!"f"
theorem mR:ϟ:=top 32
def GZ:ζ ["owner"] ["owner"] (Ο mR):=s!"f"
theorem uD:ϟ:=top 33
def KJ:ζ ["part","value"] ["part","value"] (Ο uD):=s!"f"
theorem rL:ϟ:=top 34
def jC:ζ ["name","values","event","part","value"] ["name","values"] (Ο rL):=s!"f"
theorem lE:ϟ:=top 35
def xZ:ζ ["event","name"] ["event"] (Ο lE):=s!"f"
theorem fO:ϟ:=top 36
def cw:ζ ["shelves","texts","name","many","kind"] ["shelves"] (Ο fO):=s!"f"
theorem jD:ϟ:=top 37
def Ez:ζ ["state","event"] ["state","event"] (Ο jD):=s!"f"
theorem kI:ϟ:=top 38
def jE:ζ ["state","event","row","place"] ["state","event"] (Ο kI):=s!"f"
theorem iR:ϟ:=top 39
def DO:ζ ["state","event"] ["state","event"] (Ο iR):=s!"f"
theorem iS:ϟ:=top 41
def DP:ζ ["state","event"] ["state","event"] (Ο iS):=s!"f"
theorem jF:ϟ:=top 42
def iU:ζ ["state","event","row","place"] ["state","event"] (Ο jF):=s!"f"
theorem jG:ϟ:=top 51
def EA:ζ ["state","event"] ["state","event"] (Ο jG):=s!"f"
theorem x4:ϟ:=top 59
def DQ:ζ ["state","event","happening"] ["state","event"] (Ο x4):=s!"f"
theorem uE:ϟ:=top 66
def KL:ζ ["thing","least","most"] ["thing","least","most"] (Ο uE):=s!"f"
theorem uF:ϟ:=top 67
def KN:ζ ["sign"] ["sign"] (Ο uF):=s!"f"
theorem oq:ϟ:=top 68
def KO:ζ ["thing"] ["thing"] (Ο oq):=s!"f"
theorem rM:ϟ:=top 69
def Lh:ζ ["thing"] ["thing"] (Ο rM):=s!"f"
theorem ou:ϟ:=top 70
def KP:ζ ["thing"] ["thing"] (Ο ou):=s!"f"
theorem rN:ϟ:=top 71
def Jm:ζ ["thing","low","high"] ["thing","low","high"] (Ο rN):=s!"f"
theorem x5:ϟ:=top 72
def ow:ζ ["key","h","sign"] ["key"] (Ο x5):=s!"f"
theorem x6:ϟ:=top 73
def Li:ζ ["key","many"] ["key","many"] (Ο x6):=s!"f"
theorem gR:ϟ:=top 80
def Gp:ζ ["names"] ["names"] (Ο gR):=s!"f"
theorem fP:ϟ:=top 81
def EB:ζ ["bounded"] ["bounded"] (Ο fP):=s!"f"
theorem jH:ϟ:=top 82
def EC:ζ ["key","word"] ["key","word"] (Ο jH):=s!"f"
theorem kJ:ϟ:=top 83
def Gq:ζ ["thing"] ["thing"] (Ο kJ):=s!"f"
theorem kK:ϟ:=top 84
def Gr:ζ ["state","row"] ["state","row"] (Ο kK):=s!"f"
theorem pk:ϟ:=top 88
def Iu:ζ ["state","row"] ["state","row"] (Ο pk):=s!"f"
theorem jI:ϟ:=top 89
def ED:ζ ["state","sender","life"] ["state","sender","life"] (Ο jI):=s!"f"
theorem rO:ϟ:=top 91
def jJ:ζ ["state","sender","events","deed","life"] ["state","sender"] (Ο rO):=s!"f"
theorem uG:ϟ:=top 92
def lF:ζ ["state","sender","life","number","shelf","letter","deed","row","known","place"] ["state","sender","life","number","shelf","letter","deed"] (Ο uG):=s!"f"
theorem pq:ϟ:=top 93
def vV:ζ ["state","sender","life","turns","deed"] ["state","sender","life","turns"] (Ο pq):=s!"f"
theorem pA:ϟ:=top 95
def dX:ζ ["state","sender","life","deed","events","group","row","loan","place"] ["state","sender","life"] (Ο pA):=s!"f"
theorem rP:ϟ:=top 96
def x8:ζ ["state","sender","life","deed"] ["state","sender","life"] (Ο rP):=s!"f"
theorem rQ:ϟ:=top 102
def jK:ζ ["state","many","turn","events","deed"] ["state","many"] (Ο rQ):=s!"f"
theorem pB:ϟ:=top 107
def vW:ζ ["state","row","start","most","whole","kept"] ["state","row","start","most","whole"] (Ο pB):=s!"f"
theorem iV:ϟ:=inClass (top 109) 0
def DR:ζ ["self"] ["self"] (Ο iV):=s!"f"
theorem mS:ϟ:=inClass (top 109) 1
def eO:ζ ["self","bodies","last","k","body","sign"] ["self","bodies"] (Ο mS):=s!"f"
theorem iW:ϟ:=inClass (top 118) 0
def DS:ζ ["self","sender","ends"] ["self","sender","ends"] (Ο iW):=s!"f"
theorem ie:ϟ:=inClass (top 119) 0
def Bw:ζ ["self"] ["self"] (Ο ie):=s!"f"
theorem gy:ϟ:=inClass (top 119) 1
def Ag:ζ ["self","sender"] ["self","sender"] (Ο gy):=s!"f"
theorem fg:ϟ:=inClass (top 119) 2
def x9:ζ ["self"] ["self"] (Ο fg):=s!"f"
theorem kL:ϟ:=inClass (top 119) 3
def rR:ζ ["self","sender","ends","number"] ["self","sender","ends"] (Ο kL):=s!"f"
theorem iX:ϟ:=inClass (top 119) 4
def DT:ζ ["self","sender"] ["self","sender"] (Ο iX):=s!"f"
theorem gz:ϟ:=inClass (top 119) 5
def Ah:ζ ["self","sender"] ["self","sender"] (Ο gz):=s!"f"
theorem ig:ϟ:=inClass (top 119) 6
def Bx:ζ ["self","number"] ["self","number"] (Ο ig):=s!"f"
theorem mT:ϟ:=inClass (top 119) 7
def G0:ζ ["self","number","row","place"] ["self","number","row","place"] (Ο mT):=s!"f"
theorem jL:ϟ:=inClass (top 119) 10
def pN:ζ ["self","number","fate","deed"] ["self","number","fate"] (Ο jL):=s!"f"
theorem iY:ϟ:=inClass (top 119) 11
def eI:ζ ["self","turn","numbers","number","deed"] ["self","turn"] (Ο iY):=s!"f"
theorem iZ:ϟ:=inClass (top 119) 12
def DU:ζ ["self","number"] ["self","number"] (Ο iZ):=s!"f"
theorem ik:ϟ:=inClass (top 119) 14
def By:ζ ["self","number"] ["self","number"] (Ο ik):=s!"f"
theorem fQ:ϟ:=inClass (top 119) 15
def yB:ζ ["self","number"] ["self","number"] (Ο fQ):=s!"f"
theorem gS:ϟ:=inClass (top 119) 16
def Gs:ζ ["self"] ["self"] (Ο gS):=s!"f"
theorem mU:ϟ:=top 121
def G1:ζ ["ends","spot"] ["ends","spot"] (Ο mU):=s!"f"
theorem gA:ϟ:=top 122
def lG:ζ ["ends","spots","spot"] ["ends","spots"] (Ο gA):=s!"f"
theorem Bz:ϟ:=top 123
def Gu:ζ ["ends","paper","deed","spots","other","spot"] ["ends","paper","deed","spots","other"] (Ο Bz):=s!"f"
theorem mV:ϟ:=top 124
def gU:ζ ["ends","paper","pairs","number","pair","other"] ["ends","paper","pairs"] (Ο mV):=s!"f"
theorem uH:ϟ:=top 125
def lH:ζ ["ends","paper","pairs","now","many"] ["ends","paper","pairs"] (Ο uH):=s!"f"
theorem ya:ϟ:=top 126
def Lj:ζ ["ends","pairs"] ["ends","pairs"] (Ο ya):=s!"f"
theorem jM:ϟ:=inClass (top 133) 0
def EE:ζ ["self"] ["self"] (Ο jM):=s!"f"
theorem uI:ϟ:=inClass (top 133) 1
def Ai:ζ ["self","key","word","deed","place"] ["self","key","word","deed"] (Ο uI):=s!"f"
theorem yb:ϟ:=inClass (top 133) 2
def Lk:ζ ["self","place"] ["self","place"] (Ο yb):=s!"f"
theorem rS:ϟ:=inClass (top 133) 3
def jN:ζ ["self","start","limit","most","found","place","letter"] ["self","start","limit","most"] (Ο rS):=s!"f"
theorem jO:ϟ:=inClass (top 133) 4
def EF:ζ ["self","place"] ["self","place"] (Ο jO):=s!"f"
theorem uJ:ϟ:=top 134
def KQ:ζ ["thing"] ["thing"] (Ο uJ):=s!"f"
theorem rT:ϟ:=top 135
def Jn:ζ ["thing"] ["thing"] (Ο rT):=s!"f"
theorem eP:ϟ:=top 136
def Gv:ζ ["thing"] ["thing"] (Ο eP):=s!"f"
theorem fR:ϟ:=inClass (top 137) 0
def yC:ζ ["self","shelves"] ["self","shelves"] (Ο fR):=s!"f"
theorem jP:ϟ:=inClass (top 137) 1
def EG:ζ ["self"] ["self"] (Ο jP):=s!"f"
theorem dA:ϟ:=inClass (top 137) 2
def yc:ζ ["self"] ["self"] (Ο dA):=s!"f"
theorem gB:ϟ:=inClass (top 137) 3
def dI:ζ ["self","name","start","shelf"] ["self","name"] (Ο gB):=s!"f"
theorem eW:ϟ:=inClass (top 137) 4
def cY:ζ ["self","row","end","shelf"] ["self","row"] (Ο eW):=s!"f"
theorem fS:ϟ:=inClass (top 137) 5
def yD:ζ ["self","row"] ["self","row"] (Ο fS):=s!"f"
theorem gC:ϟ:=inClass (top 137) 7
def lI:ζ ["self","name","key","rows"] ["self","name","key"] (Ο gC):=s!"f"
theorem fU:ϟ:=inClass (top 140) 0
def yE:ζ ["self"] ["self"] (Ο fU):=s!"f"
theorem jQ:ϟ:=inClass (top 140) 1
def pO:ζ ["self","name","life"] ["self","name"] (Ο jQ):=s!"f"
theorem jR:ϟ:=inClass (top 140) 2
def EH:ζ ["self","name"] ["self","name"] (Ο jR):=s!"f"
theorem i0:ϟ:=inClass (top 140) 3
def DV:ζ ["self","name","life"] ["self","name","life"] (Ο i0):=s!"f"
theorem gD:ϟ:=inClass (top 140) 4
def lJ:ζ ["self","name","number","due","kept","oldest"] ["self","name","number"] (Ο gD):=s!"f"
theorem jS:ϟ:=inClass (top 140) 5
def pP:ζ ["self","name","number","row","place","due"] ["self","name","number","row","place"] (Ο jS):=s!"f"
theorem gE:ϟ:=inClass (top 140) 6
def Aj:ζ ["self","name"] ["self","name"] (Ο gE):=s!"f"
theorem gF:ϟ:=inClass (top 140) 7
def Ak:ζ ["self","name"] ["self","name"] (Ο gF):=s!"f"
theorem fV:ϟ:=inClass (top 142) 0
def yF:ζ ["self"] ["self"] (Ο fV):=s!"f"
theorem eJ:ϟ:=inClass (top 145) 0
def BA:ζ ["self","shelves"] ["self","shelves"] (Ο eJ):=s!"f"
theorem eK:ϟ:=inClass (top 145) 4
def BB:ζ ["self","row"] ["self","row"] (Ο eK):=s!"f"
theorem gG:ϟ:=inClass (top 147) 0
def Al:ζ ["self","shelves"] ["self","shelves"] (Ο gG):=s!"f"
theorem iM:ϟ:=inClass (top 147) 1
def kM:ζ ["self","asked","events","event"] ["self","asked"] (Ο iM):=s!"f"
theorem kN:ϟ:=inClass (top 147) 2
def Gw:ζ ["self","sender"] ["self","sender"] (Ο kN):=s!"f"
theorem mW:ϟ:=inClass (top 147) 3
def G2:ζ ["self","sender","life","number","shelf","key","word","deed"] ["self","sender","life","number","shelf","key","word","deed"] (Ο mW):=s!"f"
theorem jT:ϟ:=inClass (top 147) 4
def EI:ζ ["self","sender","life","turns"] ["self","sender","life","turns"] (Ο jT):=s!"f"
theorem jU:ϟ:=inClass (top 147) 6
def EJ:ζ ["self","sender","life"] ["self","sender","life"] (Ο jU):=s!"f"
theorem kO:ϟ:=inClass (top 147) 7
def Gx:ζ ["self","sender","life"] ["self","sender","life"] (Ο kO):=s!"f"
theorem il:ϟ:=inClass (top 147) 8
def BC:ζ ["self","deed"] ["self","deed"] (Ο il):=s!"f"
theorem fh:ϟ:=inClass (top 147) 15
def yd:ζ ["self","many"] ["self","many"] (Ο fh):=s!"f"
theorem kP:ϟ:=inClass (top 147) 22
def Gy:ζ ["self","row","start","most","whole"] ["self","row","start","most","whole"] (Ο kP):=s!"f"
theorem gH:ϟ:=inClass (top 147) 23
def Am:ζ ["self","row"] ["self","row"] (Ο gH):=s!"f"
theorem pC:ϟ:=top 149
def Iv:ζ ["_law_script","_law_k"] ["_law_script","_law_k"] (Ο pC):=s!"f"
theorem uK:ϟ:=top 150
def An:ζ ["_law_cell","_law_k","_law_number"] ["_law_cell","_law_k"] (Ο uK):=s!"f"
theorem ye:ϟ:=top 151
def uL:ζ ["_law_number","_law_many","_law_some"] ["_law_number","_law_many"] (Ο ye):=s!"f"
theorem rV:ϟ:=top 152
def Jo:ζ ["_law_number"] ["_law_number"] (Ο rV):=s!"f"
theorem oy:ϟ:=top 153
def eM:ζ ["_law_cell","_law_many","_law_size","_law_at","_law_base","_law_names_here","_law_k","_law_signs"] ["_law_cell","_law_many"] (Ο oy):=s!"f"
theorem rW:ϟ:=top 154
def fE:ζ ["_law_cell","_law_many","_law_size","_law_base","_law_at","_law_keys_here","_law_k","_law_signs"] ["_law_cell","_law_many"] (Ο rW):=s!"f"
theorem yf:ϟ:=top 155
def uM:ζ ["_law_kept","_law_sender","_law_number","_law_deed"] ["_law_kept","_law_sender"] (Ο yf):=s!"f"
theorem mX:ϟ:=top 156
def G3:ζ ["_law_kept","_law_number","_law_fate"] ["_law_kept","_law_number","_law_fate"] (Ο mX):=s!"f"
theorem uN:ϟ:=top 157
def dJ:ζ ["_law_cellar","_law_kept","_law_sender","_law_turns_here","_law_number","_law_found","_law_caught","e"] ["_law_cellar","_law_kept","_law_sender","_law_turns_here"] (Ο uN):=s!"f"
theorem BD:ϟ:=top 158
def rX:ζ ["_law_cellar","_law_kept","_law_sender","_law_deed","_law_letter_here","_law_life","_law_row","_law_place"] ["_law_cellar","_law_kept","_law_sender","_law_deed","_law_letter_here"] (Ο BD):=s!"f"
theorem rY:ϟ:=top 159
def cK:ζ ["_law_cellar","_law_kept","_law_sender","_law_closing","_law_number","_law_found","_law_caught","e","_law_good"] ["_law_cellar","_law_kept","_law_sender","_law_closing"] (Ο rY):=s!"f"
theorem yg:ϟ:=top 160
def Ll:ζ ["_law_cellar","_law_kept","_law_sender"] ["_law_cellar","_law_kept","_law_sender"] (Ο yg):=s!"f"
theorem uO:ϟ:=top 161
def rZ:ζ ["_law_cellar","_law_kept","_law_many","_law_number","_law_deed"] ["_law_cellar","_law_kept","_law_many"] (Ο uO):=s!"f"
theorem pD:ϟ:=top 162
def dY:ζ ["_law_kept","_law_row","_law_front","_law_found","_law_place","_law_key","_law_word","_law_deed"] ["_law_kept","_law_row","_law_front"] (Ο pD):=s!"f"
theorem dm:ϟ:=top 163
def ck:ζ ["_law_kept","_law_fronts_now","_law_opened","_law_deed","_law_beneath","_law_ends"] ["_law_kept","_law_fronts_now"] (Ο dm):=s!"f"
theorem lK:ϟ:=top 164
def jV:ζ ["_law_cellar","_law_kept","_law_fronts_now","_law_row","_law_front"] ["_law_cellar","_law_kept"] (Ο lK):=s!"f"
theorem uP:ϟ:=top 165
def iN:ζ ["_law_cellar","_law_kept","_law_number","_law_deed","_law_row","_law_letters_here"] ["_law_cellar","_law_kept"] (Ο uP):=s!"f"
theorem yh:ϟ:=top 166
def iq:ζ ["_law_cellar","_law_names_here","_law_keys_here","_law_kept","_law_each","_law_way","_law_sender","_law_deed","_law_letter_here"] ["_law_cellar","_law_names_here","_law_keys_here","_law_kept","_law_each"] (Ο yh):=s!"f"
theorem Gz:ϟ:=top 167
def iO:ζ ["_law_script","_law_cell","_law_names_here","_law_sizes","_law_cellar","_law_keys_here","_law_kept","_law_sender","_law_at","_law_each"] ["_law_script"] (Ο Gz):=s!"f"
set_option genInjectivity false in
structure Adr where
 {OI Mw Ql f9 Do MI OJ re N5 bi ϖ O9 Op aa8 ac7 ac8 aa9 YM XO aa' ZJ ZK SD Px Qm Pa Pb Py Pz ac9 aba abb abc ac' abd ZL ada adb WD VN VO WE WF YN VP ZM abe YO YQ ZN ZO YR Q4 XQ Q5 QF Td Sb WG UV Te T9 XR VQ UW UX T' SE WH XS Tf ae6 XT abf adc RG Ua ade ZP VR abg ZQ WI PB VS Sc Tg RH SG Th PD VT VU UY Ti VW Tj Tk PF QG Ub P6 XU WJ Q0 PJ VX WK Uc Sd Qn Tl YS abh adf ZR abi adg adh XV abj ae7 ZS adi abk YT Ud ZT abl adj akW Nz NA Nf Ng N6 NB:Ι}
 {UZ Tn abm adk adl abn YU XW abo ZU ZV SH VY WL U0 U1 VZ V0 adm abp abq abr adn abt ZW ado adp WM V1 V2 WN WO YV V3 ZX abu YW YX ZY ZZ YY U2 XX U3 Ue To Se WP U4 Tp Uf XY V4 U5 U6 Ug SI WQ XZ Tq ae8 X4 abv adq V5 RV adr Z5 V6 abw Z6 WR SJ V7 Sf Tr RI SK Ts SL V8 V9 U7 Tt V' Tu Tv SM Uh Ui Tw X5 WS Oq Os Wa WT Uj Sg NM Tx YZ abx ads Z7 aby adt adu X6 abz ae9 Z8 adv abA Y0 Uk Z9 abB adw af8:Mx}
 {Wb abC Sl Sm X7 Q6 Wc RJ RK WU:-Υ}
structure Txt (w:J')(K:Ψ)(mg:Str->Option Υ)(a:Adr):Prop where
 Iw:mg "Book"=!.ref a.Ql
 Ao:mg "Senders"=!.ref a.f9
 DW:mg "Cellar"=!.ref a.Do
 GA:mg "State"=!.ref a.MI
 Ap:mg "Readers"=!.ref a.OJ
 Aq:mg "Shelves"=!.ref a.re
 KR:mg "Row"=!.ref a.N5
 GB:mg "Deeds"=!.ref a.bi
 Iy:mg "Deed"=!.ref a.ϖ
 BE:mg "Busy"=!.ref a.OI
 uQ:mg "NoDeed"=!.ref a.Mw
 KS:Mk K a.Ql a.Q4
 DY:Mk K a.f9 a.PD
 GC:Mk K a.Do a.P6
 Iz:Mk K a.MI a.QG
 DZ:Mk K a.OJ a.PF
 D4:Mk K a.re a.PB
 LR:Mk K a.N5 a.RG
 IA:Mk K a.bi a.QF
 KU:Mk K a.ϖ a.Q5
 IC:Xi K a.OI a.O9
 ID:Xf K a.O9
 D7:Xi K a.Mw a.Op
 D8:Xf K a.Op
 i3:FI K "Busy.__init__" iQ ["self","deed"] a.O9 a.UZ
 gI:FI K "NoDeed.__init__" gw ["self","name"] a.Op a.Tn
 uR:FT K mg "guarded" uB ["text"] a.aa8 a.abm
 yi:FT K mg "joined" rK ["fields"] a.ac7 a.adk
 GD:FT K mg "sum_of" xY ["text"] a.ac8 a.adl
 D9:FT K mg "line_of" uC ["number","body"] a.aa9 a.abn
 yj:FT K mg "word_text" pj ["word"] a.YM a.YU
 vX:FT K mg "owner_text" mR ["owner"] a.XO a.XW
 Ea:FT K mg "text_of" uD ["part","value"] a.aa' a.abo
 dk:FT K mg "event_of" rL ["name","values"] a.ZJ a.ZU
 Ar:FT K mg "body_for" lE ["event"] a.ZK a.ZV
 lL:FT K mg "body_for_shelves" fO ["shelves"] a.SD a.SH
 jW:FT K mg "hail_happens" jD ["state","event"] a.Px a.VY
 kQ:FT K mg "put_happens" kI ["state","event"] a.Qm a.WL
 i4:FT K mg "begin_happens" iR ["state","event"] a.Pa a.U0
 i6:FT K mg "close_happens" iS ["state","event"] a.Pb a.U1
 jX:FT K mg "drop_happens" jF ["state","event"] a.Py a.VZ
 jY:FT K mg "turn_happens" jG ["state","event"] a.Pz a.V0
 GF:FT K mg "happen" x4 ["state","event"] a.ac9 a.adm
 oz:FT K mg "is_text" uE ["thing","least","most"] a.aba a.abp
 uS:FT K mg "is_sign" uF ["sign"] a.abb a.abq
 uU:FT K mg "is_name" oq ["thing"] a.abc a.abr
 GG:FT K mg "is_key" rM ["thing"] a.ac' a.adn
 Eb:FT K mg "is_word" ou ["thing"] a.abd a.abt
 r6:FT K mg "is_whole" rN ["thing","low","high"] a.ZL a.ZW
 GH:FT K mg "spread" x5 ["key"] a.ada a.ado
 GI:FT K mg "row_in" x6 ["key","many"] a.adb a.adp
 gW:FT K mg "check_names" gR ["names"] a.WD a.WM
 bT:FT K mg "check_wholes" fP ["bounded"] a.VN a.V1
 r8:FT K mg "check_letter" jH ["key","word"] a.VO a.V2
 tq:FT K mg "check_truth" kJ ["thing"] a.WE a.WN
 tw:FT K mg "check_there" kK ["state","row"] a.WF a.WO
 pE:FT K mg "asked_row" pk ["state","row"] a.YN a.YV
 fW:FT K mg "asked_sender" jI ["state","sender","life"] a.VP a.V3
 As:FT K mg "hail_act" rO ["state","sender"] a.ZM a.ZX
 Ec:FT K mg "put_act" uG ["state","sender","life","number","shelf","letter","deed"] a.abe a.abu
 yk:FT K mg "begin_act" pq ["state","sender","life","turns"] a.YO a.YW
 yl:FT K mg "close_act" pA ["state","sender","life"] a.YQ a.YX
 Au:FT K mg "drop_act" rP ["state","sender","life"] a.ZN a.ZY
 Av:FT K mg "pass_act" rQ ["state","many"] a.ZO a.ZZ
 ym:FT K mg "read_from" pB ["state","row","start","most","whole"] a.YR a.YY
 pQ:FI K "Book.__init__" iV ["self"] a.Q4 a.U2
 mY:FM K a.Ql "write" "Book.write" mS ["self","bodies"] a.XQ a.XX
 pR:FI K "Deed.__init__" iW ["self","sender","ends"] a.Q5 a.U3
 oA:FI K "Deeds.__init__" ie ["self"] a.QF a.Ue
 gJ:FM K a.bi "need_free" "Deeds.need_free" gy ["self","sender"] a.Td a.To
 cx:FM K a.bi "next_number" "Deeds.next_number" fg ["self"] a.Sb a.Se
 tE:FM K a.bi "begin" "Deeds.begin" kL ["self","sender","ends"] a.WG a.WP
 eZ:FM K a.bi "open_of" "Deeds.open_of" iX ["self","sender"] a.UV a.U4
 gK:FM K a.bi "need_open" "Deeds.need_open" gz ["self","sender"] a.Te a.Tp
 cF:FM K a.bi "numbered" "Deeds.numbered" ig ["self","number"] a.T9 a.Uf
 vY:FM K a.bi "hold" "Deeds.hold" mT ["self","number","row","place"] a.XR a.XY
 jZ:FM K a.bi "finish" "Deeds.finish" jL ["self","number","fate"] a.VQ a.V4
 pS:FM K a.bi "overdue" "Deeds.overdue" iY ["self","turn"] a.UW a.U5
 pT:FM K a.bi "fate_of" "Deeds.fate_of" iZ ["self","number"] a.UX a.U6
 ir:FM K a.bi "spots_of" "Deeds.spots_of" ik ["self","number"] a.T' a.Ug
 lM:FM K a.bi "pledges_of" "Deeds.pledges_of" fQ ["self","number"] a.SE a.SI
 kR:FM K a.bi "pairs" "Deeds.pairs" gS ["self"] a.WH a.WQ
 mZ:FT K mg "is_beneath" mU ["ends","spot"] a.XS a.XZ
 m4:FT K mg "row_not_beneath" gA ["ends","spots"] a.Tf a.Tq
 BF:FT K mg "lower" Bz ["ends","paper","deed","spots","other"] a.ae6 a.ae8
 vZ:FT K mg "lower_once" mV ["ends","paper","pairs"] a.XT a.X4
 Ed:FT K mg "lowered" uH ["ends","paper","pairs"] a.abf a.abv
 GJ:FT K mg "fronts" ya ["ends","pairs"] a.adc a.adq
 r9:FI K "Row.__init__" jM ["self"] a.RG a.V5
 Ee:Xz K a.N5 "add" a.Ua
 Lm:Qg K "add" "Row.add" uI a.Ua a.RV a.abC
 Ef:Binds K a.RV ["self","key","word","deed"] []
 KW:Binds K a.RV ["self","key","word","deed"] a.Wb
 KY:Vals [.int 0] a.Wb
 GK:FM K a.N5 "at" "Row.at" yb ["self","place"] a.ade a.adr
 Aw:FM K a.N5 "seen" "Row.seen" rS ["self","start","limit","most"] a.ZP a.Z5
 sf:FM K a.N5 "take_out" "Row.take_out" jO ["self","place"] a.VR a.V6
 Eg:FT K mg "is_kind" uJ ["thing"] a.abg a.abw
 Ax:FT K mg "is_shelf" rT ["thing"] a.ZQ a.Z6
 tF:FT K mg "are_shelves" eP ["thing"] a.WI a.WR
 lN:FI K "Shelves.__init__" fR ["self","shelves"] a.PB a.SJ
 j1:FM K a.re "told" "Shelves.told" jP ["self"] a.VS a.V7
 fi:FM K a.re "many_rows" "Shelves.many_rows" dA ["self"] a.Sc a.Sf
 m5:FM K a.re "rows_of" "Shelves.rows_of" gB ["self","name"] a.Tg a.Tr
 j2:FM K a.re "shelf_with" "Shelves.shelf_with" eW ["self","row"] a.RH a.RI
 lO:FM K a.re "shelf_at" "Shelves.shelf_at" fS ["self","row"] a.SG a.SK
 m6:FM K a.re "row_for" "Shelves.row_for" gC ["self","name","key"] a.Th a.Ts
 lP:FI K "Senders.__init__" fU ["self"] a.PD a.SL
 si:FM K a.f9 "hail" "Senders.hail" jQ ["self","name"] a.VT a.V8
 dZ:FM K a.f9 "need" "Senders.need" jR ["self","name"] a.VU a.V9
 i7:FM K a.f9 "allow" "Senders.allow" i0 ["self","name","life"] a.UY a.U7
 m8:FM K a.f9 "spot_of" "Senders.spot_of" gD ["self","name","number"] a.Ti a.Tt
 sj:FM K a.f9 "note" "Senders.note" jS ["self","name","number","row","place"] a.VW a.V'
 gL:FM K a.f9 "life_of" "Senders.life_of" gE ["self","name"] a.Tj a.Tu
 m9:FM K a.f9 "last_of" "Senders.last_of" gF ["self","name"] a.Tk a.Tv
 lQ:FI K "Readers.__init__" fV ["self"] a.PF a.SM
 oB:FI K "State.__init__" eJ ["self","shelves"] a.QG a.Uh
 iu:FM K a.MI "front_at" "State.front_at" eK ["self","row"] a.Ub a.Ui
 na:FI K "Cellar.__init__" gG ["self","shelves"] a.P6 a.Tw
 dq:FM K a.Do "act" "Cellar.act" iM ["self","asked"] a.XU a.X5
 kS:FM K a.Do "hail" "Cellar.hail" kN ["self","sender"] a.WJ a.WS
 wa:Xz K a.Do "put" a.Q0
 IE:Qg K "put" "Cellar.put" mW a.Q0 a.Oq a.X7
 wc:Binds K a.Oq ["self","sender","life","number","shelf","key","word","deed"] []
 G4:Binds K a.Oq ["self","sender","life","number","shelf","key","word","deed"] a.Sl
 G5:Vals [.int 0] a.Sl
 G6:Binds K a.Oq ["self","sender","life","number","shelf","key","word","deed"] a.Sm
 G7:Vals [.k4,.int 0] a.Sm
 d4:Xz K a.Do "begin" a.PJ
 GL:Qg K "begin" "Cellar.begin" jT a.PJ a.Os a.Wc
 j3:Binds K a.Os ["self","sender","life","turns"] []
 i8:Binds K a.Os ["self","sender","life","turns"] a.Q6
 i9:Vals [.int 10] a.Q6
 fX:FM K a.Do "close" "Cellar.close" jU ["self","sender","life"] a.VX a.Wa
 gX:FM K a.Do "drop" "Cellar.drop" kO ["self","sender","life"] a.WK a.WT
 oC:FM K a.Do "fate_of" "Cellar.fate_of" il ["self","deed"] a.Uc a.Uj
 ku:FM K a.Do "pass_turns" "Cellar.pass_turns" fh ["self","many"] a.Sd a.Sg
 kT:Xz K a.Do "read" a.Qn
 G8:Qg K "read" "Cellar.read" kP a.Qn a.NM a.WU
 tG:Binds K a.NM ["self","row","start","most","whole"] []
 sr:Binds K a.NM ["self","row","start","most","whole"] a.RJ
 su:Vals [.bl true] a.RJ
 GN:Binds K a.NM ["self","row","start","most","whole"] a.RK
 GO:Vals [.int 10,.bl true] a.RK
 ng:FM K a.Do "front_of" "Cellar.front_of" gH ["self","row"] a.Tl a.Tx
 pF:FT K mg "_law_cell_at" pC ["_law_script","_law_k"] a.YS a.YZ
 bo:FT K mg "_law_mixed" uK ["_law_cell","_law_k"] a.abh a.abx
 yn:FT K mg "_law_sign" ye ["_law_number","_law_many"] a.adf a.ads
 sv:FT K mg "_law_letter" rV ["_law_number"] a.ZR a.Z7
 Eh:FT K mg "_law_names" oy ["_law_cell","_law_many"] a.abi a.aby
 GP:FT K mg "_law_keys" rW ["_law_cell","_law_many"] a.adg a.adt
 nh:FT K mg "_law_open" yf ["_law_kept","_law_sender"] a.adh a.adu
 fq:FT K mg "_law_finished" mX ["_law_kept","_law_number","_law_fate"] a.XV a.X6
 Ei:FT K mg "_law_begin" uN ["_law_cellar","_law_kept","_law_sender","_law_turns_here"] a.abj a.abz
 IF:FT K mg "_law_put" BD ["_law_cellar","_law_kept","_law_sender","_law_deed","_law_letter_here"] a.ae7 a.ae9
 Ay:FT K mg "_law_finish" rY ["_law_cellar","_law_kept","_law_sender","_law_closing"] a.ZS a.Z8
 GQ:FT K mg "_law_hail" yg ["_law_cellar","_law_kept","_law_sender"] a.adi a.adv
 Ej:FT K mg "_law_turns" uO ["_law_cellar","_law_kept","_law_many"] a.abk a.abA
 pG:FT K mg "_law_letters" pD ["_law_kept","_law_row","_law_front"] a.YT a.Y0
 oE:FT K mg "_law_whole_or_not" dm ["_law_kept","_law_fronts_now"] a.Ud a.Uk
 Az:FT K mg "_law_stands" lK ["_law_cellar","_law_kept"] a.ZT a.Z9
 uV:FT K mg "_law_shown" uP ["_law_cellar","_law_kept"] a.abl a.abB
 GR:FT K mg "_law_step" yh ["_law_cellar","_law_names_here","_law_keys_here","_law_kept","_law_each"] a.adj a.adw
 LS:FT K mg "law" Gz ["_law_script"] a.akW a.af8
 gM:Wu K a.Ql
 cT:i' K a.Ql "lines"
 aJ:Wu K a.f9
 bt:i' K a.f9 "lasts"
 cG:i' K a.f9 "lives"
 dw:i' K a.f9 "spots"
 aD:Wu K a.Do
 fY:i' K a.Do "book"
 aY:i' K a.Do "state"
 aC:Wu K a.MI
 aO:i' K a.MI "deeds"
 pU:i' K a.MI "groups"
 oF:i' K a.MI "readers"
 cV:i' K a.MI "rows"
 bh:i' K a.MI "senders"
 cI:i' K a.MI "shelves"
 eQ:i' K a.MI "turn"
 sy:Wu K a.OJ
 ni:i' K a.OJ "places"
 pV:i' K a.OJ "rows"
 bU:Wu K a.re
 bV:i' K a.re "shelves"
 cQ:Wu K a.N5
 we:i' K a.N5 "drawn"
 dM:i' K a.N5 "end"
 iP:i' K a.N5 "first"
 d5:i' K a.N5 "letters"
 aL:Wu K a.bi
 bQ:i' K a.bi "busy"
 bW:i' K a.bi "deeds"
 cy:Wu K a.ϖ
 nj:i' K a.ϖ "ends"
 d6:i' K a.ϖ "fate"
 ja:i' K a.ϖ "pledges"
 fZ:i' K a.ϖ "sender"
 eR:i' K a.ϖ "spots"
 AA:Wx K a.OI
 nq:i' K a.OI "deed"
 wg:Em K a.OI a.OI true
 sC:Wx K a.Mw
 j4:i' K a.Mw "name"
 oG:Em K a.Mw a.Mw true
 uW:mg "all"=none
 KZ:mg "bool"=none
 cm:mg "enumerate"=none
 LU:mg "int"=none
 cR:mg "isinstance"=none
 dz:mg "len"=none
 gb:mg "list"=none
 LV:mg "max"=none
 LW:mg "min"=none
 GS:mg "ord"=none
 fu:mg "range"=none
 LX:mg "set"=none
 pH:mg "str"=none
 GU:mg "sum"=none
 IG:mg "tuple"=none
 LY:mg "zip"=none
 dN:OG mg "GREATEST" (.int 1000000000)
 wj:L2.aeT w K mg "HAPPENINGS" [("hail",.ref a.Px),("put",.ref a.Qm),("begin",.ref a.Pa),("close",.ref a.Pb),("drop",.ref a.Py),("turn",.ref a.Pz)]
 AB:OG mg "KEY_MOST" (.int 24)
 IH:XG K mg "KINDS" [.str "table",.str "stream"]
 sD:OG mg "LETTERS_MOST" (.int 1000)
 yo:OG mg "NAME_MOST" (.int 12)
 wk:OG mg "NAME_SIGNS" (.str "abcdefghijklmnopqrstuvwxyz0123456789")
 BG:L2.aeT w K mg "PARTS" [("hail",.ref a.NB),("put",.ref a.N6),("begin",.ref a.Ng),("close",.ref a.Nf),("drop",.ref a.NA),("turn",.ref a.Nz)]
 AD:OG mg "PER_CENT" (.int 37)
 yp:OG mg "ROWS_MOST" (.int 9)
 sF:OG mg "SHELVES_MOST" (.int 6)
 wm:OG mg "SPOTS_KEPT" (.int 8)
 II:XG K mg "TEXTS" [.str "sender",.str "key",.str "group",.str "shelf",.str "taker",.str "reader"]
 nv:OG mg "TURNS_MOST" (.int 1000)
 yq:OG mg "WORD_MOST" (.int 200)
 K0:∀(s:η) (u:Υ),Yj s a.af8 ⟨[u],[]⟩ [("_law_script",u)]
 kU:∀H,Of K H a.Nz [.str "turn"]
 kW:∀H,Of K H a.NA [.str "deed"]
 j5:∀H,Of K H a.Nf [.str "deed"]
 j6:∀H,Of K H a.Ng [.str "deed",.str "sender",.str "end"]
 nw:∀H,Of K H a.N6 [.str "sender",.str "number",.str "deed",.str "row",.str "place",.str "key",.str "word"]
 kX:∀H,Of K H a.NB [.str "sender",.str "life"]
private def rdN:String:="rSw aoF rZf ahm Le anG tCT atK aoi aeD aoJ ahp xu zB Dc zC La zd ze w6 xg vw pL xi zp zh qP qQ zq FN Cr Cs Cu Cz CJ CL CO CP CQ zx CU CV zu CH Km CI zw xp Kn wW y8 Ch wU Kr Ks FV Ib zz C8 Ko Dv zK Dw xC zL vE zM zN Dx C9 CY C0 aoE Ft yX HH sXs ahe amj aoB afU akh are arf xNo tAs arh aoA Ends.less akB Je Jf vz zD Dq CZ Kx Dr Dt Jd Du Jh Lb Lf Ji Kp Lc C5 Ld y9 xE xF uh ui xG Bq zP vF xv vA vB Dz vG sY sZ vH vI xI DB tf vJ tj zH zI zJ zT uu tm xS DL aRx aIx aKx aSx aTx aBx aVr aNr atf atg Mr and_assoc LZ Ly Mt Ma ajs ajt ajW tSl aet ajE tBM ajG tyV rJoin anO anN OF Zg Vx ajq ajp anE anF tC tOp tUn rU rI T0 afE agB ajo aqM ajm agA aqL ajn aao acy afF acz afG tCB tB anB anA tOr ajk anC ajl acw tIf anz aji agG anM aod ame agX agY agZ ag0 ajM Zq agV aex aoe aof atJ afM aj1 Md LH LF aou aq6 at2 amg hV Lz A9 Mb Ba yT Mg Mh Mi Mj aob aoc Mn Mo Mp Ml acJ Mm IP Hs IQ Ht GW Hu J5 IS J6 IT Hv IU IV Hy IW Hz GX HA IY HB IZ HC GY HD _root_.Lake.L2.start acv atn anJ Int.reduceNeg Int.reducePow Int.reduceLT Int.reduceLE Int.reduceToNat or_true true_or and_self Nat.reducePow ath ati anw anx List.length_cons List.length_nil List.replicate List.cons_append List.nil_append List.append_nil Nat.reduceAdd Nat.reduceSub Nat.zero_add Nat.add_zero Nat.sub_self List.getElem?_cons_zero List.getElem?_cons_succ List.set_cons_zero List.set_cons_succ Option.some.injEq V.int.injEq V.bl.injEq V.str.injEq V.ref.injEq V.ty.injEq reduceCtorEq exists_eq exists_eq' not_true_eq_false not_false_eq_true exists_eq_left' exists_eq_left exists_eq_right exists_eq_right' exists_and_left exists_and_right exists_const false_and and_false true_and and_true exists_false or_false false_or List.cons.injEq eq_self_iff_true Bool.false_eq_true Bool.or_self Bool.or_true Bool.true_or Bool.or_false Bool.false_or if_true if_false ite_true ite_false Bool.not_true Bool.not_false decide_eq_true_eq Bool.not_eq_true' decide_eq_false_iff_not"
open Lean in
private def rdM (d:String):MacroM (TSyntax `tactic):=do
 let ds:=d.splitOn " "
 let ls <-((rdN.splitOn " ").filter λs=>!((ds.contains s))).mapM λs=>`(Parser.Tactic.simpLemma| $(mkIdent s.toName):term)
 let ls:=ls.toArray
 `(tactic| simp(maxSteps:=3000000) only[$ls,*,↓reduceIte,↓$(Gc `aRr):term,↓$(Gc `aIr):term,↓$(Gc `aKr):term,↓$(Gc `aSr):term,↓$(Gc `aTr):term,↓$(Gc `aBr):term,↓$(Gc `onIi):term,↓$(Gc `onSs):term,↓$(Gc `tV0):term,↓$(Gc `tVs):term,↓$(Gc `onRr):term,↓$(Gc `onBb):term])
local macro_rules | `(tactic| walk_at "rd")=>rdM ""
private def rfN:String:="rSw aoF rZf ahm Le anG tCT atK aoi aeD aoJ ahp aoE Ft sXs ahe amj aoB afU akh are arf xNo tAs arh aoA Ends.less akB Mc Mf aRr aIr aKr aK0 aSr aTr aBr aVr aNr onRr onBb onIi onSs tV0 tVs LA LZ Ly Mt Ma ajs ajt ajW tSl aet ajE tBM ajG tyV rJoin anO anN OF Zg Vx ajq ajp anE anF tC tOp tUn rU rI T0 afE agB ajo aqM ajm agA aqL ajn aao acy afF acz afG tCB tB anB anA tOr ajk anC ajl acw tIf anz aji agG anM aod ame agX agY agZ ag0 ajM Zq agV aex aoe aof atJ afM aj1 Md LF aou aq6 at2 amg hV A9 Mb Ba yT Mg Mh aob aoc Mn Mo Mp acJ _root_.Lake.L2.start acv atn anJ Int.reduceNeg Int.reducePow Int.reduceLT Int.reduceLE Int.reduceToNat Nat.reducePow ath ati List.length_cons List.length_nil List.replicate List.cons_append List.nil_append Nat.reduceAdd Nat.reduceSub Nat.add_zero List.getElem?_cons_zero List.getElem?_cons_succ List.set_cons_zero List.set_cons_succ ite_true ite_false Bool.not_true Bool.not_false"
open Lean in
local macro_rules | `(tactic| walk_at "rf")=>do
 let ls <-(rfN.splitOn " ").mapM λs=>`(Parser.Tactic.simpLemma| $(mkIdent s.toName):term)
 let ls:=ls.toArray
 `(tactic| try dsimp only[$ls,*,↓reduceIte])
open Lean in
local macro_rules | `(tactic| walk_at $l:str)=>do
 let k::f::g::sc::as:=l.getString.splitOn " " | Macro.throwUnsupported
 unless k == "h" || k == "x" || k == "H" || k == "X" do Macro.throwUnsupported
 let i (s:String):=mkIdent (.mkSimple s)
 let vs:=i "vs"
 let h:=i "h"
 let F:=mkIdent ((if k == "h" || k == "x" then((`T).str g).str "F" else(`T).str g).str f)
 let mut o:=#[<-`(tactic| refine $F $(i sc) (fun $vs _ _ _ $h=>?_) (λ_ _ _ _ $(i "H") $vs $(i "Q") $(i "E") $(i "hr") $h=>?_))]
 if k == "x" || k == "X" then
  for _ in [0:as.head!.toNat!] do o:=o.push (<-`(tactic| obtain⟨_,$h:ident⟩:=$h:ident))
  o:=o.push (<-`(tactic| (obtain⟨$(i "rfl"):ident,_⟩:=$h:ident;rfl)))
 else
  for b in [true,false] do
   let mut a:=as
   while a.length > 1 do
    let x:=if b then i "_z" else i a[1]!
    o:=o.push (<-`(tactic| (apply $(i ("a"++a[0]! ++ "e")) $vs $h;clear $h;intro $x $vs $h)))
    a:=a.drop 2
   o:=o.push (<-`(tactic| (apply $(i "aNe") $vs $h;clear $h)))
   if b then o:=o.push (<-`(tactic| exact λ_=>rfl))
   else o:=o.push (<-`(tactic| intro $h:ident))
 `(tactic| ($[$o:tactic];*))
open Lean in
local macro_rules | `(tactic| walk_at $l:str)=>do
 let some n:=["c1","c2","ls","nx","n2","e1","e2","es","ex","ey"].findIdx? (· == l.getString) | Macro.throwUnsupported
 let R:=mkIdent `Rz
 let h:=mkIdent `hRz
 let r <-if n < 5 then `(tactic| walk_at "rd") else `(tactic| walk_at "rf")
 match n % 5 with
 | 0=>`(tactic| (refine OQ fun $R $h=>?_;$r))
 | 1=>`(tactic| (refine Zw fun $R $h=>?_;$r))
 | 2=>`(tactic| (refine nx0 (R:=$R) $h ?_;clear $h;$r))
 | 3=>`(tactic| (refine nx1 (R:=$R) $h ?_;clear $h;intro $R $h;$r))
 | _=>`(tactic| (refine nx2 (R:=$R) $h ?_;clear $h;intro $R $h;$r))
seal PE PT PW PA PS W2 PG PGs PI PO PPs PC
section
variable {P:ϯ} {w:J'} {K:Ψ} {mg:Str->Option Υ} {base:be} {a:Adr} (T:Txt w K mg a)
def oH:T.i3.O P w mg base 1 (Bj a.OI ["deed"]):=by
 show T.i3.F.ok om (λvs H Q E h=>?_) (λNd A outer s H vs Q E hr h=>?_)
 ·(revert h;show Rx λea t ys μ hl _=>?_;subst μ)
  rw[ς,hl];rfl
 ·(revert h;show Yp λea t ys μ hl he q=>?_;subst μ)
  obtain⟨y0,rfl⟩:∃y0,ys=[y0]:=Rg.mp hl
  show(Λ _ (af (Bh Ϯ ϶ rfl)) ?_);walk1;show(ϡ a.OI T.AA T.nq (N' t (.inl ⟨he,λd hd nd=>q d _ hd nd (λb h1 h2=>by rw[ag h2,ag h1]) aa (by rw[ag nd];show aa)⟩)))
def lR:T.gI.O P w mg base 1 (Bj a.Mw ["name"]):=by
 show T.gI.F.ok lC (λvs H Q E h=>?_) (λNd A outer s H vs Q E hr h=>?_)
 ·(revert h;show Rx λea t ys μ hl _=>?_;subst μ)
  rw[ς,hl];rfl
 ·(revert h;show Yp λea t ys μ hl he q=>?_;subst μ)
  obtain⟨y0,rfl⟩:∃y0,ys=[y0]:=Rg.mp hl
  show(Λ _ (af (Bh Ϯ ϶ rfl)) ?_);walk1;show(ϡ a.Mw T.sC T.j4 (N' t (.inl ⟨he,λd hd nd=>q d _ hd nd (λb h1 h2=>by rw[ag h2,ag h1]) aa (by rw[ag nd];show aa)⟩)))
def ba:T.bo.O P w mg base 1 Ft:=by
 walk_at "h ok bo An I c I k"
 show(Λ _ (ae (aG 2 An (aM bX (aM (aX) (aM (aX) (aM kj (aM bX Ϯ ah) ah) (aM kj ah ϶)) ah) ah))
   (af (ao (aM bX (aM kj wv wv) ah)))) ?_)
 walk1;show⟨.inl ?_,h⟩;lk
def ny:T.pF.O P w mg base 1 (yX K):=by
 walk_at "h ok pF Iv R p I k";(revert h;show Nq λns hs hk q=>?_)
 show(Λ _ (ae (aQ (aw dU ϶ (aF (a9) (by rfl) T.dz zn (am Ϯ)) (ϧ _)) (af (ao (ak K hr Ϯ ϶))) au)
   (af (ao ah))) ?_)
 walk1;show cO hs ?_;walk1;rw[Θ];show S8 (λOM=>?_) (λhge=>?_)
 ·show bx hs (bj hk ?_) q
  rw[Ρ,ε,Ε ()];rfl
 ·rw[ε,sK ()] at q
  show q
def uX:T.yn.O P w mg base 1 HH:=by
 walk_at "h ok yn uL I n I m";(revert h;show N8 λh0 h1 q=>?_)
 show(Λ _ (ae (aG 2 uL ai)
   (ae (aG 2 uL (aM (aX) wv ai))
   (af (ao (ak K hr wv (aM bX Ϯ ϶)))))) ?_)
 walk1;show(Λ T62 (s!"d") (UM T34 (s!"d") "!" h0 "!" (Λ (sgn n m) (bj (A' _ ()) (Fu n m h0 h1)) q)))
def lS:T.oz.O P w mg base 1 zd:=by
 walk_at "h ok oz KL T l I lo I hi";(revert h;show QT λh h1 h2 q=>?_);show(Λ _ (af (ao (fH (aF (bF) (by rfl) T.cR Nw (eC Ϯ (iy (v:=.ty "str") rfl T.pH RP rfl))) (fG (qA fJ fJ ϶ (aF (a9) (by rfl) T.dz zn (am Ϯ)) wv))))) ?_);walk1;rw[γ h1,ϝ h2];show⟨ο h "!",q⟩
def sG:T.uU.O P w mg base 2 ze:=by
 walk_at "h ok uU KO T l";obtain⟨⟨h1,h2,h3⟩,q⟩:=h;show(Λ _ (af (ao (fH (ar T.oz (lS T) hr ν (aj Ϯ (eC ah (bD T.yo)))) (fG (aF (fz) (by rfl) T.uW Wk (am (cZ ["thing"] ["thing"] (Ο oq) (s!"c") (bb Ϯ) (λC₁ s₁ H₁ f₁=>(cq (lh (R0 hr)) Ϯ (bD T.wk) (by rfl)))))))))) ?_);walk1;show⟨(),(),(),nU (ο h2 "!") (λ_=>.bl true) (λc H' hc s Qe qe=>?_) (λD H' hD s hl=>?_)⟩
 ·walk1
  rw[FD,HL];rw[show decide (c∈T36)=true from h3 c hc];show qe H' (Ω.refl _)
 ·show nS (.inl (.inl (by rw[hl,ϣ];rfl))) ?_
  rw[all_true];show q H' s
def sI:T.uS.O P w mg base 1 zB:=by
 walk_at "h ok uS KN T z1";(revert h;show Nq λx μ h q=>?_;subst μ);show(Λ _ (af (ao (fH (qA fJ fJ ai Ϯ ai) (fG (cq (eA (hU hr)) (aF nQ (by rfl) T.GS al0 (am Ϯ)) (bD T.AD) (ϧ _)))))) ?_);walk1;rw[show(ϒ " ").11=[32] by decide +kernel,show(ϒ "~").11=[126] by decide +kernel];simp only[aj4];unfold Oi at h;simp only[io,PZ] at h;rw[γ (),γ (),show(!((decide ((x:Int)=37))))=true by simp;lk];show q
def Ek:T.GG.O P w mg base 2 Dc:=by
 walk_at "h ok GG Lh T l";obtain⟨⟨h1,h2,h3⟩,q⟩:=h;show(Λ _ (af (ao (fH (ar T.oz (lS T) hr ν (aj Ϯ (eC ah (bD T.AB)))) (fG (aF (fz) (by rfl) T.uW Wk (am (cZ ["thing"] ["thing"] (Ο rM) (s!"c") (bb Ϯ) (λC₁ s₁ H₁ f₁=>(ar T.uS (sI T) hr ν (am Ϯ)))))))))) ?_);walk1;show⟨(),(),(),nU (ο h2 "!") (λ_=>.bl true) (λc H' hc s Qe qe=>?_) (λD H' hD s hl=>?_)⟩
 ·walk1
  show⟨h3 c hc,qe H' (Ω.refl _)⟩
 ·show nS (.inl (.inl (by rw[hl,ϣ];rfl))) ?_
  rw[all_true];show q H' s
def AE:T.Eb.O P w mg base 2 zC:=by
 walk_at "h ok Eb KP V x";obtain⟨h,q⟩:=h
 show(Λ _ (ae (aQ (k6 (EL Ϯ)) (af (ao cS)) au)
   (af (ao (fH (ar T.oz (lS T) hr ν (aj Ϯ (eC ah (bD T.yq)))) (fG (aF (fz) (by rfl) T.uW Wk (am (cZ ["thing"] ["thing"] (Ο ou) (s!"c") (bb Ϯ) (λC₁ s₁ H₁ f₁=>(ar T.uS (sI T) hr ν (am Ϯ))))))))))) ?_)
 rcases h with rfl | ⟨l,rfl,h1,h2,h3⟩
 ·walk1
  show q H (Ω.refl _)
 walk1;show⟨(),(),(),nU (ο h2 "!") (λ_=>.bl true) (λc H' hc s Qe qe=>?_) (λD H' hD s hl=>?_)⟩
 ·walk1
  show⟨h3 c hc,qe H' (Ω.refl _)⟩
 ·show nS (.inl (.inl (by rw[hl,ϣ];rfl))) ?_
  rw[all_true];show q H' s
def pI:T.r6.O P w mg base 1 w6:=by
 walk_at "h ok r6 Jm I x I lo I hi";(revert h;show N8 λh1 h2 q=>?_);show(Λ _ (af (ao (fH (aF (bF) (by rfl) T.cR Nw (eC Ϯ (iy (v:=.ty "int") rfl T.LU boot_int rfl))) (fH (Jw (aF (bF) (by rfl) T.cR Nw (eC Ϯ (iy (v:=.ty "bool") rfl T.KZ boot_bool rfl)))) (fG (qA fJ fJ ϶ Ϯ wv)))))) ?_);walk1;rw[γ h1,ϝ h2];show q
def El:T.GH.O P w mg base 1 Cr:=by
 walk_at "h ok GH ow T l"
 show(Λ _ (ae (aG 1 ow ah)
   (ae (bE Ϛ rfl (bb Ϯ) (aE (i:=2) ow.nd rfl (ϵ rfl)) (af (aG 1 ow (aM ET (aM (aX) (aM kj ϶ ah) (aF nQ (by rfl) T.GS al0 (am wv))) ah))))
   (af (ao (aM EU ϶ (aM ES ϶ ah)))))) ?_)
 walk1;show wO (λi σ H'=>H'=H/\∃v,σ=[!.str (S l),!.int (W9 (l.take i)),v]) ⟨rfl,(N' none rfl)⟩ ?_ ?_
 ·rintro i c σ H' hc ⟨rfl,v,rfl⟩
  walk1;rw[zg hc]
 ·rintro σ H' ⟨rfl,v,rfl⟩
  walk1;let e:l.take (S l).26=l:=by simp
  rw[e];show h
def En:T.GI.O P w mg base 2 Cs:=by
 walk_at "h ok GI Li T l I m";obtain⟨hm,q⟩:=h;show(Λ _ (af (ao (aM bX (ar T.GH (El T) hr ν (am Ϯ)) ϶))) ⟨hm,q⟩)
def pJ:T.sv.O P w mg base 1 Cu:=by
 walk_at "h ok sv Jo I n";show(Λ _ (af (ao (ak K hr ai (aM bX Ϯ ah)))) ?_);walk1;show(ϡ T36 rfl "!" (Λ (N4 n) (bj (A' _ "!") ?_) h));let h:(n % 36).6 < T36.length:=by
  show(n % 36).6 < 36;lk
 unfold N4;rw[ε,Ε h];rfl
def pW:T.r9.O P w mg base 1 (wW a.N5):=by
 walk_at "h ok r9 EE R x";(revert h;show ϭ λdx hx q=>?_)
 show(Λ _ (ae (bu Ϯ ah rfl)
   (ae (bu Ϯ ah rfl)
   (ae (bu Ϯ ah rfl)
   (af (bu Ϯ dC rfl))))) ?_)
 show(IB _ dx ([]) hx T.cQ T.iP "!" (IB _ dx _ aa T.cQ T.dM "!" (IB _ dx _ aa T.cQ T.we "!" (λd hd=>?_))));let Xo:d≠x:=λz=>by rw[z,aa] at hd;cases hd
 rw[ag Xo,ag Xo,ag Xo] at hd;show(IB _ dx _ ((ag (ψ Xo)).trans aa) T.cQ T.d5 "!" (q d _ hd Xo ?_ ⟨⟨dx,aa⟩,(ϡ ([]) ((ag Xo).trans aa) "!" (λp=>⟨rfl,rfl⟩)),"!","!","!",λp h=>by cases h⟩));let m:x∈[x]:=by simp
 show(ϛ.upd m (bA hx)).trans ((ϛ.upd m (bA aa)).trans ((ϛ.upd m (bA aa)).trans ((ϛ.new (by rw[ag Xo,ag Xo,ag Xo];show hd)).trans (ϛ.upd m (bA ((ag (ψ Xo)).trans aa))))))
def AF (T:Txt w K mg a):OZ P w K mg base Yx 1 a.Ua a.RV ["self","key","word","deed"] (y8 a.N5):=by
 walk_at "H ok Lm Ai R r T z2 V z3 I z4";(revert h;show QS λd M x μ M0 zz3 R=>Nl λhb q=>?_;subst μ;subst M0;subst zz3)
 show(Λ _ (ae (aG 4 Ai (ax K Ϯ))
   (ae (cz (bf (aj ϶ (eC wv MN))) (cM (ax K Ϯ) (pv 4) (bL (R0 hr))))
   (ae (bu Ϯ (aM (aX) (pv 4) ah) rfl)
   (af (ao (pv 4)))))) ?_)
 obtain⟨dx,hr⟩:=R.30;(show ϱ R.51 λϓ hd hk hl=>?_);walk1;show(ϰ _ dx _ hr T.cQ T.dM (ϡ _ (wX M d) "!" (λt ht=>?_)));let htr:t≠r:=λz=>by rw[z,hr] at ht;cases ht
 let htd:t≠d:=λz=>by rw[z,hd] at ht;cases ht
 let hdr:=ψ R.ne;let OW:upd H t (.tup (Wv x)) r=!.ins a.N5 dx (YD M d):=(ag (ψ htr)).trans hr;let X8:upd H t (.tup (Wv x)) d=!.dK ϓ:=(ag (ψ htd)).trans hd;let hz:ϓ.4 < sizeLine:=ό (show ϓ.4<=100000 by lk) "!";show(ϰ _ dx _ OW T.cQ T.d5 (Λ _ (iD M d) (cu (Qc.k (k:=.inl M.19) X8 hz) ?_)));walk1;show(IB _ dx _ ((ag (ψ hdr)).trans OW) T.cQ T.dM (show 4 < 1000 by decide) ?_);let c1:ϛ [r,d] H (upd H t (.tup (Wv x))):=ϛ.new ht;let c2:ϛ [r,d] (upd H t (.tup (Wv x))) (upd (upd H t (.tup (Wv x))) d (.dK (putK ϓ (.inl M.19) (.ref t)))):=ϛ.upd ∅ (cP X8);let c3:ϛ [r,d] (upd (upd H t (.tup (Wv x))) d (.dK (putK ϓ (.inl M.19) (.ref t)))) _:=ϛ.upd (o:=.ins a.N5 dx (QB "end" (.int (M.19+1)) (YD M d))) ∅ (bA ((ag (ψ hdr)).trans OW));let l0:Ps (upd H t (.tup (Wv x))) (putK ϓ (.inl M.19) (.ref t)) (λq=>if q=M.19 then some x else M.L q):=(hl.im c1).put aa;show q _ (c1.trans (c2.trans c3)) ⟨⟨dx,aa⟩,(ϡ _ ((ag hdr).trans aa) ?_ (l0.im (c2.trans c3))),R.f0,aio R.fl (show M.19<=M.19+1 by lk),R.dr,λp hp=>?_⟩
 ·have:=bP ϓ (.inl M.19) (.ref t)
  show((putK ϓ (.inl M.19) (.ref t)).4:Int)<=M.19+1;lk
 ·let f:=R.fl
  change M.56<=p/\p < M.19+1
  by_cases e:p=M.19
  ·lk
  ·let hp':(M.L p).12=true:=by
    have:(if p=M.19 then some x else M.L p).12=true:=hp
    rwa [Φ e] at this
   have:=R.within p hp';lk
def Eo:T.GK.O P w mg base 1 (Ch a.N5):=by
 walk_at "h ok GK Lk R r I p";(revert h;show v0 λd M R q=>?_);show(Λ _ (af (ao (Fc (R0 hr) (ax K Ϯ) ϶ ⟨rfl,rfl,rfl,rfl⟩))) ?_);obtain⟨dx,hr⟩:=R.30;(show ϱ R.51 λϓ hd hk hl=>?_);show(ϰ _ dx _ hr T.cQ T.d5 (Λ _ (iD M d) (ϡ d rfl (.inl ⟨ϓ,.inl hd⟩) (Λ _ (MG.k (k:=.inl p) hd) (q _ (hl p).1)))))
def yr:T.Aw.O P w mg base 2 (wU a.N5):=by
 walk_at "h ok Aw jN R r I st I li I mo";(revert h;show Qz λd M R hb h0 hf=>QT λh1 h2 h3 q=>?_)
 let e8:max st M.56=0:=by rw[h0,hf]<;>rfl
 let e9:=Wi h2
 show(Λ _ (ae (aG 4 jN (aU cX))
   (ae (bE Ϛ rfl (BL rfl T.fu (eC (aF (Ce rfl) (by rfl) T.LV boot_max (eC ϶ (ax K Ϯ))) (aF (Cf rfl) (by rfl) T.LW boot_min (eC wv (ax K Ϯ))))) (aE (i:=5) jN.nd rfl (ϵ rfl)) (ae (aQ (aw JZ (aF (a9) (by rfl) T.dz zn (am (pv 4))) MN (ϧ _)) (af EM) au)
   (ae (aG 6 jN (aZ Ϯ T.cQ T.GK (Eo T) hr ν (am (pv 5))))
   (af (aQ (k6 (kf (pv 6))) (af (av (bM PySem.F.plainAttrs_list PySem.F.slot_list_append PySem.F.type_list_append br (pv 4) (am (bf (aj (pv 5) (eC (ak K hr (pv 6) ah) (ak K hr (pv 6) ah)))))))) au)))))
   (af (ao (pv 4))))) ?_)
 obtain⟨dx,hr⟩:=R.30;lia;show⟨"!",λD hD=>(ϰ _ dx _ ((Ω.upd hD) _ _ hr) T.cQ T.iP (Λ _ (za M d) (cr _ _ rfl (ϰ _ dx _ ((Ω.upd hD) _ _ hr) T.cQ T.dM (Λ _ (wX M d) (cr _ _ rfl (ϕ _ _ rfl ⟨by rw[e8];decide,by rw[e8];decide,by rw[e9];lk,by rw[e9];lk⟩ ?_)))))))⟩;generalize hlo:max st M.56=lo;generalize hn:(min li M.19 - lo).6=n;obtain rfl:lo=0:=hlo.symm.trans e8
 rw[show li.6=n by rw[<-hn,e9,Int.sub_zero]] at q;show lg (λi σ H'=>Ω H H'/\i<=n/\ϲ H' D ((M.Mu 0 i).map M.UU)/\∃v1 v2,σ=[!V.ref r,!V.int st,!V.int li,!V.int mo,!V.ref D,v1,v2]) ⟨Ω.upd hD,Ϡ _,(Λ ([]) aa ?_),(Ny none none rfl)⟩ ?_ ?_
 ·show .nil
 ·rintro i σ H' hi ⟨hs,hin,⟨ts,hl,ht⟩,v1,v2,rfl⟩
  let hlen:=ht.4;rw[Θ] at hlen;let hsl:=vp M 0 i;show OQ λRy Ul=>?_;lia;show cO (.inl (.inl hl)) ?_;lia;rw[Θ];rw[Φ (by simp;lk)]
  ·let R':=R.im (A:=[]) (ϛ.of_same hs) ∅ ∅
   rw[Ul];clear Ul;show OQ λRy Ul=>?_;lia;show(ϕ dx _ (hs _ _ hr) (HJ M d) (cr d M R' (λv hv=>?_)));rw[Ul];lia;cases hM:M.L (0+(i:Int)) with
   | none=>
    rw[hM] at hv;cases (hv);show(Λ _ rfl ?_);rw[Φ ∅];show⟨hs,(),(Λ ts hl ?_),(Ny _ _ rfl)⟩;rw[kG,hM,Φ ∅,Ix];show ht
   | some x=>
    rw[hM] at hv;(revert hv;show ϭ λt μ YK=>?_;subst μ);let hT:Of K H' t (Wv x):=.inl (.inl YK);show(Λ _ rfl ?_);rw[γ ∅];show⟨.inl ⟨rfl,(N' _ (.inl (.inl hl)))⟩,bc hT rfl (bc hT rfl ⟨"!",λp hp=>?_⟩)⟩;let hpD:p≠D:=λz=>by rw[z,hl] at hp;cases hp
    let Xl:upd H' p (.tup [.int (0+(i:Int)),.str (S x.1),wV x.2.1]) D=!.lst (ts.map V.ref):=(ag (ψ hpD)).trans hl;show(IB _ _ _ rfl rfl Xl (ό (show(ts.map V.ref).4<=100000 by rw[Θ];lk) "!") ?_);let c1:ϛ [D] H' (upd H' p (.tup [.int (0+(i:Int)),.str (S x.1),wV x.2.1])):=ϛ.new hp;let c2:ϛ [D] (upd H' p (.tup [.int (0+(i:Int)),.str (S x.1),wV x.2.1])) (upd (upd H' p (.tup [.int (0+(i:Int)),.str (S x.1),wV x.2.1])) D (.lst (ts.map V.ref++[V.ref p]))):=ϛ.upd ∅ (cv Xl);show⟨λb o hb=>(c1.trans c2).keep _ _ (hs b o hb) ?_,(),(Λ (ts++[p]) ?_ ?_),(Ny _ _ rfl)⟩
    ·simp only[Κ,Μ,χ]
     show aq hb hD
    ·rw[aa,ϐ];rfl
    ·rw[kG,hM,γ (show(!x).12=true from rfl),ϐ]
     show(ht.im (c1.trans c2)).snoc ?_;rw[c2.tup _ _ aa];simp only[MB.UU,hM]
 ·rintro σ H' ⟨hs,hin,hl,v1,v2,rfl⟩
  lia;show q D H' hD hs hl
def kz:T.lP.O P w mg base 1 (CJ a.f9):=by
 walk_at "h ok lP yE R x";(revert h;show ϭ λdx hx q=>?_)
 show(Λ _ (ae (bu Ϯ dC rfl)
   (ae (bu Ϯ dC rfl)
   (af (bu Ϯ dC rfl)))) ?_)
 show λl hl=>?_;let nl:l≠x:=λz=>by rw[z,hx] at hl;cases hl
 show(IB _ dx ([]) ((ag (ψ nl)).trans hx) T.aJ T.cG "!" (λt ht=>?_));let nt:t≠x:=λz=>by rw[z,aa] at ht;cases ht
 show(IB _ dx _ ((ag (ψ nt)).trans aa) T.aJ T.bt (show 1 < 1000 by decide) (λp hp=>?_));let np:p≠x:=λz=>by rw[z,aa] at hp;cases hp
 show(IB _ dx _ ((ag (ψ np)).trans aa) T.aJ T.dw (show 2 < 1000 by decide) ?_);let ntl:t≠l:=λz=>by rw[ag nt,z,aa] at ht;cases ht
 let npt:p≠t:=λz=>by rw[ag np,z,aa] at hp;cases hp
 let npl:p≠l:=λz=>by rw[ag np,ag npt,z,ag nl,aa] at hp;cases hp
 let ht0:H t=none:=by rw[ag nt,ag ntl] at ht;show ht
 let hp0:H p=none:=by rw[ag np,ag npt,ag np,ag npl] at hp;show hp
 let m:x∈[x]:=by simp
 show q l t p _ hl ht0 hp0 ?_ ⟨⟨dx,aa⟩,(ϡ ([]) ?_ (Ϡ _) (λz=>rfl)),(ϡ ([]) ?_ (Ϡ _) (λz=>rfl)),(ϡ ([]) ?_ (Ϡ _) (λz h=>(by cases h))),ψ nl,ψ nt,ψ np,ψ ntl,ψ npl,ψ npt⟩
 ·show(ϛ.new hl).trans ((ϛ.upd m (bA ((ag (ψ nl)).trans hx))).trans ((ϛ.new ht).trans ((ϛ.upd m (bA ((ag (ψ nt)).trans aa))).trans ((ϛ.new hp).trans (ϛ.upd m (bA ((ag (ψ np)).trans aa)))))))
 ·show(ag nl).trans ((ag (ψ npl)).trans ((ag nl).trans ((ag (ψ ntl)).trans ((ag nl).trans aa))))
 ·show(ag nt).trans ((ag (ψ npt)).trans ((ag nt).trans aa))
 ·show(ag np).trans aa
def gh:T.gL.O P w mg base 1 (CO a.f9):=by
 walk_at "h ok gL Aj R r S n";(revert h;show SS λl t p=>v0 λZ M R q=>?_);show(Λ _ (af (ao (qG (R0 hr) (ax K Ϯ) ϶ ah ⟨rfl,rfl,rfl,rfl⟩))) ?_);obtain⟨dx,hr⟩:=R.30;(show ϱ R.NT λϓ hl hk hv=>?_);show(ϰ _ dx _ hr T.aJ T.cG (Λ _ (mF l t p) (ϡ l rfl (.inl ⟨ϓ,.inl hl⟩) (Λ _ (MG.k (k:=.inr n) hl) ?_))));rw[hv n];cases e:M.L n with
 | none=>rw[e] at q;show q
 | some z=>rw[e] at q;show q
def lT:T.m9.O P w mg base 1 (CP a.f9):=by
 walk_at "h ok m9 Ak R r S n";(revert h;show SS λl t p=>v0 λZ M R q=>?_);show(Λ _ (af (ao (qG (R0 hr) (ax K Ϯ) ϶ ah ⟨rfl,rfl,rfl,rfl⟩))) ?_);obtain⟨dx,hr⟩:=R.30;(show ϱ R.las λϓ ht hk hv=>?_);show(ϰ _ dx _ hr T.aJ T.bt (Λ _ (fL l t p) (ϡ t rfl (.inl ⟨ϓ,.inl ht⟩) (Λ _ (MG.k (k:=.inr n) ht) ?_))));rw[hv n];cases e:M.L n with
 | none=>rw[e] at q;show q
 | some z=>rw[e] at q;show q
def dG:T.dZ.O P w mg base 3 (CQ a.f9):=by
 walk_at "h ok dZ EH R r S n";(revert h;show SS λl t p=>MM λZ M R e q=>?_);show(Λ _ (af (aQ (aw (tZ (R0 hr)) ϶ (ax K Ϯ) (by rfl)) (af dS) au)) ?_);obtain⟨dx,hr⟩:=R.30;(show ϱ R.NT λϓ hl hk hv=>?_);obtain⟨v,e⟩:=db.mp e;show(ϰ _ dx _ hr T.aJ T.cG (Λ _ (mF l t p) (Fp (MG.k (k:=.inr n) hl) ?_)));rw[hv n,e];show q
def iw:T.i7.O P w mg base 4 (zx a.f9):=by
 walk_at "h ok i7 DV R r S n I k";(revert h;show SS λl t p=>MM λZ M R e q=>?_)
 show(Λ _ (ae (av (aZ Ϯ T.aJ T.dZ (dG T) hr ν (am ϶)))
   (af (aQ (aw (eA (hU hr)) wv (ak K hr (ax K Ϯ) ϶) (ϧ _)) (af dS) au))) ?_)
 obtain⟨dx,hr⟩:=R.30;(show ϱ R.NT λk1 hl hk1 v1=>?_);let g1:MG H l (.str n) (!.int k):=by have:=MG.k (k:=.inr n) hl;rw[v1 n,e] at this;show this
 show(ϕ dx _ hr rfl (Wq l t p Z M R (by rw[e];rfl) (ϰ _ dx _ hr T.aJ T.cG (Λ _ (mF l t p) (ay g1 ?_)))));lia;rw[Φ ∅];show q
def lV:T.m8.O P w mg base 4 (CU a.f9):=by
 walk_at "h ok m8 lJ R r S n I k";(revert h;show SS λl t p=>P9 λZ M R e c q=>?_)
 show(Λ _ (ae (av (aZ Ϯ T.aJ T.dZ (dG T) hr ν (am ϶)))
   (ae (aG 3 lJ (aM (aX) (ak K hr (ax K Ϯ) ϶) ah))
   (ae (aQ (aw la wv MN (ϧ _)) (af dS) au)
   (ae (aQ (aw (bp (hU hr)) wv MN (ϧ _)) (af (ao jh)) au) dO)))) ?_)
 obtain⟨dx,hr⟩:=R.30;(show ϱ R.las λk2 ht hk2 v2=>?_);obtain⟨v,ev⟩:=db.mp e;let g1:MG H t (.str n) (!.int (M.T n)):=by have:=MG.k (k:=.inr n) ht;rw[v2 n,ev] at this;show this
 show(ϕ dx _ hr rfl (Wq l t p Z M R e (ϰ _ dx _ hr T.aJ T.bt (Λ _ (fL l t p) (ay g1 ?_)))));lia;rw[Φ (by simp;lk)];rw[γ (ϝ c)];show q
def pX:T.sj.O P w mg base 4 (CV a.f9):=by
 walk_at "h ok sj pP R r S n I k I x I y";(revert h;show Vs λl t p Z M R e c hz hZ q=>?_)
 show(Λ _ (ae (av (aZ Ϯ T.aJ T.dZ (dG T) hr ν (am ϶)))
   (ae (aG 5 pP (aM (aX) (ak K hr (ax K Ϯ) ϶) ah))
   (ae (aQ (aw la wv (pv 5) (ϧ _)) dO au)
   (ae (aQ (aw dU wv (pv 5) (ϧ _)) dO au)
   (ae (cz wv (cM (ax K Ϯ) ϶ (bL (R0 hr))))
   (af (cz (qC (vn) (aM (aX) (ak K hr (ax K Ϯ) ϶) (aU (am (bf (eC MN (pv 4)))))) (qi (IK EV (bD T.wm))) A4) (cM (ax K Ϯ) ϶ (bL (R0 hr)))))))))) ?_)
 obtain⟨dx,hr⟩:=R.30;(show ϱ R.NT λk1 hl hk1 v1=>?_);(show ϱ R.las λk2 ht hk2 v2=>?_);(show ϱ R.spo λk3 hp hk3 v3=>?_);obtain⟨v,ev⟩:=db.mp e;(show RA (v3 n e) λqa xs hq1 Sh h8 hqz=>?_);let g1:MG H t (.str n) (!.int (M.T n)):=by have:=MG.k (k:=.inr n) ht;rw[v2 n,ev] at this;show this
 walk_at "e2";show(ϕ dx _ hr rfl (Wq l t p Z M R e (ϰ _ dx _ hr T.aJ T.bt (Λ _ (fL l t p) (ay g1 ?_)))));walk_at "ey";rw[Φ (by simp;lk)];lia;rw[Φ (by simp;lk)];walk_at "ex";show(ϰ _ dx _ hr T.aJ T.bt (Λ _ (fL l t p) (cu (Qc.k (k:=.inr n) ht (ό hk2 (ό hz "!"))) ?_)));let c1:ϛ [t] H (upd H t (.dK (putK k2 (.inr n) (.int k)))):=ϛ.upd ∅ (cP ht);let a1:upd H t (.dK (putK k2 (.inr n) (.int k))) t=!.dK (putK k2 (.inr n) (.int k)):=aa;generalize upd H t (.dK (putK k2 (.inr n) (.int k)))=H1 at c1 a1 ⊢;walk_at "es";let Um:=c1.keep _ _ hp (n1 (ψ R.tp));let OW:=c1.keep _ _ hr (n1 R.rt);let g3:MG H1 p (.str n) (!.ref qa):=by have:=MG.k (k:=.inr n) Um;rw[hq1] at this;show this
 show(ϰ _ dx _ OW T.aJ T.dw (Λ _ (qW l t p) (ay g3 ⟨"!",λu hu=>⟨"!",λb hb=>?_⟩⟩)));let s2:Ω H1 (upd (upd H1 u (.tup [V.int x,V.int y])) b (.lst [V.ref u])):=(Ω.upd hu).trans (Ω.upd hb);let hb2:upd (upd H1 u (.tup [V.int x,V.int y])) b (.lst [V.ref u]) b=!.lst [V.ref u]:=aa;generalize upd (upd H1 u (.tup [V.int x,V.int y])) b (.lst [V.ref u])=H2 at s2 hb2 ⊢;show A8 (.inl (.inl (s2 _ _ (c1.keep _ _ Sh (n1 (bO Sh ht (by intro z;cases z))))))) (.inl (.inl hb2)) (ο (NJ h8) "!") λe1 he1=>?_;generalize hU:upd H2 e1 _=H3;let s3:=hU▸Ω.upd he1;show(Λ _ rfl (yV (.inl (.inl (hU▸aa))) λe2 he2=>?_));let l4:(S0 (xs++[V.ref u]) (!-8) none).4<=8:=by rw[CW,NF];lk
 generalize S0 (xs++[V.ref u]) (!-8) none=ys at l4 ⊢;let s14:=(s2.trans s3).trans (Ω.upd (o:=.lst ys) he2);let a4:upd H3 e2 (.lst ys) e2=!.lst ys:=aa;generalize upd H3 e2 (.lst ys)=H4 at s14 a4 ⊢;let he0:H e2=none:=by
  let h1:=aP (s2.trans s3) he2;cases z:H e2 with
  | none=>rfl
  | some o=>
   by_cases et:e2=t
   ·rw[et,a1] at h1;cases h1
   ·rw[c1.keep _ _ z (n1 et)] at h1;cases h1
 show(ϰ _ dx _ (s14 _ _ OW) T.aJ T.dw (Λ _ (qW l t p) (cu (Qc.k (k:=.inr n) (s14 _ _ Um) (ό hk3 (ό hz "!"))) ?_)));let c5:ϛ [p] H4 (upd H4 p (.dK (putK k3 (.inr n) (.ref e2)))):=ϛ.upd ∅ (cP (s14 _ _ Um));let cA:ϛ [t,p] H (upd H4 p (.dK (putK k3 (.inr n) (.ref e2)))):=(c1.mono ∅).trans ((ϛ.of_same s14).trans (c5.mono ∅));show q _ cA ⟨⟨dx,c5.keep _ _ (s14 _ _ OW) (n1 R.rp)⟩,(ϡ k1 (c5.keep _ _ (s14 _ _ (c1.keep _ _ hl (n1 R.lt))) (n1 R.lp)) (ϋ hk1) v1),(ϡ _ (c5.keep _ _ (s14 _ _ a1) (n1 R.tp)) ?_ (λz=>?_)),(ϡ _ aa ?_ (λz hzz=>?_)),R.rl,R.rt,R.rp,R.lt,R.lp,R.tp⟩
 ·have:=bP k2 (.inr n) (.int k)
  show(putK k2 (.inr n) (.int k)).4<=M.sz+1;lk
 ·rw[dB]
  change _=(M.L z).map λ_=>V.int (if z=n then k else M.T z)
  by_cases ez:z=n
  ·subst ez
   rw[γ rfl,γ rfl,ev];rfl
  ·rw[Φ (λh=>ez (At h)),Φ ez]
   show v2 z
 ·have:=bP k3 (.inr n) (.ref e2)
  show(putK k3 (.inr n) (.ref e2)).4<=M.sz+1;lk
 ·rw[dB]
  by_cases ez:z=n
  ·subst ez
   rw[γ rfl];show(Fk e2 ys rfl (c5.keep _ _ a4 (n1 λw=>by rw[w,hp] at he0;cases he0)) l4 (λm=>?_));obtain⟨o,ho⟩:=hZ e2 m;rw[he0] at ho;cases ho
  ·rw[Φ (λh=>ez (At h))]
   (show RA (v3 z hzz) λqz zs z1 z2 z3 z4=>?_);show(Fk qz zs z1 (cA.keep _ _ z2 ?_) z3 z4);simp;show⟨bO z2 ht (by intro z;cases z),bO z2 hp (by intro z;cases z)⟩
def pY:T.si.O P w mg base 2 (CL a.f9):=by
 walk_at "h ok si pO R r S n";(revert h;show SS λl t p=>Qz λZ M R hz acT hZ q=>?_)
 show(Λ _ (ae (aG 2 pO (aM (aX) (aZ Ϯ T.aJ T.gL (gh T) hr ν (am ϶)) ah))
   (ae (cz wv (cM (ax K Ϯ) ϶ (bL (R0 hr))))
   (ae (aQ (aw (bp (hU hr)) wv ah (ϧ _)) (ae (cz ah (cM (ax K Ϯ) ϶ (bL (R0 hr))))
   (af (cz (aU cX) (cM (ax K Ϯ) ϶ (bL (R0 hr)))))) au)
   (af (ao (bf (eC wv (ak K hr (ax K Ϯ) ϶)))))))) ?_)
 obtain⟨dx,hr⟩:=R.30;(show ϱ R.NT λk1 hl hk1 v1=>?_);(show ϱ R.las λk2 ht hk2 v2=>?_);(show ϱ R.spo λk3 hp hk3 v3=>?_);walk_at "e2";show(ϕ dx _ hr rfl (Yt l t p Z (Λ M R (ϰ _ dx _ hr T.aJ T.cG (Λ _ (mF l t p) (cu (Qc.k (k:=.inr n) hl (ό hk1 (ό hz "!"))) ?_))))));let c1:ϛ [l] H (upd H l (.dK (putK k1 (.inr n) (.int ((M.L n).getD 0+1))))):=ϛ.upd ∅ (cP hl);let a1:upd H l (.dK (putK k1 (.inr n) (.int ((M.L n).getD 0+1)))) l=!.dK (putK k1 (.inr n) (.int ((M.L n).getD 0+1))):=aa;let z1:(putK k1 (.inr n) (.int ((M.L n).getD 0+1))).4<=M.sz+1:=by have:=bP k1 (.inr n) (.int ((M.L n).getD 0+1));lk
 let w1:∀z,lc (putK k1 (.inr n) (.int ((M.L n).getD 0+1))) (.inr z)=((M.GM n).L z).map V.int:=λz=>by
  rw[dB];change _=(if z=n then some ((M.L n).getD 0+1) else M.L z).map V.int
  by_cases ez:z=n
  ·subst ez;rw[γ rfl,γ rfl];rfl
  ·rw[Φ (λh=>ez (At h)),Φ ez];show v1 z
 generalize putK k1 (.inr n) (.int ((M.L n).getD 0+1))=kk1 at c1 a1 z1 w1 ⊢;generalize upd H l (.dK kk1)=H1 at c1 a1 ⊢;walk_at "ex";let OW:=c1.keep _ _ hr (by simp;show R.rl);let ht1:=c1.keep _ _ ht (by simp;show ψ R.lt);let Um:=c1.keep _ _ hp (by simp;show ψ R.lp);let new:∀b,H1 b=none->H b=none:=λb hb=>by
  cases z:H b with
  | none=>rfl
  | some o=>
   by_cases et:b=l
   ·rw[et,a1] at hb;cases hb
   ·rw[c1.keep _ _ z (by simp;show et)] at hb;cases hb
 let isl:∀z,z≠n->((M.GM n).L z).12=true->(M.L z).12=true:=λz ez h=>by
  let h':(if z=n then some ((M.L n).getD 0+1) else M.L z).12=true:=h;rw[Φ ez] at h';show h'
 cases ev:M.L n with
 | some v=>
  let hv:=acT v ev;rw[ev] at q;let e0:¬(!v).getD 0+1=1:=by show ¬v+1=1;lk
  let e0':¬(M.L n).getD 0=0:=by rw[ev];change ¬v=0;lk
  let eT:∀z,(M.GM n).T z=M.T z:=λz=>by
   show(if z=n then(if (M.L n).getD 0=0 then 0 else M.T n) else M.T z)=M.T z
   by_cases ez:z=n
   ·rw[γ ez,Φ e0',ez]
   ·rw[Φ ez]
  rw[Φ (by simp only[PZ];show e0)];walk_at "es";let g1:MG H1 t (.str n) (!.int (M.T n)):=by have:=MG.k (k:=.inr n) ht1;rw[v2 n,ev] at this;show this
  show(ϰ _ dx _ OW T.aJ T.bt (Λ _ (fL l t p) (ay g1 ⟨"!",λu hu=>?_⟩)));let s2:Ω H1 (upd H1 u (.tup [V.int ((!v).getD 0+1),V.int (M.T n)])):=Ω.upd hu;show q u _ ((c1.mono ∅).trans (ϛ.of_same s2)) ⟨⟨dx,s2 _ _ OW⟩,(ϡ _ (s2 _ _ a1) z1 w1),(ϡ k2 (s2 _ _ ht1) (ϋ hk2) (λz=>?_)),(ϡ k3 (s2 _ _ Um) (ϋ hk3) (λz hzz=>?_)),R.rl,R.rt,R.rp,R.lt,R.lp,R.tp⟩ (new u hu) (by rw[eT];show aa)
  ·rw[eT,v2 z]
   change _=(if z=n then some ((M.L n).getD 0+1) else M.L z).map _
   by_cases ez:z=n
   ·rw[γ ez,ez,ev];rfl
   ·rw[Φ ez]
  ·let hz0:(M.L z).12=true:=by
    by_cases ez:z=n
    ·rw[ez,ev];rfl
    ·show isl z ez hzz
   (show RA (v3 z hz0) λqz zs y1 y2 y3 y4=>?_);show(Fk qz zs y1 (s2 _ _ (c1.keep _ _ y2 (n1 (bO y2 hl (by intro z;cases z))))) y3 y4)
 | none=>
  rw[ev] at q;let e0':(M.L n).getD 0=0:=by rw[ev];rfl
  rw[γ (show decide ((none:Option Int).getD 0+1=1)=true from rfl)];show(ϰ _ dx _ OW T.aJ T.bt (Λ _ (fL l t p) (cu (Qc.k (k:=.inr n) ht1 (ό hk2 (ό hz "!"))) ⟨Ϡ _,?_⟩)));let c2:ϛ [t] H1 (upd H1 t (.dK (putK k2 (.inr n) (.int 0)))):=ϛ.upd ∅ (cP ht1);let a2:upd H1 t (.dK (putK k2 (.inr n) (.int 0))) t=!.dK (putK k2 (.inr n) (.int 0)):=aa;generalize upd H1 t (.dK (putK k2 (.inr n) (.int 0)))=H2 at c2 a2 ⊢;let hr2:=c2.keep _ _ OW (by simp;show R.rt);let W6:=c2.keep _ _ Um (by simp;show ψ R.tp)
  let akZ:∀b,H2 b=none->H b=none:=λb hb=>new b (by
   cases z:H1 b with
   | none=>rfl
   | some o=>
    by_cases et:b=t
    ·rw[et,a2] at hb;cases hb
    ·rw[c2.keep _ _ z (by simp;show et)] at hb;cases hb)
  show λb hb=>?_;let s3:Ω H2 (upd H2 b (.lst [])):=Ω.upd hb;let a3:upd H2 b (.lst []) b=!.lst []:=aa;generalize upd H2 b (.lst [])=H3 at s3 a3 ⊢;let hb0:=akZ b hb;show(ϰ _ dx _ (s3 _ _ hr2) T.aJ T.dw (Λ _ (qW l t p) (cu (Qc.k (k:=.inr n) (s3 _ _ W6) (ό hk3 (ό hz "!"))) ?_)));let c4:ϛ [p] H3 (upd H3 p (.dK (putK k3 (.inr n) (.ref b)))):=ϛ.upd ∅ (cP (s3 _ _ W6));let a4:upd H3 p (.dK (putK k3 (.inr n) (.ref b))) p=!.dK (putK k3 (.inr n) (.ref b)):=aa;generalize upd H3 p (.dK (putK k3 (.inr n) (.ref b)))=H4 at c4 a4 ⊢;walk_at "es";let hr4:=c4.keep _ _ (s3 _ _ hr2) (by simp;show R.rp);let ht4:=c4.keep _ _ (s3 _ _ a2) (by simp;show R.tp)
  let ao9:∀c,H4 c=none->H c=none:=λc hc=>akZ c (aP s3 (by
   cases z:H3 c with
   | none=>rfl
   | some o=>
    by_cases et:c=p
    ·rw[et,a4] at hc;cases hc
    ·rw[c4.keep _ _ z (by simp;show et)] at hc;cases hc))
  let g1:MG H4 t (.str n) (!.int 0):=by have:=MG.k (k:=.inr n) ht4;rw[dB,γ rfl] at this;show this
  show(ϰ _ dx _ hr4 T.aJ T.bt (Λ _ (fL l t p) (ay g1 ⟨"!",λu hu=>?_⟩)));let s5:Ω H4 (upd H4 u (.tup [V.int (none.getD 0+1),V.int 0])):=Ω.upd hu;let cA:ϛ [l,t,p] H (upd H4 u (.tup [V.int (none.getD 0+1),V.int 0])):=(((c1.mono ∅).trans (c2.mono ∅)).trans (ϛ.of_same s3)).trans ((c4.mono ∅).trans (ϛ.of_same s5));show q u _ cA ⟨⟨dx,s5 _ _ hr4⟩,(ϡ _ (s5 _ _ (c4.keep _ _ (s3 _ _ (c2.keep _ _ a1 (by simp;show R.lt))) (by simp;show R.lp))) z1 w1),(ϡ _ (s5 _ _ ht4) ?_ (λz=>?_)),(ϡ _ (s5 _ _ a4) ?_ (λz hzz=>?_)),R.rl,R.rt,R.rp,R.lt,R.lp,R.tp⟩ (ao9 u hu) ?_
  ·have:=bP k2 (.inr n) (.int 0)
   show(putK k2 (.inr n) (.int 0)).4<=M.sz+1;lk
  ·rw[dB]
   change _=(if z=n then some ((M.L n).getD 0+1) else M.L z).map λ_=>V.int (if z=n then(if (M.L n).getD 0=0 then 0 else M.T n) else M.T z)
   by_cases ez:z=n
   ·subst ez;rw[γ rfl,γ rfl,γ rfl,γ e0'];rfl
   ·rw[Φ (λh=>ez (At h)),Φ ez,Φ ez];show v2 z
  ·have:=bP k3 (.inr n) (.ref b)
   show(putK k3 (.inr n) (.ref b)).4<=M.sz+1;lk
  ·rw[dB]
   by_cases ez:z=n
   ·subst ez
    rw[γ rfl];show(Fk b ([]) rfl (s5 _ _ (c4.keep _ _ a3 (by simp;show λw=>by rw[w,hp] at hb0;cases hb0))) (Ϡ _) (λm=>?_));obtain⟨o,ho⟩:=hZ b m;rw[hb0] at ho;cases ho
   ·rw[Φ (λh=>ez (At h))]
    (show RA (v3 z (isl z ez hzz)) λqz zs y1 y2 y3 y4=>?_);show(Fk qz zs y1 (cA.keep _ _ y2 ?_) y3 y4);simp;show⟨bO y2 hl (by intro z;cases z),bO y2 ht (by intro z;cases z),bO y2 hp (by intro z;cases z)⟩
  ·change _=!(HO.tup [V.int (none.getD 0+1),V.int (if n=n then(if (M.L n).getD 0=0 then 0 else M.T n) else M.T n)])
   rw[γ rfl,γ e0'];show aa
def AG:T.Eg.O P w mg base 1 xg:=by
 walk_at "h ok Eg KQ S z";obtain⟨hv,q⟩:=h;show(Λ _ (af (ao (fH (aF (bF) (by rfl) T.cR Nw (eC Ϯ (iy (v:=.ty "str") rfl T.pH RP rfl))) (fG (cq (lh (R0 hr)) Ϯ (ua T.IH) (by rfl)))))) ?_);walk1;show λp hp=>yU (.inr (hp H)) rfl rfl ?_;rw[show inV (.str z) [V.str "table",V.str "stream"]=true by rcases hv with rfl | rfl<;>decide +kernel];show q
def yt:T.Ax.O P w mg base 3 vw:=by
 walk_at "h ok Ax Jn R t";(revert h;show Nq λx h μ q=>?_;obtain ⟨⟨n1,n2,n3⟩,⟨r1,r2⟩,hk⟩:=μ)
 show(Λ _ (ae (aQ (PW.pt (qx (d8 (bg (aF (bF) (by rfl) T.cR Nw (eC Ϯ (iy (v:=.ty "tuple") rfl T.IG boot_tuple rfl))) (by intro _;rfl))) (k7 (aw (eA (hU hr)) (aF (a9) (by rfl) T.dz zn (am Ϯ)) ah (ϧ _))))) (af (ao cS)) au)
   (af (ao (fH (ar T.uU (sG T) hr ν (am (ak K hr Ϯ ah))) (fH (ar T.r6 (pI T) hr ν (aj (ak K hr Ϯ ah) (eC ah (bD T.yp)))) (fG (ar T.Eg (AG T) hr ν (am (ak K hr Ϯ ah))))))))) ?_)
 walk1;rw[sW h];walk1;show J9 (Of.of h) ?_;walk1;show bc (Of.of h) rfl ?_;walk1;show⟨⟨n1,n2,OO.mp n3⟩,λH' s=>bc (Of.of (s _ _ h)) rfl ?_⟩;walk1;show⟨(),(),bc (Of.of (s _ _ h)) rfl ?_⟩;walk1;show⟨hk,q H' s⟩
def sJ:T.tF.O P w mg base 4 pL:=by
 walk_at "h ok tF Gv R p";(revert h;show Nq λxs hl ok q=>?_)
 show(Λ _ (ae (aQ (PW.pt (qx (d8 (bg (aF (bF) (by rfl) T.cR Nw (eC Ϯ (iy (v:=.ty "list") rfl T.gb N0 rfl))) (by intro _;rfl))) (k7 (d8 (wB fJ fJ ah (aF (a9) (by rfl) T.dz zn (am Ϯ)) (bD T.sF)))))) (af (ao cS)) au)
   (ae (aQ (d8 (bg (aF (fz) (by rfl) T.uW Wk (am (cZ ["thing"] ["thing"] (Ο eP) (s!"c") (bb Ϯ) (λC₁ s₁ H₁ f₁=>(ar T.Ax (yt T) hr ν (am Ϯ)))))) (by intro _;rfl))) (af (ao cS)) au)
   (af (ao (cq (bp (hU hr)) (Co rfl rfl T.dz rfl T.LX (cZ ["thing"] ["thing"] (Ο eP) (s!"c") (bb Ϯ) (λC₁ s₁ H₁ f₁=>(ak K hr Ϯ ah)))) (aF (a9) (by rfl) T.dz zn (am Ϯ)) (ϧ _)))))) ?_)
 (show ι (id hl) λts e hT=>?_);let o1:=ok.lo;let o2:=ok.hi;let hlen:ts.4=xs.4:=by rw[hT.4,Θ]
 walk1;rw[mv e];walk1;show cO (.inl (.inl e)) ?_;rw[Θ,hlen];walk1;rw[γ (show(1:Int)<=(xs.4:Int) by lk),Φ ()];let hsl:(xs.map PN.v).4<=sizeLine:=by rw[Θ];show ο o2 "!"
 show bS (.inl (.inl e)) (ll hl hsl (λ_=>.bl true) ?_ ?_)
 ·intro t ys H' hy s ht Qe qe
  (show ι (ω.mp hy) λx hx μ=>?_;subst μ);show(ϡ x ht (ok.each x hx) (λOP s'=>qe OP s'))
 ·intro D H1 hD s1 h1
  show nS (bs:=(xs.map PN.v).map λ_=>true) (.inl (.inl (by rw[h1];simp))) ?_;rw[show(((xs.map PN.v).map λ_=>true).all id)=true by simp];walk1;show bS (.inl (.inl (s1 _ _ e))) (ll (hl.same s1) hsl (it 0) ?_ ?_)
  ·intro t ys H' hy s ht Qe qe
   (show ι (ω.mp hy) λx hx μ=>?_;subst μ);show bc (.inl (.inl ht)) rfl (qe H' (Ω.refl _))
  ·intro D2 H2 hD2 s2 h2
   show(Λ D2 rfl (ϡ (xs.map λx=>S x.59) (.inl (.inl (by rw[h2,ϣ,ϣ];rfl))) (by rw[Θ];lk) (cO (.inl (.inl (s2 _ _ (s1 _ _ e)))) ?_)))
   let en:(Oj (xs.map λx=>S x.59)).4=xs.4:=wZ _ _ ∅ (by
    rw[show(λx:PN=>S x.59)=S∘PN.name from rfl,<-ϣ]
    show List.pairwise_map.mpr (aiq (λh z=>h (tY z)) ok.nd))
   rw[Θ,hlen,en];walk1;show q H2 (s1.trans s2)
def kA:T.lN.O P w mg base 5 (xi a.re):=by
 walk_at "h ok lN yC R x R p";(revert h;show ϭ λdx hx=>Nq λxs hl ok q=>?_)
 show(Λ _ (ae (aQ (d8 (bg (ar T.tF (sJ T) hr ν (am ϶)) (by intro _;rfl))) dO au)
   (af (bu Ϯ (bI (di) rfl T.gb N0 (am ϶)) rfl))) ?_)
 walk1
 ·show(ϡ xs hl ok (λH1 s1=>?_))
  (show ι (hl.same s1) λts e hT=>?_);show nP (.inl (.inl (.inl e))) λl Xl=>?_;let hlx:x≠l:=λz=>by rw[<-z,s1 _ _ hx] at Xl;cases Xl
  show(IB _ dx ([]) ((ag hlx).trans (s1 _ _ hx)) T.bU T.bV "!" (q l _ (s1.free Xl) ?_ ⟨⟨dx,aa⟩,(Λ ts ((ag (ψ hlx)).trans aa) ?_)⟩))
  ·show(ϛ.of_same s1).trans ((ϛ.new Xl).trans (ϛ.upd ∅ (bA ((ag hlx).trans (s1 _ _ hx)))))
  ·show hT.im (A:=[x]) ((ϛ.new Xl).trans (ϛ.upd ∅ (bA ((ag hlx).trans (s1 _ _ hx)))))
def pZ:T.j1.O P w mg base 1 (zp a.re):=by
 walk_at "h ok j1 EG R s";(revert h;show v0 λl xs R q=>?_);show(Λ _ (af (ao (bI (di) rfl T.gb N0 (am (ax K Ϯ))))) ?_);obtain⟨dx,hs⟩:=R.30;(show ι R.28 λts e hT=>?_);show(ϰ _ dx _ hs T.bU T.bV (Λ _ rfl (nP (.inl (.inl (.inl e))) λD hD=>q D _ hD (Ω.upd hD) (Λ ts aa (hT.im (A:=[]) (ϛ.of_same (Ω.upd hD)))))))
def j7:T.fi.O P w mg base 1 (zh a.re):=by
 walk_at "h ok fi yc R s";(revert h;show MM λl xs R hn q=>?_);show(Λ _ (af (ao (aF (nR) (by rfl) T.GU al1 (am (cZ ["self"] ["self"] (Ο dA) (s!"c") (bb (ax K Ϯ)) (λC₁ s₁ H₁ f₁=>(ak K hr Ϯ ah))))))) ?_);walk1;obtain⟨dx,hs⟩:=R.30;(show ι R.28 λts e hT=>?_);show(ϰ _ dx _ hs T.bU T.bV (Λ _ rfl (bS (.inl (.inl e)) (ll R.28 (by rw[Θ];show ο hn "!") (it 1) ?_ ?_))))
 ·intro t ys H' hy s ht Qe qe
  (show ι (ω.mp hy) λx hx μ=>?_;subst μ);show bc (.inl (.inl ht)) rfl (qe H' (Ω.refl _))
 ·intro D H1 hD s1 h1
  show(ϕ D (xs.map λx=>(x.40:Int)) rfl (.inl (.inl (by rw[h1,ϣ,ϣ];rfl))) ?_);let es:(xs.map λx=>(x.40:Int)).76=((Ϩ xs xs.4):Int):=by
   unfold Ϩ;rw[bv];generalize xs=ys
   induction ys with
   | nil=>rfl
   | cons y ys ih=>rw[Ϗ,Ϗ,lm,lm,ih];rfl
  rw[es];show q H1 s1
def lW:T.m5.O P w mg base 3 (qP a.re):=by
 walk_at "h ok m5 dI R s T nm";(revert h;show MM λl xs R ok=>MM λk x hk hxn q=>?_)
 show(Λ _ (ae (aG 2 dI ah)
   (ae (bE Ϛ rfl (bb (ax K Ϯ)) (aE (i:=3) dI.nd rfl (ϵ rfl)) (ae (aQ (aw (bp (hU hr)) (ak K hr MN ah) ϶ (ϧ _)) (af (ao (sX rfl rfl T.gb rfl T.fu (eC wv (aM (aX) wv (ak K hr MN ah)))))) au)
   (af (EN (i:=2) dI.nd rfl (ϵ rfl) (ak K hr MN ah) wN))))
   (af dS))) ?_)
 walk1;obtain⟨dx,hs⟩:=R.30;(show ι R.28 λts e hT=>?_);let hlen:ts.4=xs.4:=by rw[hT.4,Θ]
 let h9:=λy hy=>(ok.each y hy).2.1.2;let o2:=ok.hi;show(ϰ _ dx _ hs T.bU T.bV (Λ _ rfl (bS (.inl (.inl e)) (bY (λi σ H'=>H'=H/\(∀j y,j < i->xs[j]?=!y->y.59≠nm)/\∃v,σ=[!V.ref s,!V.str (S nm),!V.int (Ϩ xs i),v]) ⟨rfl,λj y hj=>absurd hj (Nat.not_lt_zero _),(N' none rfl)⟩ (λi σ H' _ h=>by rw[h.1];show .inl (.inl e)) ?_ ?_))))
 ·rintro i y σ H' hy ⟨rfl,hik,v,rfl⟩
  rw[Ρ] at hy;cases hti:ts[i]? with
  | none=>rw[hti] at hy;cases hy
  | some t=>
   rw[hti] at hy;cases (Ϭ hy);(show ι (hT.get hti) λys h1 h2=>?_);rw[Ρ] at h1;cases Yh:xs[i]? with
   | none=>rw[Yh] at h1;cases h1
   | some y=>
    rw[Yh] at h1;cases (Ϭ h1);let hTt:Of K H' t y.v:=.inl (.inl h2);let hb:=lq h9 i;let hy9:=h9 y (Δ Yh);let ao':=(Α.mp Yh).1;walk1;show bc hTt rfl ?_;walk1;show S8 (λhn=>?_) (λhn=>?_)
    ·let hnn:=hn
     let hki:i=k:=by
      show aqG λhne=>?_;let hkl:=(Α.mp hk).1;let Qw:=(Α.mp Yh).1;rcases Ob hne with h | h
      ·have:=gl.mp ok.nd i k (by rw[Θ];lk) (by rw[Θ];lk) h
       apply this;rw[QR,QR,(Α.mp Yh).2,(Α.mp hk).2,hnn,hxn]
      ·have:=gl.mp ok.nd k i (by rw[Θ];lk) (by rw[Θ];lk) h
       apply this;rw[QR,QR,(Α.mp Yh).2,(Α.mp hk).2,hnn,hxn]
     subst hki;rw[Yh] at hk;cases (Ϭ hk);show bc hTt rfl ?_;walk1;show⟨(),(),(),(),?_,λl hl=>?_⟩
     ·have:(9:Int)<=sizeLine:=by decide
      lk
     ·show q l _ hl (Ω.upd hl) ?_
      rw[aa,show((Ϩ xs i):Int)+(x.40:Int) - ((Ϩ xs i:Nat))=(x.40:Int) by lk,Ϝ]
    ·show bc hTt rfl ?_
     walk1;show⟨λj y' hj hy'=>?_,?_⟩
     ·rcases Nat.lt_or_ge j i with h | h
      ·show hik j y' h hy'
      ·have:j=i:=by lk
       subst this;rw[Yh] at hy';cases (Ϭ hy');show hn
     ·rw[bN Yh]
      push_cast
      rfl
 ·rintro σ H' ⟨rfl,hik,v,rfl⟩
  rw[Θ,hlen] at hik;show absurd hxn (hik k x (Α.mp hk).1 hk)
def jg:T.j2.O P w mg base 3 (zq a.re):=by
 walk_at "h ok j2 cY R s I r";(revert h;show MM λl xs R ok=>P9 λk x hk a1 a2 q=>?_)
 show(Λ _ (ae (aG 2 cY ah)
   (ae (bE Ϛ rfl (bb (ax K Ϯ)) (aE (i:=3) cY.nd rfl (ϵ rfl)) (ae (EN (i:=2) cY.nd rfl (ϵ rfl) (ak K hr MN ah) wN)
   (af (aQ (wB fJ dU ah ϶ wv) (af (ao MN)) au))))
   (af dS))) ?_)
 walk1;obtain⟨dx,hs⟩:=R.30;(show ι R.28 λts e hT=>?_);let hlen:ts.4=xs.4:=by rw[hT.4,Θ]
 show(ϰ _ dx _ hs T.bU T.bV (Λ _ rfl (bS (.inl (.inl e)) (bY (λi σ H'=>H'=H/\(r < 0\/(Ϩ xs i:Int)<=r)/\∃v,σ=[!V.ref s,!V.int r,!V.int (Ϩ xs i),v]) ⟨rfl,?_,(N' none rfl)⟩ (λi σ H' _ h=>by rw[h.1];show .inl (.inl e)) ?_ ?_))))
 ·rcases Int.lt_or_le r 0 with h | h
  ·show .inl h
  ·show .inr (by unfold Ϩ;simpa using h)
 ·rintro i y σ H' hy ⟨rfl,hik,v,rfl⟩
  rw[Ρ] at hy;(show ι (ξ.mp hy) λt hti μ=>?_;subst μ);(show ι (hT.get hti) λys h1 h2=>?_);rw[Ρ] at h1;(show ι (ξ.mp h1) λy Yh μ=>?_;subst μ);let hTt:Of K H' t y.v:=.inl (.inl h2);walk1;show bc hTt rfl ?_;walk1;let Qw:=(Α.mp Yh).1;let nxt:¬(0<=r/\r < (Ϩ xs i)+y.40)->(r < 0\/(Ϩ xs (i+1):Int)<=r)/\(Ϩ xs i:Int)+y.40=(Ϩ xs (i+1):Int):=λz=>by
   rw[bN Yh];constructor
   ·push_cast
    lk
   ·push_cast;rfl
  show S8 (λh0=>S8 (λh1=>?_) (λh1=>nxt (λz=>h1 z.2))) (λh0=>nxt (λz=>h0 z.1))
  ·let ek:=bN hk
   let hki:k=i:=by
    rcases acg k i with h | h | h
    ·have:=lz hk h;lk
    ·show h
    ·have:=lz Yh h;lk
   subst hki;rw[Yh] at hk;cases (Ϭ hk);show q t h2
 ·rintro σ H' ⟨rfl,hik,v,rfl⟩
  rw[Θ,hlen] at hik
  ·let hkl:=(Α.mp hk).1
   have:=lz hk hkl;rw[bN hk] at a2
   push_cast at a2
   lk
def kB:T.lO.O P w mg base 4 (FN 0 a.re):=by
 walk_at "h ok lO yD R s I r";(revert h;show MM λl xs R ok=>P9 λk x hk a1 a2 q=>?_);show(Λ _ (af (ao (ak K hr (aZ Ϯ T.bU T.j2 (jg T) hr ν (am ϶)) ah))) ?_);obtain⟨dx,hs⟩:=R.30;show(ϕ dx _ hs rfl (ϕ l xs R ok (Fk k x hk a1 a2 (λt ht=>bc (Of.of ht) rfl q))))
def lX:T.m6.O P w mg base 4 (qQ a.re):=by
 walk_at "h ok m6 lI R s T nm T key";(revert h;show MM λl xs R ok=>MM λk x hk hxn q=>?_)
 show(Λ _ (ae (aG 3 lI (aZ Ϯ T.bU T.m5 (lW T) hr ν (am ϶)))
   (af (ao (ak K hr MN (ar T.GI (En T) hr ν (eC wv (aF (a9) (by rfl) T.dz zn (am MN)))))))) ?_)
 walk1;obtain⟨dx,hs⟩:=R.30
 ·let hx:=(ok.each x (Δ hk)).2.1
  show(ϕ dx _ hs rfl (ϕ l xs R ok (ϕ k x hk hxn (λD H1 hD s1 h1=>cO (.inl (.inl h1)) ?_))));let el:(T3 (Ϩ xs k) x.40).4=x.40:=by simp[T3]
  rw[el];let h0:0<=YG key % x.40:=A' _ ();let h2:YG key % x.40 < x.40:=Nb _ ();show(ϡ _ rfl () (bx (.inl (.inl h1)) (bj h0 ?_) (q H1 s1)));unfold T3 Uw;rw[Ρ,aal ()]
  rfl
def AH:T.uR.O P w mg base 1 zu:=by
 show T.uR.F.ok1 Ae (s!"d") (λvs H Q E h=>?_) (λNd A outer s H vs Q E hr h=>?_)
 ·apply aTe vs h;intro _ vs h;apply aNe vs h;intro _;rfl
 ·apply aTe vs h;intro a vs h;apply aNe vs h;clear h;rintro⟨hl,q⟩
  show(Λ _ (FO (xk (K:=K) (c:=59) (z:=[126,115]) (s!"d") (s!"d") (s!"d") (xk (K:=K) (c:=126) (z:=[126,119]) (s!"d") (s!"d") (s!"d") (PE.one Ϯ)))) ?_);let e1:(wS [126,119] (GE 126 a)).4<=2 * a.4:=by
   have:wS [126,119] (GE 126 a)=a.flatMap λx=>if x=126 then[126,119] else[x]:=gu _ _ _;rw[this];clear this hl q
   induction a with
   | nil=>show δ _
   | cons x a ih=>
    rw[Qu,Χ,ς]
    by_cases h:x=126
    ·rw[γ h];simp only[ς,ϸ];lk
    ·rw[Φ h];simp only[ς,ϸ];lk
  show(ϡ a rfl ?_ (ϡ _ rfl ?_ ?_))
  ·simp only[ς,ϸ];lk
  ·simp only[ς,ϸ];lk
  ·rw[LM];show q
def uY:T.yi.O P w mg base 2 (CH K):=by
 walk_at "h ok yi Lg R p";(revert h;show Nq λl hp hl q=>?_);show(Λ _ (af (ao (bM PySem.F.plainAttrs_str PySem.F.slot_str_join PySem.F.type_str_join (mw) ai (am (cZ ["fields"] ["fields"] (Ο rK) (s!"c") (bb Ϯ) (λC₁ s₁ H₁ f₁=>(ar T.uR (AH T) hr ν (am Ϯ)))))))) ?_);walk1;let Z:4000000<=sizeLine:=by decide
 let e2:=λx hx=>ο (qS (ω.mpr ⟨x,hx,rfl⟩)) (show(l.map K').76<=1000000 by lk);show bS hp (qJ hp (by unfold tx;rw[Θ];lk) (λv=>match v with | .str (⟨z⟩)=>.str (S (gd z.37)) | x=>x) (λx H' hx s Qe qe=>?_) λD H' hD s1 hd=>?_)
 ·unfold tx at hx
  (show ι (ω.mp hx) λc hc μ=>?_;subst μ);show⟨e2 c hc,qe H' (Ω.refl _)⟩
 ·show(Λ ([59]) (s!"d") (Λ D rfl (ϡ (l.map gd) (.inl (.inl ?_)) ?_ ?_)))
  ·rw[hd];unfold tx;rw[ϣ,ϣ];rfl
  ·have:∀l:-(-Nat),((l.map gd).map K').76<=2 * (l.map K').76:=by
    intro l
    induction l with
    | nil=>show δ _
    | cons x l ih=>have:=vx x;simp only[Ϗ,lm];lk
   have:=this l;simp only[Θ,ς,ϸ];lk
  ·show q _ s1
def Ep:T.GD.O P w mg base 1 Km:=by
 walk_at "h ok GD oo T l";obtain⟨hl,q⟩:=h
 show(Λ _ (ae (aG 1 oo ah)
   (ae (bE Ϛ rfl (bb Ϯ) (aE (i:=2) oo.nd rfl (ϵ rfl)) (af (aG 1 oo (aM EU (aM Ln (aM ET (aM JB ϶ ah) ah) (aM ES ϶ ah)) (aF nQ (by rfl) T.GS al0 (am wv))))))
   (af (ao ϶)))) ?_)
 walk1;show wO (λi σ H'=>H'=H/\∃v,σ=[!.str (S l),!.int (sumF 0 (l.take i)),v]) ⟨rfl,(N' none rfl)⟩ ?_ ?_
 ·rintro i c σ H' hc ⟨rfl,v,rfl⟩
  let Yf:l[i]?=!c:=by simpa using hc
  let hb:sumF 0 (l.take i) < 65536:=Bk (λx hx=>Rq (hl x (RX hx)) "!") "!";walk1;rw[Cy Yf,<-(FL hb)];show⟨(),?_⟩;simp
 ·rintro σ H' ⟨rfl,v,rfl⟩
  let e:l.take (S l).26=l:=by simp
  rw[e];show q
def AI:T.D9.O P w mg base 2 CI:=by
 walk_at "h ok D9 Af K n T b";obtain⟨g,q⟩:=h
 show(Λ _ (ae (aG 2 Af (aU (aj (bM PySem.F.plainAttrs_str PySem.F.slot_str_zfill PySem.F.type_str_zfill qV (bI (fC (K:=K)) rfl T.pH RP (am Ϯ)) (am ah)) (eC (bM PySem.F.plainAttrs_str PySem.F.slot_str_zfill PySem.F.type_str_zfill qV (bI (fC (K:=K)) rfl T.pH RP (am (ar T.GD (Ep T) hr ν (am ϶)))) (am ah)) (bM PySem.F.plainAttrs_str PySem.F.slot_str_zfill PySem.F.type_str_zfill qV (bI (fC (K:=K)) rfl T.pH RP (am (aF (a9) (by rfl) T.dz zn (am ϶)))) (am ah))))))
   (af (ao (aM (aX) (aM (aX) (bM PySem.F.plainAttrs_str PySem.F.slot_str_join PySem.F.type_str_join (mw) ai (am wv)) ai) ϶)))) ?_)
 walk1;let hs:=g.76;let hl:=g.l;let hn:=g.n;let Z:40000<=sizeLine:=by decide
 let z6:=nY (w:=6) "!" g.n;let z5:=nY (w:=5) "!" (Rq g.76 "!");let z4:=nY (w:=4) "!" g.l;show⟨eE () (),(Λ n rfl (UM 6 rfl "!" g.c (eE () ()) (Λ (sumF 0 b) rfl (UM 5 rfl "!" () (eE () ()) (Λ b.4 rfl (MD 4 rfl "!" () (λp hp=>(Λ ([32]) (s!"d") (ϡ ([zf 6 n,zf 5 (sumF 0 b),zf 4 b.4]) (.inl (.inl aa)) ?_ (Λ ([32]) (s!"d") ?_))))))))))⟩
 ·simp only[Ϗ,Po,lm,List.sum_nil,ς,ϸ];lk
 let ej:wS [32] [zf 6 n,zf 5 (sumF 0 b),zf 4 b.4]++[32]=hdL n b:=by
  change zf 6 n++[32]++(zf 5 (sumF 0 b)++[32]++zf 4 b.4)++[32]=_;unfold hdL pfL;simp
 let el:=congrArg K' ej;rw[g.hd,Χ,EQ] at el;rw[ej,g.hd];show⟨?_,(),q _ (Ω.upd hp)⟩;simp only[ς,ϸ];lk
def oI:T.pQ.O P w mg base 1 (zw a.Ql):=by
 walk_at "h ok pQ DR R x";(revert h;show ϭ λdx hx q=>?_);show(Λ _ (af (bu Ϯ (aU cX) rfl)) ⟨"!",λd hd=>?_⟩);let Xo:d≠x:=λz=>by rw[z,hx] at hd;cases hd
 show(IB _ dx ([]) ((ag (ψ Xo)).trans hx) T.gM T.cT "!" (q d _ hd Xo ((ϛ.new hd).trans (ϛ.upd ∅ (bA ((ag (ψ Xo)).trans hx)))) ⟨⟨dx,aa⟩,(ag Xo).trans aa⟩))
def kY:T.mY.O P w mg base 3 (xp a.Ql):=by
 walk_at "h ok mY eO R r R p";(revert h;show QS λl ls act R hp Pm hb=>Nl λhn q=>?_)
 show(Λ _ (ae (aG 2 eO (aM nJ (aF (a9) (by rfl) T.dz zn (am ϶)) ah))
   (ae (bE Ϛ rfl (fk rfl T.cm (am ϶)) (cg rfl (aH (aE (i:=3) eO.nd rfl (ϵ rfl)) (aH (aE (i:=4) eO.nd rfl (ϵ rfl)) b9))) (ae (aG 5 eO (qy (aw (bp (hU hr)) MN wv (ϧ _)) ai ai))
   (af (av (bM PySem.F.plainAttrs_list PySem.F.slot_list_append PySem.F.type_list_append br (ax K Ϯ) (am (ar T.D9 (AI T) hr ν (eC (aF (a9) (by rfl) T.dz zn (am (ax K Ϯ))) (aM (aX) (pv 5) (pv 4))))))))))
   (af (ao (aF (a9) (by rfl) T.dz zn (am (ax K Ϯ))))))) ?_)
 let Z:40000<=sizeLine:=by decide
 walk1;show cO (.inl (.inl hp)) ?_;walk1;let lt:(tx act).4=act.4:=by unfold tx;rw[Θ]
 rw[lt];show⟨⟨_,.inl (.inl hp)⟩,(ki (λi σ H'=>ϛ [l] H H'/\NW a.Ql H' r l (ls++Zz ls.4 ((sgA act).take i))/\∃v1 v2 v3,σ=[!.ref r,!.ref p,!.int (act.4 - 1),v1,v2,v3]) ⟨ϛ.refl _,by simpa [Zz] using R,(UK none none none rfl)⟩ (λi σ H' _ h=>.inl (.inl (h.1.keep _ _ hp (by simpa using Pm)))) ?_ ?_)⟩
 ·rintro i x t σ H' hx ht ⟨c,R',v1,v2,v3,rfl⟩
  unfold tx at hx;rw[Ρ,ξ] at hx;(revert hx;show ϭ λb hbi μ=>?_;subst μ);let hi:=(Α.mp hbi).1;let okb:=hb b (Δ hbi);let sg:=Bm act i b hbi;let c1:ϛ [l] H' (upd H' t (.tup [.int i,.str (S b)])):=ϛ.new ht;let R1:=R'.same (Ω.upd (o:=.tup [.int i,.str (S b)]) ht);let ht1:upd H' t (.tup [.int i,.str (S b)]) t=!.tup [.int i,.str (S b)]:=aa;generalize upd H' t (.tup [.int i,.str (S b)])=H1 at c1 R1 ht1 ⊢;obtain⟨dx,OW⟩:=R1.30;let tl:(ls++Zz ls.4 ((sgA act).take i)).4=ls.4+i:=by
   rw[Χ,mE,eF,gv];lk
  show(Fk t _ rfl (.inl (.inl ht1)) rfl (cr _ _ rfl (ϕ _ _ rfl rfl (OQ λRy Ul=>?_))));walk1
  by_cases hk:(i:Int)=(act.4:Int) - 1
  ·rw[γ hk,Ul]
   clear Ul;walk1;rw[Φ ()] at sg;let R2:=R1.28;show(ϰ _ dx _ OW T.gM T.cT (ϡ _ rfl (.inl ⟨_,.inl (.inl R2)⟩) (ϰ _ dx _ OW T.gM T.cT (Λ _ rfl (cO (.inl (.inl R2)) ?_)))));show(ϡ ([46]) (s!"d") (by have:=okb.2;simp only[ς,ϸ];lk) (ϡ (ls.4+i) ?_ ?_ (λH2 s2=>(Λ l rfl (ϡ _ (s2 _ _ R2) ?_ ?_)))))
   ·unfold tx;rw[Θ,tl]
   ·show⟨(),λx hx=>?_,by have:=okb.2;simp only[Χ,ς,ϸ];lk⟩
    rcases Ξ.mp hx with hx | hx
    ·rw[Ζ.mp hx];decide
    ·show okb.1 x hx
   ·unfold tx;rw[Θ,tl];lk
   ·let XC:=s2 _ _ R2
    show⟨c.trans (c1.trans ((ϛ.of_same s2).trans (ϛ.upd ∅ (cv XC)))),⟨⟨dx,(ag R1.ne).trans (s2 _ _ OW)⟩,?_⟩⟩
    ·rw[aa,qT sg,xm,eF,gv,Ph ()]
     unfold tx;simp
  ·rw[Φ hk,Ul]
   clear Ul;walk1;rw[γ ()] at sg;let R2:=R1.28;show(ϰ _ dx _ OW T.gM T.cT (ϡ _ rfl (.inl ⟨_,.inl (.inl R2)⟩) (ϰ _ dx _ OW T.gM T.cT (Λ _ rfl (cO (.inl (.inl R2)) ?_)))));show(ϡ ([43]) (s!"d") (by have:=okb.2;simp only[ς,ϸ];lk) (ϡ (ls.4+i) ?_ ?_ (λH2 s2=>(Λ l rfl (ϡ _ (s2 _ _ R2) ?_ ?_)))))
   ·unfold tx;rw[Θ,tl]
   ·show⟨(),λx hx=>?_,by have:=okb.2;simp only[Χ,ς,ϸ];lk⟩
    rcases Ξ.mp hx with hx | hx
    ·rw[Ζ.mp hx];decide
    ·show okb.1 x hx
   ·unfold tx;rw[Θ,tl];lk
   ·let XC:=s2 _ _ R2
    show⟨c.trans (c1.trans ((ϛ.of_same s2).trans (ϛ.upd ∅ (cv XC)))),⟨⟨dx,(ag R1.ne).trans (s2 _ _ OW)⟩,?_⟩⟩
    ·rw[aa,qT sg,xm,eF,gv,Ph ()]
     unfold tx;simp
 ·rintro σ H' ⟨c,R',v1,v2,v3,rfl⟩
  walk1;obtain⟨dx,OW⟩:=R'.30;show(ϰ _ dx _ OW T.gM T.cT (Λ _ rfl (cO (.inl (.inl R'.28)) ?_)));rw[show(sgA act).take (tx act).4=sgA act by rw[lt,<-gv,bv]] at R' ⊢;let e:(tx (ls++Zz ls.4 (sgA act))).4=ls.4+act.4:=by unfold tx;rw[Θ,Χ,mE,gv]
  rw[e];show q _ c R'
def kZ:T.mZ.O P w mg base 1 (Kr K):=by
 walk_at "h ok mZ G1 R A R t";(revert h;show Qz λe s hA ht h1 h2 q=>?_);show(Λ _ (af (ao (cq dU (ak K hr ϶ ah) (ak K hr Ϯ (ak K hr ϶ ah)) (ϧ _)))) (bc (.inl (.inl ht)) rfl (bc (.inl (.inl ht)) rfl (bx hA (bj h1 (Ia h1 h2)) ?_))));show q
def lY:T.m4.O P w mg base 2 (Ks K):=by
 walk_at "h ok m4 lG R A R l";(revert h;show P9 λe MT hA hl lu q=>?_)
 show(Λ _ (ae (bE Ϛ rfl (bb ϶) (aE (i:=2) lG.nd rfl (ϵ rfl)) (af (aQ (d8 (bg (ar T.mZ (kZ T) hr ν (eC Ϯ wv)) (by intro _;rfl))) (af (ao (ak K hr wv ah))) au)))
   (af (ao jh))) ?_)
 walk1;(show ϱ (hl.at (K:=K)) λts sq tl tg=>?_);rw[Θ] at tl;show bS sq (bY (λi σ H'=>H'=H/\(∀s∈MT.take i,Q2 e s=true)/\∃v,σ=[!V.ref A,!V.ref l,v]) ⟨rfl,∅,(N' none rfl)⟩ (λi σ H' _ z=>by rw[z.1];show sq) ?_ ?_)
 ·rintro i x σ H' hx ⟨rfl,hb,v,rfl⟩
  (show Nm (tg i x hx) λt r μ hr' ht=>?_;subst μ);rw[Ρ] at hr';(show ι (ξ.mp hr') λs hs μ=>?_;subst μ);let hm:=Δ hs;(show sw (lu s hm) λo1 o2 _=>?_);walk1;show(Λ e hA (MD s ht o1 o2 ?_));let XA:MT.take (i+1)=MT.take i++[s]:=by rw[Ϲ,hs];rfl
  cases cb:Q2 e s with
  | false=>
   show bc (.inl (.inl ht)) rfl (q (!s.1) (.inr (ϡ s hm rfl cb)))
  | true=>
   intro s' Vh;rw[XA] at Vh;rcases Ξ.mp Vh with h | h
   ·show hb s' h
   ·simp only[Κ,Μ,χ] at h
    subst h;show cb
 ·rintro σ H' ⟨rfl,hb,v,rfl⟩
  show q none (.inl ⟨rfl,λs hs=>hb s (by rw[Θ,tl,bv];show hs)⟩)
def yu:T.BF.O P w mg base 2 FV:=by
 walk_at "h ok BF Gu R A R B I dd R l V z5";(revert h;show ϭ λot μ=>aef λIN e0 e P x hA hB hl nAB nlA nlB=>RY λlu ch W5 hdd hx=>Nl λhot q=>?_;subst μ)
 show(Λ _ (af (bE Ϛ rfl (bb MN) (aE (i:=5) Gu.nd rfl (ϵ rfl)) (af (aQ (bg (ar T.mZ (kZ T) hr ν (eC Ϯ (pv 5))) (by intro _;rfl)) (ae (cz (ak K hr (pv 5) ah) (cM Ϯ (ak K hr (pv 5) ah) (bL (R0 hr))))
   (af (av (bM PySem.F.plainAttrs_list PySem.F.slot_list_append PySem.F.type_list_append br ϶ (am (bf (aj (ak K hr (pv 5) ah) (aj (ak K hr (pv 5) ah) (eC wv (pv 4)))))))))) au)))) ?_)
 walk1;(show ϱ (hl.at (K:=K)) λts sq tl tg=>?_);rw[Θ] at tl;let hl0:=hl;(revert hl;show ϭ λts' hls YK=>?_);let kl:∀H',ϛ [A,B] H H'->ϲ H' l (x.2.map acX):=λH' c=>hl0.im c (by simp[nlA,nlB]);let kq:∀H',ϛ [A,B] H H'->G' K H' l (ts.map V.ref):=λH' c=>by
  rcases sq with(z | ⟨od,z⟩) | z
  ·show .inl (.inl (c.keep _ _ z (by simp[nlA,nlB])))
  ·show .inl (.inr ⟨od,c.keep _ _ z (by simp[nlA,nlB])⟩)
  ·show .inr z
 show bS sq (bY (λi σ H'=>ϛ [A,B] H H'/\(∃e' P',H' A=!.lst (e'.map V.int)/\ϲ H' B (P'.map XI)/\Pas IN e0 e P e' P'/\∀s∈x.2.take i,Q2 e' s=false)/\∃v,σ=[!V.ref A,!V.ref B,!V.int dd,!V.ref l,!oV ot,v])
  ⟨ϛ.refl _,(Fk e P hA hB (.refl ch) ∅),(N' none rfl)⟩ (λi σ H' _ z=>kq _ z.1) ?_ ?_)
 ·rintro i y σ H' hy ⟨c,⟨e',P',hA',hB',ps,hn⟩,v,rfl⟩
  (show Nm (tg i y hy) λt r μ hr' ht0=>?_;subst μ);let ht:=c.tup _ _ ht0;rw[Ρ] at hr';(show ι (ξ.mp hr') λs hs μ=>?_;subst μ);let hm:=Δ hs;let el:=ps.le.1;(show sw (lu s hm) λo1 o2 o3=>?_);let XA:x.2.take (i+1)=x.2.take i++[s]:=by rw[Ϲ,hs];rfl
  show aht λRa hRa Rb hRb=>?_;walk1;show(Λ e' (.inl (.inl hA')) (MD s ht o1 (by rw[el];show o2) ?_));cases cb:Q2 e' s with
  | false=>
   rw[Φ ∅,hRb];clear hRa hRb;walk1;show⟨c,(Λ e' hA' (ϡ P' hB' ps (λs' Vh=>?_)))⟩;rw[XA] at Vh;rcases Ξ.mp Vh with h | h
   ·show hn s' h
   ·simp only[Κ,Μ,χ] at h
    subst h;show cb
  | true=>
   rw[γ rfl,hRa];clear hRa hRb;show OQ λRy Ul=>?_;walk1;show bc (.inl (.inl ht)) rfl (bc (.inl (.inl ht)) rfl (vm hA' (yZ o1 (by rw[Θ,el];lk)) ?_));rw[<-TU]
   let f:Sw IN e' (s.1,s.2,dd,ot):=⟨⟨o1,by rw[el];show o2⟩,⟨o3,cb⟩,(MD x hdd hx hm (by
    rcases hot with h | ⟨h1,s',h2,h3,h4⟩
    ·show .inl h
    ·show .inr ⟨h1,(ϡ s' h2 h3 (mI ps.le h4))⟩))⟩
   let st:=Pas.step ps.chn f;let hbd:P'.4<=1000:=by have:=ps.cnt;lk
   let cA:ϛ [A] H' (upd H' A (.lst ((e'.set s.1.6 s.2).map V.int))):=ϛ.upd ∅ (cv hA');let a2:upd H' A (.lst ((e'.set s.1.6 s.2).map V.int)) A=!.lst ((e'.set s.1.6 s.2).map V.int):=aa;generalize upd H' A (.lst ((e'.set s.1.6 s.2).map V.int))=H2 at cA a2 ⊢;rw[Ul];clear Ul;walk1;let hB2:=hB'.im cA (by simp;show ψ nAB);let ht2:=cA.tup _ _ ht;(revert hB2;show ϭ λtsB hBl hBt=>?_);let hBn:=hBt.4;rw[Θ] at hBn;show⟨.inl ⟨_,.inl (.inl hBl)⟩,bc (.inl (.inl ht2)) rfl (bc (.inl (.inl ht2)) rfl ⟨"!",λu hu=>?_⟩)⟩;let nBu:B≠u:=λz=>by rw[<-z,hBl] at hu;cases hu
   let nAu:A≠u:=λz=>by rw[<-z,a2] at hu;cases hu
   let c3:ϛ [A,B] H2 (upd H2 u (.tup [V.int s.1,V.int s.2,V.int dd,oV ot])):=ϛ.new hu;let b3:upd H2 u (.tup [V.int s.1,V.int s.2,V.int dd,oV ot]) B=!.lst (tsB.map V.ref):=(ag nBu).trans hBl;let a3:upd H2 u (.tup [V.int s.1,V.int s.2,V.int dd,oV ot]) A=!.lst ((e'.set s.1.6 s.2).map V.int):=(ag nAu).trans a2;let u3:upd H2 u (.tup [V.int s.1,V.int s.2,V.int dd,oV ot]) u=!.tup [V.int s.1,V.int s.2,V.int dd,oV ot]:=aa;generalize upd H2 u (.tup [V.int s.1,V.int s.2,V.int dd,oV ot])=H3 at c3 b3 a3 u3 ⊢;let c4:ϛ [A,B] H3 (upd H3 B (.lst (tsB.map V.ref++[V.ref u]))):=ϛ.upd ∅ (cv b3);show(MD _ b3 (by rw[Θ];show ό (show tsB.4<=1000 by lk) "!") (c.trans ((cA.mono ∅).trans (c3.trans c4))) (Λ _ ((ag nAB).trans a3) (ϡ (P'++[(s.1,s.2,dd,ot)]) (Λ (tsB++[u]) (by rw[ϐ];show aa) ?_) (ps.trans st) (λs' Vh=>?_))))
   ·rw[ϐ]
    show((hBt.im c3).im c4).snoc ((ag (ψ nBu)).trans u3)
   ·rw[XA] at Vh
    rcases Ξ.mp Vh with h | h
    ·show mI st.le (hn s' h)
    ·simp only[Κ,Μ,χ] at h
     subst h;show Bp o1 (by rw[el];show o2)
 ·rintro σ H' ⟨c,⟨e',P',hA',hB',ps,hn⟩,v,rfl⟩
  walk1;show q e' P' _ c hA' hB' ps λs hs=>hn s (by rw[Θ,tl,bv];show hs)
def tH:T.vZ.O P w mg base 3 Ib:=by
 walk_at "h ok vZ gU R A R B R p";(revert h;show aef λH0 IN e0 e P s00 hp fA fB nAB hA=>Qy λhB hwf ch W5 q=>?_)
 show(Λ _ (af (bE Ϛ rfl (jt rfl T.cm wv) (cg rfl (aH (aE (i:=3) gU.nd rfl (ϵ rfl)) (aH (aE (i:=4) gU.nd rfl (ϵ rfl)) b9))) (af (aQ (aw (bp (hU hr)) (ak K hr (pv 4) ah) ai (ϧ _)) (af (av (ar T.BF (yu T) hr ν (aj Ϯ (aj ϶ (aj MN (eC (ak K hr (pv 4) ah) jh))))))) (af (aQ (aw (bp (hU hr)) (ak K hr (pv 4) ah) ai (ϧ _)) (ae (aG 5 gU (ar T.m4 (lY T) hr ν (eC Ϯ (ak K hr (pv 4) ah))))
   (af (aQ (k6 (kf (pv 5))) (af (av (ar T.BF (yu T) hr ν (aj Ϯ (aj ϶ (aj MN (eC (ak K hr (pv 4) ah) (pv 5)))))))) au))) au)))))) ?_)
 (show ϱ hp.at λus hu ul ug=>?_);let sH:∀H',ϛ [A,B] H H'->Ω H0 H':=λH' c b o hb=>c.keep _ _ (s00 _ _ hb) (by simp;show⟨aq hb fA,aq hb fB⟩);walk1
 show⟨⟨_,.inl (.inl (s00 _ _ hu))⟩,fM (λi σ H'=>ϛ [A,B] H H'/\(∃e' P',H' A=!.lst (e'.map V.int)/\ϲ H' B (P'.map XI)/\Pas IN e0 e P e' P'/\(P'.4=P.4->∀x∈IN.take i,aeO e x))/\∃v3 v4 v5,σ=[!V.ref A,!V.ref B,!V.ref p,v3,v4,v5])
  ⟨ϛ.refl _,(Fk e P hA hB (.refl ch) ∅),(UK none none none rfl)⟩ (λi σ H' _ z=>.inl (.inl (sH _ z.1 _ _ hu))) ?_ ?_⟩
 ·rintro i y U σ H' hy hU ⟨c,⟨e',P',hA',hB',ps,hn⟩,v3,v4,v5,rfl⟩
  show(Fk U _ rfl (.inl (.inl aa)) rfl ?_);(show Nm (ug i y hy) λu x μ hx=>ϭ λl apd ak4=>?_;subst μ);let sU:Ω H' (upd H' U (.tup [V.int (i+1),V.ref u])):=Ω.upd hU;generalize upd H' U (.tup [V.int (i+1),V.ref u])=H1 at sU ⊢;let cU:=c.trans (ϛ.of_same sU);let hut:=sH _ cU _ _ apd;let OM:=ak4.same (sH _ cU);let hA1:=sU _ _ hA';let hB1:=hB'.same sU;let nl:l≠A/\l≠B:=by
   (revert ak4;show ϭ λ_ z _=>?_);show⟨aq z fA,aq z fB⟩
  let XA:IN.take (i+1)=IN.take i++[x]:=by rw[Ϲ,hx];rfl
  let lu:aho e'.4 x.2:=by rw[ps.le.1];show hwf x (Δ hx)
  let hbd:P'.4+Wy IN e'<=1000:=by have:=ps.cnt;lk
  let Xo:IN[(((i:Nat):Int)+1).6 - 1]?=!x:=by rw[show(((i:Nat):Int)+1).6 - 1=i by lk];show hx
  show(cr _ _ rfl (ϕ _ _ rfl rfl (aht λRa hRa Rb hRb=>?_)));walk1;show bc (.inl (.inl hut)) rfl ?_;rw[Ba];show(Λ _ rfl ?_)
  by_cases c1:x.1="open"
  ·rw[γ (by simp[c1]),hRa]
   clear hRa hRb;walk1;show bc (.inl (.inl hut)) rfl (Λ l rfl (Λ none rfl (SU IN e0 e' hA1 (Λ P' hB1 (TW x OM nAB nl.1 nl.2 lu ⟨ps.chn,hbd,(),Xo,⟨.inl ⟨c1,rfl⟩,λe2 P2 H2 c2 hA2 hB2 ps2 nb=>⟨cU.trans c2,(Λ e2 hA2 (ϡ P2 hB2 (ps.trans ps2) (λz y hy=>?_)))⟩⟩⟩)))));let m1:=ps.mor;let m2:=ps2.mor;let hP':P'.4=P.4:=by lk
   let Rm:=ps.eq hP';rw[XA] at hy;rcases Ξ.mp hy with h | h
   ·show hn hP' y h
   ·simp only[Κ,Μ,χ] at h
    subst h;show⟨λ_ s hs=>by rw[<-Rm,<-(ps2.eq ())];show nb s hs,λz=>absurd (z.symm.trans c1) (s!"d")⟩
  ·rw[Φ (by simp[c1]),hRb]
   clear hRa hRb;show aht λRa hRa Rb hRb=>?_;walk1;show bc (.inl (.inl hut)) rfl ?_;rw[Ba];show(Λ _ rfl ?_)
   by_cases c2:x.1="closed"
   ·rw[γ (by simp[c2]),hRa]
    clear hRa hRb;show OQ λRy Ul=>?_;walk1;show bc (.inl (.inl hut)) rfl (Λ l rfl (Λ e' (.inl (.inl hA1)) (ϡ x.2 OM lu (λo ho=>?_))));rw[Ul];clear Ul;walk1;rcases ho with⟨rfl,Zp⟩ | ⟨s',Vh,rfl,Zv⟩
    ·rw[Φ (λz=>z rfl)]
     show⟨cU,(Λ e' hA1 (ϡ P' hB1 ps (λz y hy=>?_)))⟩;rw[XA] at hy;rcases Ξ.mp hy with h | h
     ·show hn z y h
     ·simp only[Κ,Μ,χ] at h
      subst h;show⟨λz=>absurd z c1,λ_=>.inl λs hs=>by rw[<-(ps.eq z)];show Zp s hs⟩
    ·rw[γ (λz=>by cases z)]
     show bc (.inl (.inl hut)) rfl (Λ l rfl (Λ (!s'.1) rfl (SU IN e0 e' hA1 (Λ P' hB1 (TW x OM nAB nl.1 nl.2 lu ⟨ps.chn,hbd,(),Xo,⟨.inr ⟨c2,(ϡ s' Vh rfl Zv)⟩,λe2 P2 H2 c2' hA2 hB2 ps2 nb=>⟨cU.trans c2',(Λ e2 hA2 (ϡ P2 hB2 (ps.trans ps2) (λz y hy=>?_)))⟩⟩⟩)))));let m1:=ps.mor;let m2:=ps2.mor;let hP':P'.4=P.4:=by lk
     rw[XA] at hy;rcases Ξ.mp hy with h | h
     ·show hn hP' y h
     ·simp only[Κ,Μ,χ] at h
      subst h;show⟨λz=>absurd z c1,λ_=>.inr λs hs=>by rw[<-(ps.eq hP'),<-(ps2.eq ())];show nb s hs⟩
   ·rw[Φ (by simp[c2]),hRb]
    clear hRa hRb;walk1;show⟨cU,(Λ e' hA1 (ϡ P' hB1 ps (λz y hy=>?_)))⟩;rw[XA] at hy;rcases Ξ.mp hy with h | h
    ·show hn z y h
    ·simp only[Κ,Μ,χ] at h
     subst h;show⟨λz=>absurd z c1,λz=>absurd z c2⟩
 ·rintro σ H' ⟨c,⟨e',P',hA',hB',ps,hn⟩,v3,v4,v5,rfl⟩
  walk1;show q e' P' _ c hA' hB' ps λz x hx=>hn z x (by rw[Θ,ul,bv];show hx)
def AJ:T.Ed.O P w mg base 4 (zz K):=by
 walk_at "h ok Ed lH R q0 R B R p";(revert h;show QS λH0 IN e0 s00 hp fB hq=>QT λhB hwf W5 q=>?_)
 show(Λ _ (ae (aG 3 lH (bI (di) rfl T.gb N0 (am Ϯ)))
   (ae (aG 4 lH (IK EV ah))
   (ae (EO Ϛ (aw dU (pv 4) (aF (a9) (by rfl) T.dz zn (am ϶)) (ϧ _)) (ae (aG 4 lH (aF (a9) (by rfl) T.dz zn (am ϶)))
   (af (av (ar T.vZ (tH T) hr ν (aj MN (eC ϶ wv)))))))
   (af (ao MN))))) ?_)
 walk1;show nP (.inl hq) λA hA=>?_;let sA:Ω H (upd H A (.lst (e0.map V.int))):=Ω.upd hA;let aA:upd H A (.lst (e0.map V.int)) A=!.lst (e0.map V.int):=aa;generalize upd H A (.lst (e0.map V.int))=H1 at sA aA ⊢;let fA:=aP s00 hA;let nAB:A≠B:=λz=>by rw[z,hB] at hA;cases hA
 show(Λ (λm σ H'=>∃e P many,m=Wy IN e+(if many < P.4 then 1 else 0)/\ϛ [A,B] H1 H'/\H' A=!.lst (e.map V.int)/\ϲ H' B (P.map XI)/\Chain IN e0 P e/\P.4+Wy IN e<=1000/\(many=(P.4:Int)->VF e IN)/\many<=P.4/\σ=[!V.ref q0,!V.ref B,!V.ref p,!V.ref A,!V.int many]) 
  (SV _ e0 ([]) (-1) rfl (ϛ.refl _) aA (Λ ([]) (sA _ _ hB) (.nil)) ⟨.nil,by have:=Kq IN e0;simp;lk,λz=>absurd z ∅,∅,rfl⟩) ?_)
 rintro m σ H' ⟨e,P,many,rfl,c,hA',hB',ch,hbd,hsn,hmy,rfl⟩
 let sH:∀H',ϛ [A,B] H1 H'->Ω H0 H':=λH' c b o hb=>c.keep _ _ (sA _ _ (s00 _ _ hb)) (by simp;show⟨aq hb fA,aq hb fB⟩);let hB0:=hB';(revert hB';show ϭ λtsB hBl hBt=>?_);let hBn:=hBt.4;rw[Θ] at hBn;walk1;show cO (.inl (.inl hBl)) ?_;rw[Θ,hBn];show(Λ _ rfl ?_)
 by_cases OM:many < P.4
 ·rw[γ (by simp[OM])]
  show(Λ (λσ' H2=>∃e2 P2,ϛ [A,B] H1 H2/\H2 A=!.lst (e2.map V.int)/\ϲ H2 B (P2.map XI)/\Pas IN e0 e P e2 P2/\(P2.4=P.4->VF e IN)/\σ'=[!V.ref q0,!V.ref B,!V.ref p,!V.ref A,!V.int P.4]) ?_ (cO (.inl (.inl hBl)) ?_))
  ·rintro σ' H2 ⟨e2,P2,c2,hA2,hB2,ps,sn,rfl⟩
   let p1:=ps.cnt;let p2:=ps.mor;show(Λ _ ?_ (Vt e2 P2 P.4 rfl c2 hA2 hB2 ps.chn () ⟨λz=>?_,(),rfl⟩))
   ·rw[γ OM]
    split<;>lk
   ·let hz:P2.4=P.4:=by lk
    rw[ps.eq hz];show sn hz
  ·rw[Θ,hBn]
   show(Λ H0 (sH _ c) (UM IN hp fA fB nAB (cr e0 e hA' (UM P hB0 (by rw[ch.le.1];show hwf) ch hbd (λe2 P2 H2 c2 hA2 hB2 ps sn=>?_)))));show(Yr e2 P2 (c.trans c2) hA2 hB2 ps sn rfl)
 ·rw[Φ (by simp[OM])]
  show q A e P H' hA ⟨λb o hb hn=>c.keep _ _ (sA _ _ hb) (by simp only[Κ,Μ,χ,Yl] at hn ⊢;show⟨aq hb hA,hn⟩),λb xs hb=>c.tup _ _ (sA _ _ hb)⟩ hA' hB0 ch (hsn ())
def Er:T.GJ.O P w mg base 5 (C8 K):=by
 walk_at "h ok GJ Lj R q0 R p";(revert h;show Qz λIN e0 hp hq hwf W5 q=>?_);show(Λ _ (af (ao (ar T.Ed (AJ T) hr ν (aj Ϯ (eC (aU cX) ϶))))) ?_);walk1;show⟨Ϡ _,λB hB=>(Λ H (Ω.upd hB) (ϡ IN hp hB (UM e0 ?_ aa hwf W5 (λA e P H' hA c hA' hB' ch sn=>?_))))⟩
 ·show(Ω.upd hB).seq hq
 ·let sm:Ω H H':=λb o hb=>c.keep _ _ ((Ω.upd hB) _ _ hb) (by simp;show aq hb hB)
  show q A e H' (aP (Ω.upd hB) hA) sm hA' (ch.front sn) λh0=>ch.nn h0
def kC:T.lQ.O P w mg base 1 (C9 a.OJ):=by
 walk_at "h ok lQ yF R x";(revert h;show ϭ λdx hx q=>?_)
 show(Λ _ (ae (bu Ϯ dC rfl)
   (af (bu Ϯ dC rfl))) ?_)
 show λl hl=>?_;let nl:l≠x:=λz=>by rw[z,hx] at hl;cases hl
 show(IB _ dx ([]) ((ag (ψ nl)).trans hx) T.sy T.pV "!" (λt ht=>?_));let nt:t≠x:=λz=>by rw[z,aa] at ht;cases ht
 show(IB _ dx _ ((ag (ψ nt)).trans aa) T.sy T.ni (show 1 < 1000 by decide) ?_);let ntl:t≠l:=λz=>by rw[ag nt,z,aa] at ht;cases ht
 let ht0:H t=none:=by rw[ag nt,ag ntl] at ht;show ht
 let m:x∈[x]:=by simp
 show q l t _ hl ht0 ?_ ⟨⟨dx,aa⟩,(MD ([]) ?_ (Ϡ _) (λz=>rfl) (λp=>rfl)),(ϡ ([]) ?_ (Ϡ _) (λz=>rfl)),ψ nl,ψ nt,ψ ntl⟩
 ·show(ϛ.new hl).trans ((ϛ.upd m (bA ((ag (ψ nl)).trans hx))).trans ((ϛ.new ht).trans (ϛ.upd m (bA ((ag (ψ nt)).trans aa)))))
 ·show(ag nl).trans ((ag (ψ ntl)).trans ((ag nl).trans aa))
 ·show(ag nt).trans aa
def tI:T.vX.O P w mg base 1 xu:=OZ.never
def wq:T.yj.O P w mg base 1 vz:=by
 walk_at "h ok yj Ir V z1";(revert h;show Nq λo μ hl q=>?_;subst μ);show(Λ _ (af (ao (qy (k6 (EL Ϯ)) ai (aM (aX) ai Ϯ)))) ?_);cases o with
 | none=>
  walk1;show q
 | some w0=>
  simp only[wV];walk1;show(ϡ ([61]) (s!"d") (ο (show[61].4+w0.4<=1001 by have:=hl w0 rfl;simp;lk) "!") q)
def AK:T.Ea.O P w mg base 2 zD:=by
 walk_at "h ok Ea KJ S p V v";(revert h;show Nq λt hp hl q=>?_)
 show(Λ _ (ae (aQ (aw (lh (R0 hr)) Ϯ (ua T.II) (by rfl)) (af (ao ϶)) au)
   (ae (aQ (aw (bp (hU hr)) Ϯ ai (ϧ _)) (af (ao (ar T.yj (wq T) hr ν (am ϶)))) au)
   (ae (aQ (aw (bp (hU hr)) Ϯ ai (ϧ _)) (af (ao (ar T.vX (tI T) hr ν (am ϶)))) au)
   (af (ao (bI (fC (K:=K)) rfl T.pH RP (am ϶))))))) ?_)
 walk1;intro p1 Um;show yU (.inr (Um H)) rfl rfl (Λ _ rfl ?_);rw[show inV (V.str p) [V.str "sender",V.str "key",V.str "group",V.str "shelf",V.str "taker",V.str "reader"]=decide (p∈T7) from FZ p T7];rcases hp with⟨h1,rfl⟩ | ⟨rfl,o,rfl,rfl⟩ | ⟨h1,h2,h3,n,rfl,h4,rfl⟩
 ·rw[γ (ϝ h1)]
  show q
 ·rw[Φ (s!"d"),γ rfl]
  show(ϡ o rfl (λw0 e=>?_) q);subst e;have:(Xd (!w0)).4=w0.4+1:=rfl;lk
 ·rw[Φ (by simpa using h1),Φ h2,Φ h3]
  show(ϡ _ rfl (eE () ()) q)
def cL:T.dk.O P w mg base 1 (zN (ac3 a.NB a.N6 a.Ng a.Nf a.NA a.Nz)):=by
 walk_at "h ok dk jC S n R p";(revert h;show P9 λpa ps hp hn ok q=>?_)
 show(Λ _ (ae (aG 2 jC (vi (dD ai Ϯ vh) rfl rfl ∅ "!"))
   (ae (bE Ϛ rfl (Ic rfl T.LY (eC (zA T.BG Ϯ (λ_ _=>rfl)) ϶)) (cg rfl (aH (aE (i:=3) jC.nd rfl (ϵ rfl)) (aH (aE (i:=4) jC.nd rfl (ϵ rfl)) b9))) (af (cz (pv 4) (cM wv MN (bL (R0 hr))))))
   (af (ao wv)))) ?_)
 walk1;intro D hD;obtain⟨hm,hT⟩:(n,V.ref pa)∈[(ϒ "hail",V.ref a.NB),("put",V.ref a.N6),("begin",V.ref a.Ng),("close",V.ref a.Nf),("drop",V.ref a.NA),("turn",V.ref a.Nz)]/\∀H,Of K H pa ((ps.map (·.1)).map V.str):=by
  generalize ps.map (·.1)=l at hn;rcases ahx hn with h | h | h | h | h | h<;>cases h
  ·show⟨bH 0 rfl,T.kX⟩
  ·show⟨bH 1 rfl,T.nw⟩
  ·show⟨bH 2 rfl,T.j6⟩
  ·show⟨bH 3 rfl,T.j5⟩
  ·show⟨bH 4 rfl,T.kW⟩
  ·show⟨bH 5 rfl,T.kU⟩
 let nDp:D≠p:=λz=>by rw[z,hp] at hD;cases hD
 generalize hH1:upd (upd H D (.dK [])) D (.dK (Pp [] [((.inr "event"),V.str n)]))=H1;let s1:Ω H H1:=by rw[<-hH1];show(Ω.upd hD).wr hD
 let hD1:H1 D=!.dK [((.inr "event"),V.str n)]:=by rw[<-hH1];show aa
 show⟨aa,(ϡ ([((.inr "event"),V.str n)]) rfl (show 1<=15 by decide) (ϡ (n,.ref pa) hm rfl (MD pa rfl ⟨_,hT _⟩ ⟨_,by rw[hH1];show .inl (.inl (s1 _ _ hp))⟩ ?_)))⟩;rw[hH1];let hlen:=ok.25;show Di (λi σ Hx=>Ω H Hx/\Hx D=!.dK (RC n (ps.take i))/\∃v3 v4,σ=[!V.str n,!V.ref p,!V.ref D,v3,v4]) ∅ ⟨s1,hD1,(Ny none none rfl)⟩
  (λi σ Hx _ z=>⟨hT _,.inl (.inl (z.1 _ _ hp))⟩) ?_ ?_
 ·rintro i x y U σ Hx hx hy hU ⟨sx,hDx,v3,v4,rfl⟩
  rw[ϣ,Ρ] at hx;rw[Ρ] at hy;cases e:ps[i]? with
  | none=>rw[e] at hx;cases hx
  | some z=>
   rw[e] at hx hy;cases hx;cases hy;show(Fk U _ rfl (.inl (.inl aa)) rfl ?_);walk1;let nUD:D≠U:=λq=>by rw[<-q,hDx] at hU;cases hU
   let hD2:upd Hx U (.tup [V.str z.1,z.2.1]) D=!.dK (RC n (ps.take i)):=(ag nUD).trans hDx;let hz:=Δ e;let hps:ps=ps.take i++z::ps.drop (i+1):=by
    rw[<-(Α.mp e).2,<-List.drop_eq_getElem_cons ((Α.mp e).1),List.take_append_drop]
   let agR:(.inr z.1:Key)∉(RC n (ps.take i)).map (·.1):=by
    let nd:=ok.nd;rw[hps,ϐ,Ϗ,ϊ,υ] at nd;unfold RC;simp only[Ϗ,ϣ,Κ,ω,Vq,Yl];show⟨λq=>?_,?_⟩
    ·let q2:=At q
     show nd.1 (by rw[<-q2];simp)
    ·rintro⟨x,hx,q⟩
     show nd.2.2.2 x.1 (ω.mpr (Λ x hx rfl)) z.1 ∅ (At q)
   show cu (Qc.k (k:=.inr z.1) hD2 (ό (show(RC n (ps.take i)).4<=8 by unfold RC;simp;lk) "!")) ⟨(sx.trans (Ω.upd hU)).wr hD,?_⟩;rw[Dj agR];let e2:ps.take (i+1)=ps.take i++[z]:=by rw[aea,e];rfl
   show aa.trans ?_;rw[e2];unfold RC;simp
 ·rintro σ Hx ⟨sx,hDx,v3,v4,rfl⟩
  walk1;rw[Θ,Θ,bv] at hDx;show q D Hx hD sx hDx
def yv:T.Ar.O P w mg base 3 (Dx (ac3 a.NB a.N6 a.Ng a.Nf a.NA a.Nz)):=by
 walk_at "h ok Ar xZ R D";(revert h;show Yp λn pa ps hD hn ok q=>?_)
 show(Λ _ (ae (aG 1 xZ (ak K hr Ϯ ai))
   (af (ao (ar T.yi (uY T) hr ν (am (aM (aX) (aU (am ϶)) (cZ ["event","name"] ["event","name"] (Ο lE) (s!"c") (bb (zA T.BG ϶ (λ_ _=>rfl))) (λC₁ s₁ H₁ f₁=>(ar T.Ea (AK T) hr ν (eC Ϯ (ak K hr ϶ Ϯ))))))))))) ?_)
 obtain⟨hm,hT⟩:(n,V.ref pa)∈[(ϒ "hail",V.ref a.NB),("put",V.ref a.N6),("begin",V.ref a.Ng),("close",V.ref a.Nf),("drop",V.ref a.NA),("turn",V.ref a.Nz)]/\∀H,Of K H pa ((ps.map (·.1)).map V.str):=by
  generalize ps.map (·.1)=l at hn;rcases ahx hn with h | h | h | h | h | h<;>cases h
  ·show⟨bH 0 rfl,T.kX⟩
  ·show⟨bH 1 rfl,T.nw⟩
  ·show⟨bH 2 rfl,T.j6⟩
  ·show⟨bH 3 rfl,T.j5⟩
  ·show⟨bH 4 rfl,T.kW⟩
  ·show⟨bH 5 rfl,T.kU⟩
 walk1;show ay (MG.k (k:=.inr "event") hD) ⟨"!",λp hp=>(ϡ (n,.ref pa) hm rfl (Kb (hT _) ?_))⟩;let nDp:D≠p:=λz=>by rw[<-z,hD] at hp;cases hp
 let hlen:=ok.25;let Vk:∀x∈ps,lc (RC n ps) (.inr x.1)=!x.2.1:=by
  intro x hx;let nd:=ok.nd;rw[ϊ] at nd;unfold RC;rw[bK (λq=>nd.1 (by rw[At q];show ω.mpr (Λ x hx rfl)))];show rh nd.2 hx
 generalize hl0:upd H p (.lst [((.inr "event":Key),V.str n).2])=H0;let s0:Ω H H0:=by rw[<-hl0];show Ω.upd hp
 let hp0:H0 p=!.lst [V.str n]:=by rw[<-hl0];show aa
 show zG hT (ο (show((ps.map (·.1)).map V.str).4<=7 by simp;lk) "!") (Xg ps) (λx H' hx s' Qe qe=>?_) λD2 H2 hD2 s2 XC=>?_
 ·rw[ϣ] at hx
  (show ι (ω.mp hx) λz hz μ=>?_;subst μ);let qe2:=λOP s''=>by
   let e:=qe OP s'';rw[show Xg ps ((V.str∘λx=>x.fst) z)=V.str (S z.2.2) from rj (ϊ.mp ok.nd).2 hz] at e;show e
  change _;simp only[Vq];walk1;(show sw (ok.part z hz) λo1 o2 o3=>?_);let g:=MG.k (k:=.inr z.1) (s' _ _ (s0 _ _ hD));rw[Vk z hz] at g;show ay g (ϡ z.2.2 o1 () (qe2 _ (Ω.refl _)))
 ·rw[Dk (ϊ.mp ok.nd).2] at XC
  let nn:n.cps.toList.4<=8/\∀c∈n.11,c < 128:=by
   generalize ps.map (·.1)=l at hn;rcases ahx hn with h | h | h | h | h | h<;>cases h<;>decide +kernel
  let W6:H2 p=!.lst (tx [n.11]):=by
   rw[s2 _ _ hp0];change _=!HO.lst [V.str (S n.11)];rw[<-qI n]
  show A8 (.inl (.inl W6)) (.inl (.inl XC)) (ο (show(tx [n.11]).4+(tx (ps.map λx=>x.2.2)).4<=8 by unfold tx;simp;lk) "!") λu hu=>?_;show(Λ u rfl (ϡ (n.11::ps.map λx=>x.2.2) (.inl (.inl ?_)) ?_ (λH' s'=>q _ H' (s0.trans (s2.trans ((Ω.upd hu).trans s'))) (akC ok nn.1 nn.2))))
  ·show aa.trans ?_
   unfold tx;simp
  ·let h2:((n.11::ps.map λx=>x.2.2).map K').76<=8+7 * 201:=by
    rw[Ϗ,lm];let h3:∀l:-Part,(∀x∈l,x.2.2.4<=201)->((l.map λx=>x.2.2).map K').76<=l.4 * 201:=by
     intro l
     induction l with
     | nil=>intro _;simp
     | cons x r ih=>
      intro h;let a:=h x ∅;let b:=ih λy hy=>h y (by simp[hy]);simp only[Ϗ,lm,ς] at b ⊢;lk
    have:=h3 ps λx hx=>(ok.part x hx).2.1;lk
   simp only[ς,Θ];lk
def oJ:T.pR.O P w mg base 1 (Dv a.ϖ):=by
 walk_at "h ok pR DS R x S s I e";(revert h;show ϭ λdx hx q=>?_)
 show(Λ _ (ae (bu Ϯ ϶ rfl)
   (ae (bu Ϯ wv rfl)
   (ae (bu Ϯ ai rfl)
   (ae (bu Ϯ (aU cX) rfl)
   (af (bu Ϯ (aU cX) rfl)))))) ?_)
 show(IB _ dx ([]) hx T.cy T.fZ "!" (IB _ dx _ aa T.cy T.nj (show 1 < 1000 by decide) (UN _ dx _ aa T.cy T.d6 (show 2 < 1000 by decide) (Ϡ _) (λsp PX=>?_))));let nsp:sp≠x:=λz=>by rw[z,aa] at PX;cases PX
 show(UN _ dx _ ((ag (ψ nsp)).trans aa) T.cy T.eR (show 3 < 1000 by decide) (Ϡ _) (λpl Pm=>?_));let npl:pl≠x:=λz=>by rw[z,aa] at Pm;cases Pm
 show(IB _ dx _ ((ag (ψ npl)).trans aa) T.cy T.ja (show 4 < 1000 by decide) ?_);let m:x∈[x]:=by simp
 let abE:H sp=none:=by rw[ag nsp,ag nsp,ag nsp] at PX;show PX
 let nps:pl≠sp:=λz=>by rw[z,ag nsp,aa] at Pm;cases Pm
 let abF:H pl=none:=by
  rw[ag npl,ag nps,ag npl,ag npl,ag npl] at Pm;show Pm
 show q sp pl _ abE abF (ψ nps) ?_ aa ((ag nsp).trans ((ag (ψ nps)).trans ((ag nsp).trans aa))) ((ag npl).trans aa);show(ϛ.upd m (bA hx)).trans ((ϛ.upd m (bA aa)).trans ((ϛ.upd m (bA aa)).trans ((ϛ.new PX).trans ((ϛ.upd m (bA ((ag (ψ nsp)).trans aa))).trans ((ϛ.new Pm).trans (ϛ.upd m (bA ((ag (ψ npl)).trans aa))))))))
def nz:T.oA.O P w mg base 1 (CY a.bi a.ϖ):=by
 walk_at "h ok oA Bw R x";(revert h;show ϭ λdx hx q=>?_)
 show(Λ _ (ae (bu Ϯ (aU cX) rfl)
   (af (bu Ϯ dC rfl))) ?_)
 show⟨Ϡ _,λdl Yg=>?_⟩;let ndl:dl≠x:=λz=>by rw[z,hx] at Yg;cases Yg
 show(IB _ dx ([]) ((ag (ψ ndl)).trans hx) T.aL T.bW "!" (λbz hbz=>?_));let nbz:bz≠x:=λz=>by rw[z,aa] at hbz;cases hbz
 let nbd:bz≠dl:=λz=>by rw[z,ag ndl,aa] at hbz;cases hbz
 let apf:H bz=none:=by rw[ag nbz,ag nbd] at hbz;show hbz
 show(IB _ dx _ ((ag (ψ nbz)).trans aa) T.aL T.bQ (show 1 < 1000 by decide) ?_);let m:x∈[x]:=by simp
 show q dl bz _ Yg apf ?_ ⟨⟨dx,aa⟩,?_,rfl,λi u y h=>(by simp at h),aed,(ϡ ([]) ?_ (δ _) (λz=>rfl)),∅⟩
 ·show(ϛ.new Yg).trans ((ϛ.upd m (bA ((ag (ψ ndl)).trans hx))).trans ((ϛ.new hbz).trans (ϛ.upd m (bA ((ag (ψ nbz)).trans aa)))))
 ·show(ag ndl).trans ((ag (ψ nbd)).trans ((ag ndl).trans aa))
 ·show(ag nbz).trans aa
def gj:T.gJ.OX P w mg base 3 (Dq a.bi a.ϖ a.OI):=by
 walk_at "h okX gJ Ag R r S s";(revert h;show N9 λdl bz us M D q=>?_);show(Λ _ (af (aQ (PT.SW (aw (lh (R0 hr)) ϶ (ax K Ϯ) (by rfl))) (af (xa T.AA T.IC T.ID (oH T) (hr.mono "!") rfl T.BE T.i3.b "!" acR (am (ak K hr (ax K Ϯ) ϶)))) au)) ?_);obtain⟨dx,PK⟩:=D.30;(show ϱ D.ZB λϓ hb lb vb=>?_);walk1;let gg:=MG.k (k:=.inr s) hb;rw[vb s] at gg;show(ϰ _ dx _ PK T.aL T.bQ (Λ _ (iI dl bz) (Ka gg (Λ _ rfl ?_))));rcases q with⟨hs,q⟩ | ⟨n,hs,q⟩
 ·rw[hs];show q
 ·rw[hs] at gg ⊢
  show(ϰ _ dx _ PK T.aL T.bQ (Λ _ (iI dl bz) (ay gg q)))
def eX:T.cx.O P w mg base 1 (CZ a.bi a.ϖ):=by
 walk_at "h ok cx x9 R r";(revert h;show N9 λdl bz us M D q=>?_);show(Λ _ (af (ao (aM (aX) (aF (a9) (by rfl) T.dz zn (am (ax K Ϯ))) ah))) ?_);obtain⟨dx,PK⟩:=D.30;walk1;show(ϰ _ dx _ PK T.aL T.bW (Λ _ (ia dl bz) (cO (.inl (.inl D.28)) ?_)));rw[hV,Θ,D.25];show q
def eN:T.eZ.O P w mg base 1 (C0 a.bi a.ϖ):=by
 walk_at "h ok eZ DT R r S s";(revert h;show N9 λdl bz us M D q=>?_);show(Λ _ (af (ao (qG (R0 hr) (ax K Ϯ) ϶ ah ⟨rfl,rfl,rfl,rfl⟩))) ?_);obtain⟨dx,PK⟩:=D.30;(show ϱ D.ZB λϓ hb lb vb=>?_);show(ϰ _ dx _ PK T.aL T.bQ (Λ _ (iI dl bz) (ϡ bz rfl (.inl ⟨ϓ,.inl hb⟩) (Λ _ (MG.k (k:=.inr s) hb) ?_))));rw[vb s];cases e:M.B s with
 | none=>rw[e] at q;show q
 | some n=>rw[e] at q;show q
def gk:T.gK.OX P w mg base 3 (Dr a.bi a.ϖ a.Mw):=by
 walk_at "h okX gK Ah R r S s";(revert h;show N9 λdl bz us M D q=>?_)
 show(Λ _ (ae (aQ (PT.SW (aw (tZ (R0 hr)) ϶ (ax K Ϯ) (by rfl))) (af (xa T.sC T.D7 T.D8 (lR T) (hr.mono "!") rfl T.uQ T.gI.b "!" acR (am ϶))) au)
   (af (PS.SW (ao (ak K hr (ax K Ϯ) ϶))))) ?_)
 obtain⟨dx,PK⟩:=D.30;(show ϱ D.ZB λϓ hb lb vb=>?_);walk1;let gg:=MG.k (k:=.inr s) hb;rw[vb s] at gg;show(ϰ _ dx _ PK T.aL T.bQ (Λ _ (iI dl bz) (Fp gg (Λ _ rfl ?_))));rcases q with⟨n,hs,q⟩ | ⟨hs,q⟩
 ·rw[hs] at gg ⊢
  show(ϰ _ dx _ PK T.aL T.bQ (Λ _ (iI dl bz) (ay gg q)))
 ·rw[hs]
  show q
def cp:T.cF.O P w mg base 3 (Dt a.bi a.ϖ):=by
 walk_at "h ok cF Bx R r I k";(revert h;show N9 λdl bz us M D=>MM λi u μ hu q=>?_;subst μ)
 show(Λ _ (ae (aQ (PW.pt (qx (aw dU ϶ ah (ϧ _)) (k7 (aw la ϶ (aF (a9) (by rfl) T.dz zn (am (ax K Ϯ))) (ϧ _))))) (af dS) au)
   (af (ao (ak K hr (ax K Ϯ) (aM nJ ϶ ah))))) ?_)
 obtain⟨dx,PK⟩:=D.30;walk1
 ·let hi:=(Α.mp hu).1
  show(ϰ _ dx _ PK T.aL T.bW (Λ _ (ia dl bz) (cO (.inl (.inl D.28)) (Λ _ rfl ?_))));rw[Θ,Φ ()];show(ϰ _ dx _ PK T.aL T.bW (Λ _ (ia dl bz) (bx (.inl (.inl D.28)) (bj () (by rw[show((i:Int)+1 - 1).6=i by lk,Ρ,hu];rfl)) q)))
def sL:T.tE.O P w mg base 4 (zK a.bi a.ϖ):=by
 walk_at "h ok tE rR R r S s I e";(revert h;show L6 λdl bz us MT NS M=>Yq λxs OU hs YF XC q=>?_);let D:=OU.da
 show(Λ _ (ae (av (aZ Ϯ T.aL T.gJ (gj T) hr VD (am ϶)))
   (ae (aG 3 rR (jj Ϯ T.aL T.cx.m (eX T) (hr.mono "!") T.cx.b .nil ν))
   (ae (av (bM PySem.F.plainAttrs_list PySem.F.slot_list_append PySem.F.type_list_append br (ax K Ϯ) (am (qh T.KU (oJ T) (hr.mono "!") rfl T.Iy T.pR.b .nil ν (eC ϶ wv)))))
   (ae (cz MN (cM (ax K Ϯ) ϶ (bL (R0 hr))))
   (af (ao MN)))))) ?_)
 obtain⟨dx,PK⟩:=D.30;(show ϱ D.ZB λϓ hb lb vb=>?_);lia;show(ϕ dx _ PK rfl (Sr dl bz us M D (.inl ⟨hs,(ϕ dx _ PK rfl (Sr dl bz us M D ?_))⟩)));show(ϰ _ dx _ PK T.aL T.bW (ϡ _ (ia dl bz) (.inl ⟨rfl,(N' _ (.inl (.inl D.28)))⟩) (λx dx' hx Xo hne=>(Λ dx' aa (λsp pl H1 PX Pm nsp c1 Xb sp1 pl1=>⟨rfl,?_⟩)))));let s1:Ω H H1:=λb o hb=>c1.keep _ _ (by rw[ag (aq hb hx),ag (aq hb Xo)];show hb) (by simp;show aq hb hx);let l1:=s1 _ _ D.28;let b1:=s1 _ _ hb;let r1:=s1 _ _ PK;let nrd:r≠dl:=bO r1 l1 (by intro z;cases z);let nrb:r≠bz:=bO r1 b1 (by intro z;cases z);let nbd:=bO b1 l1 (by intro z;cases z);let nxd:=bO Xb l1 (by intro z;cases z);let nxb:=bO Xb b1 (by intro z;cases z);show(IB dl _ _ rfl rfl l1 (by rw[Θ,D.25];show ό YF "!") ?_);let c2:ϛ [dl,bz] H1 (upd H1 dl (.lst (us.map V.ref++[V.ref x]))):=ϛ.upd ∅ (cv l1);let l2:upd H1 dl (.lst (us.map V.ref++[V.ref x])) dl=!.lst ((us++[x]).map V.ref):=by rw[ϐ];show aa
 let k2:∀b o,b≠dl->H1 b=!o->upd H1 dl (.lst (us.map V.ref++[V.ref x])) b=!o:=λb o hb h=>(ag hb).trans h;generalize upd H1 dl (.lst (us.map V.ref++[V.ref x]))=H2 at c2 l2 k2 ⊢;let b2:=k2 _ _ nbd b1;show(ϰ _ dx _ (k2 _ _ nrd r1) T.aL T.bQ (Λ _ (iI dl bz) (cu (Qc.k (k:=.inr s) b2 (ό (show ϓ.4<=1000 by lk) "!")) ?_)));let c3:ϛ [dl,bz] H2 (upd H2 bz (.dK (putK ϓ (.inr s) (.int (M.ds.4+1))))):=ϛ.upd ∅ (cP b2);let k3:∀b o,b≠bz->H2 b=!o->upd H2 bz (.dK (putK ϓ (.inr s) (.int (M.ds.4+1)))) b=!o:=λb o hb h=>(ag hb).trans h;let ul:=D.25;let free:∀z,upd (upd H dx' (.own x)) x (.ins a.ϖ dx' []) z=none->H z=none:=λz hz=>by
  let h1:z≠x:=λe=>by rw[e,aa] at hz;cases hz
  rw[ag h1] at hz;let h2:z≠dx':=λe=>by rw[e,aa] at hz;cases hz
  rw[ag h2] at hz;show hz
 let abE:=free sp PX;let abF:=free pl Pm;let DA:dL a.bi a.ϖ (upd H2 bz (.dK (putK ϓ (.inr s) (.int (M.ds.4+1))))) r dl bz (us++[x]) (M.begin s e):=by
  show⟨⟨dx,k3 _ _ nrb (k2 _ _ nrd r1)⟩,k3 _ _ (ψ nbd) l2,by show(us++[x]).4=(M.ds++[(s,e,ii)]).4;rw[Χ,Χ,ul];rfl,λi u y h1 h2=>?_,?_,(ϡ _ aa ?_ (λz=>?_)),λz=>?_⟩
  ·let h2':(M.ds++[(s,e,ii)])[i]?=!y:=h2
   by_cases ci:i < us.4
   ·rw[ϙ ci] at h1
    rw[ϙ ()] at h2';(show TY (D.each i u y h1 h2') λd3 s3 p3 h3=>?_);let h3':=s1 _ _ h3;show(UK d3 s3 p3 (k3 _ _ (bO h3' b1 (by intro z;cases z)) (k2 _ _ (bO h3' l1 (by intro z;cases z)) h3')))
   ·rw[ϥ ()] at h1
    rw[ϥ ()] at h2';let hi0:i - us.4=0:=by
     cases k:i - us.4 with
     | zero=>rfl
     | succ k=>rw[k] at h1;simp at h1
    rw[hi0] at h1;rw[show i - M.ds.4=0 by lk] at h2';simp at h1 h2';subst h1 h2';show(UK _ sp pl (k3 _ _ nxb (k2 _ _ nxd Xb)))
  ·rw[υ]
   show⟨D.nd,∅,λb Zv b2' hb2 e'=>?_⟩;simp only[Κ,Μ,χ] at hb2;subst hb2;subst e';obtain⟨i,hi⟩:=Ϣ Zv;let Qw:=(Α.mp hi).1;(show TY (D.each i b _ hi (Ε ())) λd3 s3 p3 h3=>?_);rw[hx] at h3;cases h3
  ·have:=bP ϓ (.inr s) (.int (M.ds.4+1))
   change _<=M.sz+1;lk
  ·rw[dB]
   change _=(if z=s then some ((M.ds.4:Int)+1) else M.B z).map V.int
   by_cases e':z=s
   ·rw[γ (by rw[e']),γ e'];rfl
   ·rw[Φ (λh=>e' (At h)),Φ e']
    show vb z
  ·rcases Ξ.mp z with z | z
   ·show D.ru z
   ·simp only[Κ,Μ,χ] at z
    rw[z,hx] at PK;cases PK
 let kk:∀b o,b≠dl->b≠bz->H1 b=!o->upd H2 bz (.dK (putK ϓ (.inr s) (.int (M.ds.4+1)))) b=!o:=λb o h1 h2 h=>k3 _ _ h2 (k2 _ _ h1 h);let nsd:sp≠dl:=ψ (aq D.28 abE);let npd:=ψ (aq D.28 abF);let c0:ϛ [dl,bz] H (upd H2 bz (.dK (putK ϓ (.inr s) (.int (M.ds.4+1))))):=(ϛ.of_same s1).trans (c2.trans c3);let nds:∀a∈MT,a∉[dl,bz]:=λa ha=>by
  obtain⟨i,hi⟩:=Ϣ ha;let Qw:=(Α.mp hi).1;have:=OU.l1;have:=OU.l3;(show ι (OU.sp i a _ hi (Ε ())) λts e1 _=>?_);simp only[Κ,Μ,χ,Yl];show⟨λz=>by have:=(ϊ.mp OU.nd).1;rw[<-z] at this;show this (Η _ ha),bO e1 hb (by intro z;cases z)⟩
 let ndp:∀a∈NS,a∉[dl,bz]:=λa ha=>by
  obtain⟨i,hi⟩:=Ϣ ha;let Qw:=(Α.mp hi).1;have:=OU.l2;have:=OU.l3;(show ι (OU.pl i a _ hi (Ε ())) λts e1 _=>?_);simp only[Κ,Μ,χ,Yl];show⟨λz=>by have:=(ϊ.mp OU.nd).1;rw[<-z] at this;show this (Β _ ha),bO e1 hb (by intro z;cases z)⟩
 let old:∀a,(a∈MT\/a∈NS)->∃ts,H a=!.lst ts:=λa ha=>by
  have:=OU.l1;have:=OU.l2;have:=OU.l3;rcases ha with ha | ha
  ·obtain⟨i,hi⟩:=Ϣ ha
   let Qw:=(Α.mp hi).1;(show ι (OU.sp i a _ hi (Ε ())) λts e1 _=>?_);show⟨_,e1⟩
  ·obtain⟨i,hi⟩:=Ϣ ha
   let Qw:=(Α.mp hi).1;(show ι (OU.pl i a _ hi (Ε ())) λts e1 _=>?_);show⟨_,e1⟩
 let last:∀{β:Type} {l:-β} {y z:β} {i:Nat},(l++[y])[i]?=!z->(i < l.4/\l[i]?=!z)\/(i=l.4/\z=y):=λ{β l y z i} h=>by
  by_cases c:i < l.4
  ·rw[ϙ c] at h;show .inl ⟨c,h⟩
  ·rw[ϥ ()] at h
   have:i - l.4=0:=by
    cases k:i - l.4 with
    | zero=>rfl
    | succ k=>rw[k] at h;simp at h
   rw[this] at h;simp at h;show .inr ⟨(),h.17⟩
 let L1:=OU.l1;let L2:=OU.l2;let L3:=OU.l3;show q x sp pl _ hx abE abF c0 ⟨DA,by rw[Χ,Χ,L1];rfl,by rw[Χ,Χ,L2];rfl,by rw[Χ,Χ,L3];rfl,λi u a0 b0 y h1 h2 h3 h4=>?_,λi a0 e0 h1 h2=>?_,λi a0 e0 h1 h2=>?_,λe0 he0=>?_,?_⟩
 ·let VL:(M.ds++[(s,e,ii)])[i]?=!y:=h4
  rcases last h1 with⟨p1,q1⟩ | ⟨p1,q1⟩
  ·rcases last h2 with⟨_,q2⟩ | ⟨p2,_⟩
   ·rcases last h3 with⟨_,q3⟩ | ⟨p3,_⟩
    ·rcases last VL with⟨_,q4⟩ | ⟨p4,_⟩
     ·obtain⟨d0,e1⟩:=OU.ob i u a0 b0 y q1 q2 q3 q4
      show⟨d0,kk _ _ (bO (s1 _ _ e1) l1 (by intro z;cases z)) (bO (s1 _ _ e1) b1 (by intro z;cases z)) (s1 _ _ e1)⟩
     ·lk
    ·lk
   ·lk
  ·rcases last h2 with⟨p2,_⟩ | ⟨_,q2⟩
   ·lk
   ·rcases last h3 with⟨p3,_⟩ | ⟨_,q3⟩
    ·lk
    ·rcases last VL with⟨p4,_⟩ | ⟨_,q4⟩
     ·lk
     ·rw[q1,q2,q3,q4]
      show⟨_,kk _ _ nxd nxb Xb⟩
 ·rcases last h1 with⟨p1,q1⟩ | ⟨p1,q1⟩
  ·rcases last h2 with⟨_,q2⟩ | ⟨p2,_⟩
   ·show(OU.sp i a0 e0 q1 q2).im c0 (nds a0 (Δ q1))
   ·lk
  ·rcases last h2 with⟨p2,_⟩ | ⟨_,q2⟩
   ·lk
   ·rw[q1,q2]
    show(Λ ([]) (kk _ _ nsd (ψ (aq hb abE)) sp1) (.nil))
 ·rcases last h1 with⟨p1,q1⟩ | ⟨p1,q1⟩
  ·rcases last h2 with⟨_,q2⟩ | ⟨p2,_⟩
   ·show(OU.pl i a0 e0 q1 q2).im c0 (ndp a0 (Δ q1))
   ·lk
  ·rcases last h2 with⟨p2,_⟩ | ⟨_,q2⟩
   ·lk
   ·rw[q1,q2]
    show(Λ ([]) (kk _ _ npd (ψ (aq hb abF)) pl1) (.nil))
 ·rcases Ξ.mp he0 with h | h
  ·show OU.ok e0 h
  ·simp only[Κ,Μ,χ] at h
   rw[h];show⟨λy hy=>(by cases hy),"!","!"⟩
 ·obtain⟨n1,n2⟩:=ϊ.mp OU.nd
  (show sw (υ.mp n2) λm1 m2 m3=>?_);let os:∀a,a∈MT\/a∈NS->a≠sp/\a≠pl:=λa ha=>by
   obtain⟨ts,e1⟩:=old a ha;show⟨aq e1 abE,aq e1 abF⟩
  show ϊ.mpr ⟨λz=>?_,υ.mpr ⟨υ.mpr ⟨m1,∅,λa ha b hb=>?_⟩,υ.mpr ⟨m2,∅,λa ha b hb=>?_⟩,λa ha b hb=>?_⟩⟩
  ·rcases Ξ.mp z with z | z
   ·rcases Ξ.mp z with z | z
    ·show n1 (Η _ z)
    ·simp only[Κ,Μ,χ] at z;show nsd z.17
   ·rcases Ξ.mp z with z | z
    ·show n1 (Β _ z)
    ·simp only[Κ,Μ,χ] at z;show npd z.17
  ·simp only[Κ,Μ,χ] at hb
   rw[hb];show(os a (.inl ha)).1
  ·simp only[Κ,Μ,χ] at hb
   rw[hb];show(os a (.inr ha)).2
  ·rcases Ξ.mp ha with ha | ha
   ·rcases Ξ.mp hb with hb | hb
    ·show m3 a ha b hb
    ·simp only[Κ,Μ,χ] at hb
     rw[hb];show(os a (.inl ha)).2
   ·simp only[Κ,Μ,χ] at ha
    rw[ha];rcases Ξ.mp hb with hb | hb
    ·show ψ (os b (.inr hb)).1
    ·simp only[Κ,Μ,χ] at hb
     rw[hb];show nsp
def tJ:T.vY.O P w mg base 4 (Dw a.bi a.ϖ):=by
 walk_at "h ok vY G0 R r I k I a0 I b0";(revert h;show L6 λdl bz us MT NS M=>ϭ λxs OU=>QS λi e s μ he hs hl q=>?_;subst μ);show(Λ _ (af (av (bM PySem.F.plainAttrs_list PySem.F.slot_list_append PySem.F.type_list_append br (ax K (aZ Ϯ T.aL T.cF (cp T) hr ν (am ϶))) (am (bf (eC wv MN)))))) ?_);let D:=OU.da;obtain⟨dx,PK⟩:=D.30;(show aeh (OU.get he) λu s' p x du h1 h2 h3 h4 hu hS hP=>?_);rw[hs] at h2;cases h2;(show ι (id hS) λts e1 e2=>?_);lia;show(ϕ dx _ PK rfl (Sr dl bz us M D (ϕ i u rfl h1 (ϰ _ du _ hu T.cy T.eR (MD _ (oi x s p) (.inl ⟨rfl,(N' _ (.inl (.inl e1)))⟩) "!" (λt ht=>(IB s _ _ rfl rfl ((Ω.upd ht) _ _ e1) ?_ ?_)))))))
 ·have:=M3.length e2
  rw[Θ] at this;rw[Θ];show ό (show ts.4<=1000 by lk) "!"
 let sT:Ω H (upd H t (.tup [V.int a0,V.int b0])):=Ω.upd ht;let aT:upd H t (.tup [V.int a0,V.int b0]) t=!.tup (Tb (a0,b0)):=aa;generalize upd H t (.tup [V.int a0,V.int b0])=H1 at sT aT ⊢;let e1':=sT _ _ e1;let c2:ϛ [s] H1 (upd H1 s (.lst (ts.map V.ref++[V.ref t]))):=ϛ.upd ∅ (cv e1');let L2':ϲ (upd H1 s (.lst (ts.map V.ref++[V.ref t]))) s ((e.1++[(a0,b0)]).map Tb):=by
  rw[ϐ];show(hS.same sT).add c2 (c2.tup _ _ aT) (λts' h=>by rw[e1'] at h;cases h;show aa)
 show q _ ((ϛ.of_same sT).trans c2) ((OU.same sT).aoT hs he c2 L2' (by rw[Χ];simp;lk))
def jb:T.jZ.O P w mg base 4 (xC a.bi a.ϖ):=by
 walk_at "h ok jZ pN R r I k S z";(revert h;show L6 λdl bz us MT NS M=>ϭ λxs OU=>QS λi u x μ hu hx hB q=>?_;subst μ);let D:=OU.da
 show(Λ _ (ae (aG 3 pN (aZ Ϯ T.aL T.cF (cp T) hr ν (am ϶)))
   (ae (bu MN wv rfl)
   (af (aQ (aw (bp (hU hr)) (aZ Ϯ T.aL T.eZ (eN T) hr ν (am (ax K MN))) ϶ (ϧ _)) (af (av (Fd (ax K Ϯ) (ax K MN) ⟨rfl,rfl,rfl,rfl⟩))) au)))) ?_)
 obtain⟨dx,PK⟩:=D.30;lia;let ao':=(Α.mp hu).1;let L1:=OU.l1;let L2:=OU.l2;obtain⟨sp,PX⟩:∃s,MT[i]?=!s:=⟨MT[i]'(),Ε ()⟩
 obtain⟨pl,Pm⟩:∃s,NS[i]?=!s:=⟨NS[i]'(),Ε ()⟩
 obtain⟨du,hud⟩:=OU.ob i u sp pl x hu PX Pm hx;(show ϱ D.ZB λϓ hb lb vb=>?_);let hui:=Δ hu;let nur:r≠u:=λz=>D.ru (z▸hui);let Qw:=(Α.mp hx).1;show(ϕ dx _ PK rfl (Sr dl bz us M D (ϕ i u rfl hu (IB _ du _ hud T.cy T.d6 (show 5 < 1000 by decide) ?_))));rw[FR];let c1:ϛ [u] H (upd H u (.ins a.ϖ du (OR (x.1,x.2.1,z) sp pl))):=ϛ.upd ∅ (bA hud);let u1:upd H u (.ins a.ϖ du (OR (x.1,x.2.1,z) sp pl)) u=!.ins a.ϖ du (OR (x.1,x.2.1,z) sp pl):=aa;generalize upd H u (.ins a.ϖ du (OR (x.1,x.2.1,z) sp pl))=H1 at c1 u1 ⊢;let r1:=c1.keep _ _ PK (by simp;show nur);let b1:=c1.keep _ _ hb (by simp;show (bO hb hud (by intro z;cases z)));let l1:=c1.keep _ _ D.28 (by simp;show (bO D.28 hud (by intro z;cases z)));let ea:∀j w y,us[j]?=!w->(M.ds.set i (x.1,x.2.1,z))[j]?=!y->∃dx sp pl,H1 w=!.ins a.ϖ dx (OR y sp pl):=λj w y hw hy=>by
  by_cases e:i=j
  ·subst e
   rw[ϑ Qw] at hy;cases hy;rw[hu] at hw;cases hw;show(UK du sp pl u1)
  ·rw[ϔ e] at hy
   (show TY (D.each j w y hw hy) λd3 s3 p3 h3=>?_);show(UK d3 s3 p3 (c1.keep _ _ h3 ?_));simp only[Κ,Μ,χ];intro ew;subst ew;obtain⟨i1,e1⟩:=Α.mp hu;obtain⟨i2,e2⟩:=Α.mp hw;rcases Ob e with lt | lt
   ·show gl.mp D.nd i j i1 i2 lt (e1.trans e2.17)
   ·show gl.mp D.nd j i i2 i1 lt (e2.trans e1.17)
 let D1:dL a.bi a.ϖ H1 r dl bz us ⟨M.ds.set i (x.1,x.2.1,z),M.B,M.sz⟩:=⟨⟨dx,r1⟩,l1,by rw[ϗ];show D.25,ea,D.nd,(ϡ ϓ b1 lb vb),D.ru⟩
 show(ϕ dx _ r1 rfl (ϰ _ du _ u1 T.cy T.fZ (Λ _ (qX _ sp pl) ⟨dl,bz,us,_,D1,?_⟩)));lia;rw[γ (ϝ (show(M.B x.1).getD 0=(i:Int)+1 by rw[hB];rfl))];show(ϰ _ dx _ r1 T.aL T.bQ (Λ _ (iI dl bz) (ϡ bz rfl (.inl ⟨ϓ,.inl b1⟩) (ϰ _ du _ u1 T.cy T.fZ (Λ _ (qX _ sp pl) (ϰ ϓ (.inr x.1) _ b1 rfl (by rw[vb,hB];rfl) ?_))))));let c2:ϛ [u,bz] H1 (upd H1 bz (.dK (Og ϓ (.inr x.1)))):=ϛ.upd ∅ (cP b1);let DA:dL a.bi a.ϖ (upd H1 bz (.dK (Og ϓ (.inr x.1)))) r dl bz us (M.finish i x z):=by
  show⟨⟨dx,(ag (bO PK hb (by intro z;cases z))).trans r1⟩,(ag (bO D.28 hb (by intro z;cases z))).trans l1,by show us.4=(M.ds.set i (x.1,x.2.1,z)).4;rw[ϗ];show D.25,λj w y hw hy=>?_,D.nd,(ϡ _ aa (ο (qD _ _) lb) (λy=>?_)),D.ru⟩
  ·(show TY (ea j w y hw hy) λd3 s3 p3 h3=>?_)
   show(UK d3 s3 p3 ((ag (bO h3 b1 (by intro z;cases z))).trans h3))
  ·rw[t9]
   change _=(if y=x.1 then none else M.B y).map V.int
   by_cases e:y=x.1
   ·rw[γ (by rw[e]),γ e];rfl
   ·rw[Φ (λh=>e (At h)),Φ e]
    show vb y
 let c0:=(c1.mono ∅).trans c2;let nl:∀a ts,H a=!.lst ts->a∉[u,bz]:=λa ts ha=>by
  (show sw (OU.kinds ha) λ_ k2 k3=>?_);simp only[Κ,Μ,χ,Yl];show⟨λz=>k3 (z▸hui),k2⟩
 show q _ c0 ⟨DA,OU.l1,OU.l2,OU.l3,λj w a0 b0 y h1 h2 h3 h4=>?_,λj a0 e0 h1 h2=>?_,λj a0 e0 h1 h2=>?_,OU.ok,OU.nd⟩
 ·by_cases ej:i=j
  ·subst ej
   let VL:(M.ds.set i (x.1,x.2.1,z))[i]?=!y:=h4;rw[ϑ Qw] at VL;cases VL;rw[hu] at h1;rw[PX] at h2;rw[Pm] at h3;cases h1;cases h2;cases h3;show⟨du,(ag (bO u1 b1 (by intro z;cases z))).trans u1⟩
  ·let VL:(M.ds.set i (x.1,x.2.1,z))[j]?=!y:=h4
   rw[ϔ ej] at VL;obtain⟨dd,e1⟩:=OU.ob j w a0 b0 y h1 h2 h3 VL;show⟨dd,c0.keep _ _ e1 ?_⟩;simp only[Κ,Μ,χ,Yl];show⟨Jj D.nd h1 hu (ψ ej),bO e1 hb (by intro z;cases z)⟩
 ·(show ι (id (OU.sp j a0 e0 h1 h2)) λts e1 _=>?_)
  show(OU.sp j a0 e0 h1 h2).im c0 (nl _ _ e1)
 ·(show ι (id (OU.pl j a0 e0 h1 h2)) λts e1 _=>?_)
  show(OU.pl j a0 e0 h1 h2).im c0 (nl _ _ e1)
def gN:T.ir.O P w mg base 4 (zL a.bi a.ϖ):=by
 walk_at "h ok ir By R r I k";(revert h;show L6 λdl bz us MT NS M=>ϭ λxs OU=>MM λi e μ he q=>?_;subst μ);show(Λ _ (af (ao (bI (di) rfl T.gb N0 (am (ax K (aZ Ϯ T.aL T.cF (cp T) hr ν (am ϶))))))) ?_);let D:=OU.da;obtain⟨dx,PK⟩:=D.30;(show aeh (OU.get he) λu s p x du h1 h2 h3 h4 hu hS hP=>?_);(show ι (id hS) λts e1 e2=>?_);show(ϕ dx _ PK rfl (Sr dl bz us M D (ϕ i u rfl h1 (ϰ _ du _ hu T.cy T.eR (Λ _ (oi x s p) (ϕ s _ rfl (.inl (.inl (.inl e1))) (λl hl=>q l _ hl (Ω.upd hl) (Λ ts aa (e2.im (ϛ.of_same (A:=[]) (Ω.upd hl)))))))))))
def kD:T.lM.O P w mg base 4 (vE a.bi a.ϖ):=by
 walk_at "h ok lM yB R r I k";(revert h;show L6 λdl bz us MT NS M=>ϭ λxs OU=>MM λi e μ he q=>?_;subst μ);show(Λ _ (af (ao (bI (di) rfl T.gb N0 (am (ax K (aZ Ϯ T.aL T.cF (cp T) hr ν (am ϶))))))) ?_);let D:=OU.da;obtain⟨dx,PK⟩:=D.30;(show aeh (OU.get he) λu s p x du h1 h2 h3 h4 hu hS hP=>?_);(show ι (id hP) λts e1 e2=>?_);show(ϕ dx _ PK rfl (Sr dl bz us M D (ϕ i u rfl h1 (ϰ _ du _ hu T.cy T.ja (Λ _ (xD x s p) (ϕ p _ rfl (.inl (.inl (.inl e1))) (λl hl=>q l _ hl (Ω.upd hl) (Λ ts aa (e2.im (ϛ.of_same (A:=[]) (Ω.upd hl)))))))))))
def sM:T.kR.O P w mg base 1 (zM a.bi a.ϖ):=by
 walk_at "h ok kR Gs R r";(revert h;show L6 λdl bz us MT NS M=>Nq λxs OU hl q=>?_);show(Λ _ (af (ao (cZ ["self"] ["self"] (Ο gS) (s!"c") (bb (ax K Ϯ)) (λC₁ s₁ H₁ f₁=>(bf (eC (ax K Ϯ) (bI (di) rfl T.gb N0 (am (ax K Ϯ))))))))) ?_);let D:=OU.da;obtain⟨dx,PK⟩:=D.30;walk1;let ul:=D.25;let L1:=OU.l1;let L3:=OU.l3;show(ϰ _ dx _ PK T.aL T.bW (Λ _ (ia dl bz) (bS (.inl (.inl D.28)) (gq (by rw[Θ];show ο (show us.4<=1000 by lk) "!") (λD0 i ys H'=>∃ts ls,ys=ts.map V.ref/\Ω H H'/\H' D0=!.lst ys/\ZF H' ts ls M xs i/\(∀l∈ls,H l=none)/\(D0::ls).14) (λD0 hD0=>(Yr ([]) ([]) rfl (Ω.upd hD0) aa ⟨rfl,rfl,λi t l x e h=>(by simp at h)⟩ ∅ ∅)) (λD0 i ys H' hi ⟨ts,ls,e1,s,e2,PA,_,_⟩=>⟨e2,by rw[e1,Θ,PA.t];show δ _,.inl (.inl (s _ _ D.28))⟩) ?_ ?_))))
 ·rintro D0 i ys H' x0 hD0 hx0 ⟨ts,ls,rfl,sm,e2,PA,fl,nd⟩ Qe qe
  rw[Ρ] at hx0;(show ι (ξ.mp hx0) λu hu μ=>?_;subst μ);let hi:=(Α.mp hu).1;obtain⟨e,he⟩:∃e,xs[i]?=!e:=⟨xs[i]'(),Ε ()⟩
  (show aeh ((OU.same sm).get he) λu' s p x du h1 h2 h3 h4 hu' hS hP=>?_);rw[hu] at h1;cases h1;(show ι (id hS) λtsS f1 f2=>?_);walk1;show(ϰ _ du _ hu' T.cy T.d6 (Λ _ (qY x s p) (ϰ _ du _ hu' T.cy T.eR (Λ _ (oi x s p) (ϕ s _ rfl (.inl (.inl (.inl f1))) (λl hl=>⟨"!",λt ht=>?_⟩))))));let s1:Ω H' (upd H' l (.lst (tsS.map V.ref))):=Ω.upd hl;let a1:ϲ (upd H' l (.lst (tsS.map V.ref))) l (e.1.map Tb):=(Λ tsS aa (f2.im (ϛ.of_same (A:=[]) s1)))
  let lD:l≠D0:=λz=>by rw[z,e2] at hl;cases hl
  generalize upd H' l (.lst (tsS.map V.ref))=H1 at s1 a1 ht ⊢;let s2:Ω H1 (upd H1 t (.tup [V.str x.2.2,V.ref l])):=Ω.upd ht;let a2:upd H1 t (.tup [V.str x.2.2,V.ref l]) t=!.tup [V.str x.2.2,V.ref l]:=aa;generalize upd H1 t (.tup [V.str x.2.2,V.ref l])=H2 at s2 a2 ⊢;let s12:=s1.trans s2;let e2':=s12 _ _ e2;let cD:ϛ [D0] H2 (upd H2 D0 (.lst (ts.map V.ref++[V.ref t]))):=ϛ.upd ∅ (cv e2');obtain⟨n1,n2⟩:=ϊ.mp nd;let nll:l∉ls:=λm=>by
   obtain⟨j,hj⟩:=Ϣ m;let hjl:=(Α.mp hj).1;let pl':=PA.l;let pt':=PA.t;obtain⟨_,⟨_,z,_⟩⟩:=PA.at' j _ l _ _ (Ε ()) hj (Ε ()) (Ε ());rw[hl] at z;cases z
  show qe _ H2 e2' (Yr (ts++[t]) (ls++[l]) (by rw[ϐ];rfl) (λb o hb=>(ag (aq hb hD0)).trans (s12 _ _ (sm _ _ hb))) aa ⟨by rw[Χ,PA.t];rfl,by rw[Χ,PA.l];rfl,λj t0 l0 x1 e0 h1 h2' h3' VL=>?_⟩ (λw hw=>?_) ?_)
  ·by_cases cj:j < ts.4
   ·rw[ϙ cj] at h1
    rw[ϙ (by have:=PA.t;have:=PA.l;lk)] at h2';obtain⟨z1,z2⟩:=PA.at' j t0 l0 x1 e0 h1 h2' h3' VL;show⟨cD.tup _ _ (s12 _ _ z1),(z2.same s12).im cD (by simp;show λz=>n1 (by rw[<-z];show Δ h2'))⟩
   ·let pt':=PA.t
    let pl':=PA.l;rw[ϥ ()] at h1 h2';let j0:j - ts.4=0:=by
     cases k:j - ts.4 with
     | zero=>rfl
     | succ k=>rw[k] at h1;simp at h1
    rw[j0] at h1;rw[show j - ls.4=0 by lk] at h2';simp at h1 h2';have:j=i:=by lk
    subst this;subst h1 h2';rw[h4] at h3';rw[he] at VL;cases h3';cases VL;show⟨cD.tup _ _ a2,(a1.same s2).im cD (by simp;show lD)⟩
  ·rcases Ξ.mp hw with h | h
   ·show fl w h
   ·simp only[Κ,Μ,χ] at h
    rw[h];show aP sm hl
  ·show ϊ.mpr ⟨λz=>?_,υ.mpr ⟨n2,∅,λb hb b' Zv=>?_⟩⟩
   ·rcases Ξ.mp z with z | z
    ·show n1 z
    ·simp only[Κ,Μ,χ] at z;show lD z.17
   ·simp only[Κ,Μ,χ] at Zv
    rw[Zv];show λz=>nll (z▸hb)
 ·rintro D0 ys H' hD0 ⟨ts,ls,rfl,sm,e2,PA,fl,nd⟩
  rw[Θ] at PA;show q D0 ts ls H' hD0 sm e2 (by rw[L3];show PA) fl nd
def oK:T.pS.O P w mg base 1 (C5 a.bi a.ϖ):=by
 walk_at "h ok pS eI R r I t";(revert h;show N9 λdl bz us M D=>Nl λhl q=>?_)
 show(Λ _ (ae (aG 2 eI (aU cX))
   (ae (bE Ϛ rfl (jt rfl T.cm (ax K Ϯ)) (cg rfl (aH (aE (i:=3) eI.nd rfl (ϵ rfl)) (aH (aE (i:=4) eI.nd rfl (ϵ rfl)) b9))) (af (aQ (PW.pt (gQ (aw (bp (hU hr)) (ax K (pv 4)) ai (ϧ _)) (fj (aw fJ (ax K (pv 4)) ϶ (ϧ _))))) (af (av (bM PySem.F.plainAttrs_list PySem.F.slot_list_append PySem.F.type_list_append br wv (am MN)))) au)))
   (af (ao wv)))) ?_)
 obtain⟨dx,PK⟩:=D.30;lia;show⟨Ϡ _,λN hN=>?_⟩;let sN:Ω H (upd H N (.lst [])):=Ω.upd hN;let aN:upd H N (.lst []) N=!.lst []:=aa;generalize upd H N (.lst [])=H1 at sN aN ⊢;let kp:∀H',ϛ [N] H1 H'->Ω H H':=λH' c b o hb=>c.keep _ _ (sN _ _ hb) (by simp;show aq hb hN);let ul:=D.25;show(ϰ _ dx _ (sN _ _ PK) T.aL T.bW (Λ _ (ia dl bz) (ϕ dl _ rfl (.inl (.inl (sN _ _ D.28))) (fM (λi σ H'=>ϛ [N] H1 H'/\H' N=!.lst ((OB M t i).map V.int)/\∃v3 v4,σ=[!V.ref r,!V.int t,!V.ref N,v3,v4]) ⟨ϛ.refl _,aN,(Ny none none rfl)⟩ (λi σ H' _ z=>.inl (.inl (kp _ z.1 _ _ D.28))) ?_ ?_))))
 ·rintro i y U σ H' hy hU ⟨c,hN',v3,v4,rfl⟩
  rw[Ρ] at hy;(show ι (ξ.mp hy) λu hu μ=>?_;subst μ);let hi:=(Α.mp hu).1;obtain⟨x,hx⟩:∃x,M.ds[i]?=!x:=⟨M.ds[i]'(),Ε ()⟩
  (show TY (D.each i u x hu hx) λdu sp pl hud=>?_);show(Fk U _ rfl (.inl (.inl aa)) rfl ?_);let sU:Ω H' (upd H' U (.tup [V.int (i+1),V.ref u])):=Ω.upd hU;generalize upd H' U (.tup [V.int (i+1),V.ref u])=H2 at sU ⊢;let cU:=c.trans (ϛ.of_same sU);let u2:=sU _ _ (kp _ c _ _ hud);let N2:=sU _ _ hN';let hln:(OB M t i).4<=1000:=by
   unfold OB;rw[Θ];show ο (sB _ _) ?_;rw[rc];lk
  let hod:odd M t i=(decide (x.2.2=ii) && decide (x.2.1<=t)):=by unfold odd;rw[hx]
  let skip:odd M t i=false->ϛ [N] H1 H2/\H2 N=!.lst ((OB M t (i+1)).map V.int):=λz=>⟨cU,by rw[qZ,Φ (by rw[z];show ρ),Ix];show N2⟩
  lia;show(cr _ _ rfl (ϕ _ _ rfl rfl ⟨_,du,_,u2,T.cy,T.d6,_,qY x sp pl,?_⟩));lia
  by_cases o1:x.2.2=ii
  ·rw[γ (show decide (x.2.2="open")=true from ϝ o1)]
   show(ϰ _ du _ u2 T.cy T.nj (Λ _ (FQ x sp pl) ?_));lia
   by_cases o2:x.2.1<=t
   ·rw[γ (ϝ o2)]
    show⟨.inl ⟨rfl,(N' _ (.inl (.inl N2)))⟩,(Vt _ _ _ rfl rfl N2 (by rw[Θ];show ό hln "!") (cU.trans (ϛ.upd ∅ (cv N2))) ?_ (Ny _ _ rfl))⟩;rw[qZ,γ (by rw[hod,ϝ o1,ϝ o2];rfl),ϐ];show aa
   ·rw[Φ (by rw[Ϫ o2];show ρ)]
    show(skip (by rw[hod,Ϫ o2,ad9])).imp_right λh=>⟨h,(Ny _ _ rfl)⟩
  ·rw[Φ (by rw[show decide (x.2.2="open")=false from Ϫ o1];show ρ),Φ ρ]
   show(skip (by rw[hod,Ϫ o1];rfl)).imp_right λh=>⟨h,(Ny _ _ rfl)⟩
 ·rintro σ H' ⟨c,hN',v3,v4,rfl⟩
  rw[Θ,ul] at hN';lia;show q N _ hN (kp _ c) hN'
def oM:T.pT.O P w mg base 4 (Du a.bi a.ϖ):=by
 walk_at "h ok pT DU R r I k";(revert h;show N9 λdl bz us M D=>MM λi x μ hx q=>?_;subst μ);show(Λ _ (af (ao (ax K (aZ Ϯ T.aL T.cF (cp T) hr ν (am ϶))))) ?_);obtain⟨dx,PK⟩:=D.30
 ·let hi:=(Α.mp hx).1
  obtain⟨u,hu⟩:∃u,us[i]?=!u:=⟨us[i]'(by rw[D.25];show hi),Ε _⟩
  (show TY (D.each i u x hu hx) λdu sp pl hud=>?_);show(ϕ dx _ PK rfl (Sr dl bz us M D (ϕ i u rfl hu (ϰ _ du _ hud T.cy T.d6 (Λ _ (qY x sp pl) q)))))
abbrev N7 (a:Adr):CK:=⟨a.Do,a.MI,a.Ql,a.re,a.N5,a.f9,a.bi,a.OJ⟩
def p7:T.sf.O P w mg base 1 (y9 a.N5):=by
 walk_at "h ok sf EF R r I p";(revert h;show v0 λd M R q=>?_);show(Λ _ (af (ao (Ju (kf (Fe (ax K Ϯ) ϶ jh ⟨rfl,rfl,rfl,rfl⟩))))) ?_);obtain⟨dx,hr⟩:=R.30;(show ϱ R.51 λϓ hd hk hl=>?_);walk1;show(ϰ _ dx _ hr T.cQ T.d5 (Λ _ (iD M d) (ϡ d rfl (.inl ⟨ϓ,.inl hd⟩) (Λ ϓ hd (ϡ (.inl p) rfl (λv hv=>?_) (λhv=>?_))))))
 ·let hs:(M.L p).12=true:=by rw[<-(hl p).2,hv];rfl
  let hn:v≠.k4:=λz=>by
   have:=(hl p).1;rw[hv] at this;obtain⟨x,hx⟩:=db.mp hs;rw[hx] at this;(revert this;show ϭ λt et _=>?_);rw[z] at et;cases et
  rw[show(!((decide (v=V.k4))))=(M.L p).12 by rw[hs,Ϫ hn];rfl];let c:ϛ [d] H (upd H d (.dK (Og ϓ (.inl p)))):=ϛ.upd ∅ (cP hd);show q _ c ⟨⟨dx,(ag (ψ (ψ R.ne))).trans hr⟩,(ϡ _ aa ?_ ((hl.drop p).im c)),R.f0,R.fl,R.dr,λz hz=>?_⟩
  ·have:=qD ϓ (.inl p)
   show((Og ϓ (.inl p)).4:Int)<=M.19;lk
  ·let hz':(if z=p then none else M.L z).12=true:=hz
   by_cases e:z=p
   ·rw[γ e] at hz';cases hz'
   ·rw[Φ e] at hz';show R.within z hz'
 ·let hs:M.L p=none:=by
   have:=(hl p).2;rw[hv] at this;simpa using this.17
  rw[show(!((decide True)))=(M.L p).12 by rw[hs];rfl];let e:M.out p=M:=by
   unfold MB.out;have:(λq=>if q=p then none else M.L q)=M.L:=by
    funext z
    by_cases ez:z=p
    ·rw[γ ez,ez,hs]
    ·rw[Φ ez]
   rw[this]
  show q H (ϛ.refl _) (by rw[e];show R)
def p9:T.jW.O P w mg base 3 (xE (N7 a) a.ϖ):=by
 walk_at "h ok jW Ez R z1 R D";(revert h;show v0 λt A0 μ=>L6 λd Z M m n kk=>Qy λhS hD W5 hv q=>?_;subst μ);show(Λ _ (af (av (aZ (ax K Ϯ) T.aJ T.si (pY T) hr ν (am (ak K hr ϶ ai))))) ?_);obtain⟨dx,MZ⟩:=hS.P3;obtain⟨Zb,hsn⟩:=hS.snd.30;show(ϰ _ dx _ MZ T.aC T.bh (Λ _ (cJ A0 t) ⟨Zb,_,hsn,rfl,ay (dg hD (Dl n kk)) (Wq _ _ _ _ _ hS.85 W5 ⟨hv,hS.zo,λu H' c s' _ _=>q H' d Z (c.mono λb hb=>mL (ahy hb)) fN (λ_ h=>h) ?_⟩)⟩));show hS.sends c s'
def qb:T.jY.O P w mg base 1 (xF (N7 a) a.ϖ):=by
 walk_at "h ok jY EA R z1 R D";(revert h;show v0 λt A0 μ=>SS λd Z M=>MM λm t' hS hD q=>?_;subst μ);show(Λ _ (af (bu Ϯ (ak K hr ϶ ai) rfl)) ?_);obtain⟨dx,MZ⟩:=hS.P3;show ay (dg hD (Ih t')) (IB _ dx _ MZ T.aC T.eQ (show 7 < 1000 by decide) (q _ d Z (ϛ.upd (ϳ) (bA MZ)) fN (λ_ h=>h) (hS.turned MZ)))
def oN:T.i4.O P w mg base 5 (uh (N7 a) a.ϖ):=by
 walk_at "h ok i4 DO R z1 R D";(revert h;show v0 λt A0 μ=>L6 λd Z M m dd n=>Yq λe hS hD hB hl=>N8 λhz hfx q=>?_;subst μ);show(Λ _ (af (av (aZ (ax K Ϯ) T.aL T.tE (sL T) hr ν (eC (ak K hr ϶ ai) (ak K hr ϶ ai))))) ?_);obtain⟨dx,MZ⟩:=hS.P3;let I:=hS.44;obtain⟨Wn,Wd⟩:=I.22;show(ϰ _ dx _ MZ T.aC T.aO (Λ _ (bB A0 t) ⟨Wn,_,Wd,rfl,ay (dg hD (Dy dd n e)) (ay (dg hD (Ky dd n e)) (Da _ _ _ _ _ _ (UM _ I.dx hB hl hz (λu sp pl H' hu PX Pm c dx'=>?_))))⟩));show q H' _ _ (c.mono λb hb=>mM (rA (akJ hb))) (KB hu PX Pm) (λ_ h=>Β _ h) (hS.begun hu PX Pm c dx' hfx)
def oO:T.i6.O P w mg base 5 (ui (N7 a) a.ϖ):=by
 walk_at "h ok i6 DP R z1 R D";(revert h;show v0 λt A0 μ=>L6 λd Z M m j x=>Qy λhS hD hx hB q=>?_;subst μ);show(Λ _ (af (av (aZ (ax K Ϯ) T.aL T.jZ (jb T) hr ν (eC (ak K hr ϶ ai) ai)))) ?_);obtain⟨dx,MZ⟩:=hS.P3;let I:=hS.44;obtain⟨Wn,Wd⟩:=I.22;obtain⟨u,hu⟩:=I.dx.LN hx;show(ϰ _ dx _ MZ T.aC T.aO (Λ _ (bB A0 t) ⟨Wn,_,Wd,rfl,(ay (dg hD (Ig (j+1))) (Da _ _ _ _ _ _ (Λ _ I.dx (IB j u x () hu hx hB (λH' c dx'=>?_)))))⟩));show q H' d Z (c.mono λb hb=>mM (Gd hu hb)) fN (λ_ h=>h) (hS.finished hu c dx')
def qc:T.jX.O P w mg base 5 (xG (N7 a) a.ϖ):=by
 walk_at "h ok jX iU R z1 R D";(revert h;show v0 λt A0 μ=>L6 λd Z M m j x=>Yq λe hS hD nD hx=>QT λhB he hin q=>?_;subst μ)
 show(Λ _ (ae (bE Ϛ rfl (bb (aZ (ax K Ϯ) T.aL T.ir (gN T) hr ν (am (ak K hr ϶ ai)))) (cg rfl (aH (aE (i:=2) iU.nd rfl (ϵ rfl)) (aH (aE (i:=3) iU.nd rfl (ϵ rfl)) b9))) (af (av (aZ (ak K hr (ax K Ϯ) wv) T.cQ T.sf (p7 T) hr ν (am MN)))))
   (af (av (aZ (ax K Ϯ) T.aL T.jZ (jb T) hr ν (eC (ak K hr ϶ ai) ai))))) ?_)
 obtain⟨dx,MZ⟩:=hS.P3;let I:=hS.44;obtain⟨Wn,Wd⟩:=I.22;obtain⟨u,hu⟩:=I.dx.LN hx;lia;show(ϰ _ dx _ MZ T.aC T.aO (Λ _ (bB A0 t) ⟨Wn,_,Wd,rfl,(ay (dg hD (Br (j+1))) (Da _ _ _ _ _ _ (Λ _ I.dx (ϕ j e () he (λL H1 hL s1 tl=>?_)))))⟩));(show ϱ tl.ZC λts sq tl' tg=>?_);rw[Θ] at tl';let aff:=s1 _ _ MZ;let hD1:=s1 _ _ hD;let nL:L∉A0.ds:=λz=>by
  obtain⟨i,hi⟩:=Ϣ z;let Qw:=(Α.mp hi).1;let q1:=hS.43;let q2:=hS.On;(show ι ((hS.row i _ L _ (Ε ()) hi (Ε ())).51) λ_ e1 _=>?_);rw[hL] at e1;cases e1
 show bS (.inl (.inl sq)) (bY (xs:=ts.map V.ref) (λi σ H'=>(∃v3 v4,σ=[!V.ref A0.st,!V.ref D,v3,v4])/\ϛ A0.ds H1 H'/\UA (N7 a) a.ϖ t H' A0 d Z { M with Ms:=O0 M.Ms (e.1.take i) } m) ⟨(Ny none none rfl),ϛ.refl _,hS.same s1⟩ (λi σ H' _ z=>?_) ?_ ?_)
 ·show .inl (.inl (z.2.1.keep _ _ sq nL))
 ·rintro i x σ H' hx ⟨⟨v3,v4,rfl⟩,c,S'⟩
  (show Nm (tg i x hx) λtt r μ hr' ht=>?_;subst μ);rw[Ρ] at hr';(show ι (ξ.mp hr') λy hy μ=>?_;subst μ);obtain⟨o1,o2⟩:=hin y (Δ hy);lia;obtain⟨p,hp⟩:∃p:Nat,y.1=(p:Int):=⟨y.1.6,()⟩
  let Pm:p < A0.rs.4:=by lk
  let q1:=hS.43;let q2:=S'.On;let OW:A0.rs[p]?=some A0.rs[p]:=by simp
  let X8:A0.ds[p]?=!A0.ds[p]'():=by simp
  let hm1:(O0 M.Ms (e.1.take i))[p]?=!((O0 M.Ms (e.1.take i))[p]'(by rw[q2];show Pm)):=by simp
  generalize A0.rs[p]=r at OW;generalize A0.ds[p]'()=dd at X8;generalize (O0 M.Ms (e.1.take i))[p]'(by rw[q2];show Pm)=mm at hm1;let R:=S'.row p r dd mm OW X8 hm1;obtain⟨dxr,PK⟩:=R.30;obtain⟨dx',acO⟩:=S'.P3;let hrr:G' K H' A0.rl (A0.rs.map V.ref):=.inl (.inl S'.Qi);show(Fk _ _ rfl (.inl (.inl (c.tup _ _ ht))) rfl (cr _ _ rfl (ϕ _ _ rfl rfl (ϰ _ dx' _ acO T.aC T.cV (Λ _ (jv A0 t) ?_)))));rw[hp];show bx (v:=.ref r) hrr (bj () (by rw[Ϝ,Ρ,OW];rfl)) (ϕ dxr _ PK rfl (cr dd mm R (λH2 c2 R2=>?_)));let XA:e.1.take (i+1)=e.1.take i++[y]:=by rw[Ϲ,hy];rfl
  show⟨(Ny _ _ rfl),c.trans (c2.mono λb hb=>by rw[Ζ.mp hb];show Δ X8),?_⟩;rw[XA,zO,hp,Ϝ];show S'.aoX OW X8 hm1 c2 R2
 ·rintro σ H' ⟨⟨v3,v4,rfl⟩,c,S'⟩
  rw[Θ,tl',bv] at S';let I':=S'.44;obtain⟨dx',acO⟩:=S'.P3;obtain⟨api,apj⟩:=I'.22;let cds:ϛ (stB A0 (fD A0 d)) H H':=(ϛ.of_same s1).trans (c.mono λb hb=>Gb hb);lia;show(ϰ _ dx' _ acO T.aC T.aO (Λ _ (bB A0 t) ⟨api,_,apj,rfl,(ay (dg (cds.keep _ _ hD nD) (Br (j+1))) (Da _ _ _ _ _ _ (Λ _ I'.dx (IB j u x () hu hx hB (λH2 c2 dx2=>?_)))))⟩));show q H2 d Z (cds.trans (c2.mono λb hb=>mM (Gd hu hb))) fN (λ_ h=>h) (S'.finished hu c2 dx2)
def sO:T.kQ.O P w mg base 5 (Bq (N7 a) a.ϖ):=by
 walk_at "h ok kQ jE R z1 R D";(revert h;show v0 λt A0 μ=>L6 λda Z M md n kk=>L6 λdd i pl key wo m=>RY λhS hD nD hm hml=>QT λW5 hL hkk q=>?_;subst μ)
 show(Λ _ (ae (aG 2 jE (ak K hr ϶ ai))
   (ae (aG 3 jE (iA (ak K hr (ax K Ϯ) wv) T.cQ T.Ee (AF T) (hr.mono "!") T.Ef .nil ν (aj (ak K hr ϶ ai) (eC (ak K hr ϶ ai) (ak K hr ϶ ai)))))
   (ae (av (aZ (ax K Ϯ) T.aJ T.sj (pX T) hr ν (aj (ak K hr ϶ ai) (aj (ak K hr ϶ ai) (eC wv MN)))))
   (af (aQ (aw (eA (hU hr)) (ak K hr ϶ ai) ah (ϧ _)) (af (av (aZ (ax K Ϯ) T.aL T.vY (tJ T) hr ν (aj (ak K hr ϶ ai) (eC wv MN))))) au))))) ?_)
 (show Rh (hS.LO hm) λr d OW X8=>?_);obtain⟨dx,MZ⟩:=hS.P3;let brd:∀b∈[r,d],b∈stB A0 (fD A0 da):=λb hb=>by
  simp only[Κ,Μ,χ] at hb;rcases hb with rfl | rfl
  ·show Kz (Δ OW)
  ·show Gb (Δ X8)
 walk_at "e2";let hrr:G' K H A0.rl (A0.rs.map V.ref):=.inl (.inl hS.Qi);let R:=hS.row i r d m OW X8 hm;obtain⟨dxr,PK⟩:=R.30;show ay (dg hD (Ku n kk dd i pl key wo)) (ϰ _ dx _ MZ T.aC T.cV (Λ _ (jv A0 t) (bx (v:=.ref r) hrr (bj () (by rw[Ϝ,Ρ,OW];rfl)) (ϕ dxr _ PK (Fy m d) ?_))));show ay (dg hD (Kv n kk dd i pl key wo)) (ay (dg hD (Ie n kk dd i pl key wo)) (ay (dg hD (vC n kk dd i pl key wo)) ?_));show(UN d m (key,wo,dd) rfl rfl rfl R () (λH1 c1 R1=>?_));walk_at "ex";let S1:=hS.akF OW X8 c1 R1;obtain⟨dx1,aff⟩:=S1.P3;obtain⟨Zb,hsn⟩:=S1.snd.30;let hD1:=c1.keep _ _ hD λhb=>nD (brd _ hb);show(ϰ _ dx1 _ aff T.aC T.bh (Λ _ (cJ A0 t) ⟨Zb,_,hsn,rfl,ay (dg hD1 (Dm n kk dd i pl key wo)) (ay (dg hD1 (Dn n kk dd i pl key wo)) ?_)⟩));show(QA _ _ _ _ _ S1.85 hL hkk W5 S1.zo (λH2 c2 s2=>?_));walk_at "es";let c2':ϛ [A0.l,A0.t,A0.p] H1 H2:=c2.mono ∅;let hD2:=c2'.keep _ _ hD1 λhb=>nD (mL (ahy hb));let S2:=S1.sends c2' s2;let c02:=(c1.mono brd).trans (c2'.mono λb hb=>mL (ahy hb));show ay (dg hD2 (vC n kk dd i pl key wo)) ?_;lia;rcases q with⟨rfl,q⟩ | ⟨j,e,rfl,he,hle,q⟩
 ·rw[Φ ∅]
  show q H2 da Z c02 fN (λ_ h=>h) S2
 ·rw[γ (by simp;lk)]
  obtain⟨dx2,ahX⟩:=S2.P3;let I2:=S2.44;obtain⟨Wn,Wd⟩:=I2.22;obtain⟨sp,PX⟩:=I2.dx.Mq he;show(ϰ _ dx2 _ ahX T.aC T.aO (Λ _ (bB A0 t) ⟨Wn,_,Wd,rfl,(ay (dg hD2 (vC n kk (j+1) i pl key wo)) (Da _ _ _ _ _ _ (Λ _ I2.dx (IB j e sp () he PX hle (λH3 c3 dx3=>?_)))))⟩));show q H3 da Z (c02.trans (c3.mono λb hb=>?_)) fN (λ_ h=>h) (S2.held PX he c3 dx3);rw[Ζ.mp hb];show mM (rq (Δ PX))
def Es:T.GF.O P w mg base 6 (zP (N7 a) a.ϖ):=by
 walk_at "h ok GF DQ R z1 R D";(revert h;show ϭ λA0 μ=>Vs λd Z X X' e hS hD nD hfx st q=>?_;subst μ)
 show(Λ _ (ae (aG 2 DQ (zA T.wj (ak K hr ϶ ai) (λ_ _=>rfl)))
   (af (av (FW (.cons (p9 T) (hr.mono "!") T.jW.F.kp T.jW.b ν (.cons (sO T) (hr.mono "!") T.kQ.F.kp T.kQ.b ν (.cons (oN T) (hr.mono "!") T.i4.F.kp T.i4.b ν (.cons (oO T) (hr.mono "!") T.i6.F.kp T.i6.b ν (.cons (qc T) (hr.mono "!") T.jX.F.kp T.jX.b ν (.cons (qb T) (hr.mono "!") T.jY.F.kp T.jY.b ν .nil)))))) wv (eC Ϯ ϶))))) ?_)
 cases e with
 | GM n k=>
  (revert st;show N8 λh1 h2 μ=>?_;subst μ);show ay (dg hD (rfl)) (ϡ ("hail",V.ref a.Px) ∅ rfl (ϕ _ (xE (N7 a) a.ϖ) rfl ∅ ⟨X.t,A0,rfl,d,Z,X.M,X.m,n,k,hS,hD,h1,h2,q⟩))
 | put n kk dd i pl key wo=>
  (revert st;show Yq λmr h1 h2 h3 h4=>Nl λh5 h=>?_);show ay (dg hD (rfl)) (ϡ ("put",V.ref a.Qm) ∅ rfl (ϕ _ (Bq (N7 a) a.ϖ) rfl ∅ ⟨X.t,A0,rfl,d,Z,X.M,X.m,n,kk,dd,i,pl,key,wo,mr,hS,hD,nD,h1,h2,h3,h4,h5,?_⟩));rcases h with⟨h6,rfl⟩ | ⟨j,e,h6,h7,h8,rfl⟩
  ·show .inl ⟨h6,q⟩
  ·show .inr (Fk j e h6 h7 h8 q)
 | begin dd n e=>
  (revert st;show QT λh1 h2 h3 μ=>?_;subst μ);show ay (dg hD (rfl)) (ϡ ("begin",V.ref a.Pa) ∅ rfl (ϕ _ (uh (N7 a) a.ϖ) rfl ∅ ⟨X.t,A0,rfl,d,Z,X.M,X.m,dd,n,e,hS,hD,h1,h2,h3,hfx,q⟩))
 | close dd=>
  (revert st;show P9 λj x μ h1 h2 M0=>?_;subst μ;subst M0);show ay (dg hD (rfl)) (ϡ ("close",V.ref a.Pb) ∅ rfl (ϕ _ (ui (N7 a) a.ϖ) rfl ∅ ⟨X.t,A0,rfl,d,Z,X.M,X.m,j,x,hS,hD,h1,h2,q⟩))
 | drop dd=>
  (revert st;show QS λj x e μ h1 h2 h3=>Nl λh4 M0=>?_;subst μ;subst M0);show ay (dg hD (rfl)) (ϡ ("drop",V.ref a.Py) ∅ rfl (ϕ _ (xG (N7 a) a.ϖ) rfl ∅ ⟨X.t,A0,rfl,d,Z,X.M,X.m,j,x,e,hS,hD,nD,h1,h2,h3,(by rw[<-hS.On];show h4),q⟩))
 | turn t'=>
  subst st;show ay (dg hD (rfl)) (ϡ ("turn",V.ref a.Pz) ∅ rfl (ϕ _ (xF (N7 a) a.ϖ) rfl ∅ ⟨X.t,A0,rfl,d,Z,X.M,X.m,t',hS,hD,q⟩))
def cW:T.dq.O P w mg base 7 (vF (N7 a) a.ϖ):=by
 walk_at "h ok dq kM R z1 R t";(revert h;show ϭ λA0 μ=>L6 λd Z X ev u Ds=>Qz λes Xs hC ht hE nev=>RY λnDs lu hln h0 MZ q=>?_;subst μ)
 show(Λ _ (ae (aG 2 kM (ak K hr ϶ ah))
   (ae (aQ (bg wv (by intro _;rfl)) (af (av (aZ (ax K Ϯ) T.gM T.mY (kY T) hr ν (am (cZ ["self","asked","events","event"] ["self","asked","events",""] (Ο iM) (s!"c") (bb wv) (λC₁ s₁ H₁ f₁=>(ar T.Ar (yv T) hr ν (am Ϯ)))))))) au)
   (ae (bE Ϛ rfl (bb wv) (aE (i:=3) kM.nd rfl (ϵ rfl)) (af (av (ar T.GF (Es T) hr ν (eC (ax K Ϯ) MN)))))
   (af (ao (ak K hr ϶ ah)))))) ?_)
 let l1:Of K H t [.ref ev,u]:=.inl (.inl ht);obtain⟨Uo,TJ⟩:=hC.QL;let zl:5000<=sizeLine:=by decide
 let hle:(Ds.map V.ref).4<=sizeLine:=by
  have:=hE.25;rw[Θ];lk
 show Zw λRz hRz=>?_;let lo:∀ls2 H2,ϛ (A0.fx++fD A0 d) H H2->WC (N7 a) a.ϖ X.t H2 A0 d Z { X.M with ls:=ls2 } X.m->ls2.4=X.M.ls.4+es.4->Rz { nx:=λx H'=>Q V.k4 H',rt:=Q } [!V.ref A0.c,!V.ref t,!V.ref ev,none] H2:=λls2 H2 c02 C2 hll=>by
  rw[hRz];lia;let hE2:=hE.im c02 nev nDs;show bS (.inl (.inl hE2.28)) (bY (λi σ H'=>(∃v,σ=[!V.ref A0.c,!V.ref t,!V.ref ev,v])/\MY H' ev Ds es/\H' t=!.tup [.ref ev,u]/\∃d' Z',ϛ (A0.fx++fD A0 d) H H'/\(∀b∈fD A0 d',b∈fD A0 d\/H b=none)/\(∀b∈Z,b∈Z')/\WC (N7 a) a.ϖ (Xs i).t H' A0 d' Z' { (Xs i).M with ls:=ls2 } (Xs i).m) ⟨⟨none,rfl⟩,hE2,c02.tup _ _ ht,(Fk d Z c02 fN (λ_ h=>h) (by rw[h0];show C2))⟩ (λi σ H' _ z=>.inl (.inl z.2.1.28)) ?_ ?_)
  ·rintro i x σ H' hx ⟨⟨v,rfl⟩,hE',ht',d',Z',c',hn',hz',C'⟩
   rw[Ρ] at hx;(show ι (ξ.mp hx) λD hD μ=>?_;subst μ);let Qw:=(Α.mp hD).1;let Vg:=hE.25;let he:es[i]?=!es[i]'():=Ε ();generalize es[i]'()=e at he;obtain⟨apl,apm⟩:=C'.QL;let inB:∀b∈stB A0 (fD A0 d'),b∈A0.fx++fD A0 d\/H b=none:=λb hb=>by
    rcases Ξ.mp (KC hb) with h | h
    ·show .inl (Η _ h)
    ·show(hn' b h).imp (Β _) id
   let noB:∀{b o},H b=!o->b∉A0.fx++fD A0 d->b∉stB A0 (fD A0 d'):=λe n z=>(inB _ z).elim n (λy=>by rw[e] at y;cases y);lia;show(ϰ _ apl _ apm T.aD T.aY (Λ _ (cC A0) ⟨A0,rfl,d',Z',(Xs i).wl ls2,(Xs (i+1)).wl ls2,e,C'.st,hE'.at' i D e hD he,noB (hE.at' i D e hD he) (nDs D (Δ hD)),λb hb=>C'.there b (Η _ hb),(MZ i e he).wl ls2,λH3 d3 Z3 c3 hn3 hz3 S3=>⟨⟨_,rfl⟩,hE'.im c3 (noB hE.28 nev) (λD1 h1=>?_),c3.tup _ _ ht',(Fk d3 Z3 (c'.tr2 c3 inB) (λb hb=>?_) (λb hb=>hz3 b (hz' b hb)) (C'.stood c3 (λb hb=>Ξ.mp hb) S3 rfl))⟩⟩))
   ·obtain⟨i1,g1⟩:=Ϣ h1
    let il1:=(Α.mp g1).1;show noB (hE.at' i1 D1 _ g1 (Ε ())) (nDs D1 h1)
   ·rcases hn3 b hb with h | h
    ·show hn' b h
    ·show(aqH (H b=none)).elim .inr λhne=>?_
     cases e0:H b with
     | none=>show .inr rfl
     | some o=>
      show .inl ?_
      by_cases mb:b∈A0.fx++fD A0 d
      ·rcases Ξ.mp mb with mb | mb
       ·obtain⟨o',eo⟩:=C'.there b (Η _ mb)
        rw[h] at eo;cases eo
       ·show mb
      ·rw[c'.keep _ _ e0 mb] at h;cases h
  ·rintro σ H' ⟨⟨v,rfl⟩,hE',ht',d',Z',c',hn',hz',C'⟩
   rw[Θ,hE.25] at C';show bc (.inl (.inl ht')) rfl (q H' d' Z' ls2 c' hn' hz' C' hll)
 lia;show bc l1 rfl ?_;let hl0:G' K H ev (Ds.map V.ref):=.inl (.inl hE.28)
 by_cases ala:Ds=[]
 ·subst ala
  show(Λ false (.inl (Λ ([]) hl0 rfl)) ?_);rw[Φ "!"];have:=hE.25;show lo X.M.ls H (ϛ.refl _) hC (by simp at this;lk)
 ·show(Λ true (.inl (Λ (Ds.map V.ref) hl0 (by cases Ds with | nil=>show absurd rfl ala | cons x l=>rfl))) ?_)
  rw[γ rfl];obtain⟨dxb,hbk⟩:=hC.book.30;show(ϰ _ Uo _ TJ T.aD T.fY (Λ _ (F5 A0) ⟨dxb,_,hbk,rfl,bS hl0 ?_⟩));show gq hle (λL i ys H'=>H L=none/\Ω H H'/\H' L=!.lst ys/\ys.4=i/\∃bs,ys=tx bs/\∀b∈bs,okB b) (λL hL=>⟨hL,Ω.upd hL,aa,rfl,(Λ ([]) rfl (λ_ z=>nomatch z))⟩) (λL i ys H' _ h=>⟨h.2.2.1,Uq h.2.2.2.1,h.2.1.seq hl0⟩) ?_ ?_
  ·rintro L i ys H' v hL hv ⟨_,s',e',hy,bs,hbs,hob⟩ Qe qe
   rw[Ρ] at hv;(show ι (ξ.mp hv) λD hD μ=>?_;subst μ);let Qw:=(Α.mp hD).1;let Vg:=hE.25;let he:es[i]?=!es[i]'():=Ε ();generalize es[i]'()=e at he;lia;show(ϰ e.nm _ e.ps (s' _ _ (hE.at' i D e hD he)) (UC.inL _ _ _ _ _ _ e) (lu e (Δ he)) (λb H2 s2 ob=>qe _ _ (s2 _ _ e') ⟨hL,Ω.wr (s'.trans s2) hL,aa,by simp[hy],(Λ (bs++[b]) (by rw[hbs];unfold tx;simp) (λc hc=>?_))⟩));rcases Ξ.mp hc with h1 | h1
   ·show hob c h1
   ·rw[Ζ.mp h1];show ob
  rintro L ys H1 hL ⟨_,s1,e1,hy,bs,rfl,hob⟩
  let C1:=hC.same s1;let hbl:L≠A0.bl:=λz=>by
   have:=hC.book.28;rw[<-z,hL] at this;cases this
  let hbn:bs.4=es.4:=by
   have:=hE.25;unfold tx at hy;rw[Θ,Θ] at hy;lk
  show(UN _ _ bs C1.book e1 hbl hob () (λH2 c2 B2=>?_));let inB:A0.bl∈A0.fx++fD A0 d:=Η _ (Η _ (mi 3 rfl));show lo _ H2 ((ϛ.of_same s1).trans (c2.mono λb hb=>by rw[Ζ.mp hb];show inB)) (C1.wrote c2 B2) ?_;rw[Χ,mE,gv,hbn]
def gm:T.gW.O P w mg base 3 xv:=by
 walk_at "h ok gW Gp R p";(revert h;show Xv λls hp hl ho q=>?_);show(Λ _ (af (aQ (d8 (bg (aF (fz) (by rfl) T.uW Wk (am (cZ ["names"] ["names"] (Ο gR) (s!"c") (bb Ϯ) (λC₁ s₁ H₁ f₁=>(ar T.uU (sG T) hr ν (am Ϯ)))))) (by intro _;rfl))) dO au)) ?_);walk1;show bS (.inl (.inl hp)) (qJ (.inl (.inl hp)) (ο (show(tx ls).4<=9 by unfold tx;simpa using hl) "!") (λ_=>.bl true) (λx H' hx s' Qe qe=>?_) λD H' hD s' Xl=>?_)
 ·(show ι (ω.mp hx) λl hm μ=>?_;subst μ)
  show⟨(ho l hm).1,qe⟩
 ·show nS (bs:=ls.map λ_=>true) (.inl (.inl ?_)) (Λ true (show true=_ by rw[agq];simp) ?_)
  ·rw[Xl]
   unfold tx;rw[ϣ,ϣ];rfl
  ·rw[Φ "!"]
   show q H' s'
def bJ:T.bT.O P w mg base 2 vA:=by
 walk_at "h ok bT EB R p";(revert h;show Xv λxs hp hl ho q=>?_);show(Λ _ (af (aQ (d8 (bg (aF (fz) (by rfl) T.uW Wk (am (Fz ["bounded"] ["bounded"] (Ο fP) ["thing","low","high"] (by show⟨rfl,s!"d",s!"d",s!"d",s!"d",s!"d",s!"d"⟩) (bb Ϯ) (λC₁ s₁ H₁ f₁=>(cg (n:=3) rfl (aH (aE (i:=0) (show Nx (α:=Str) ["thing","low","high","bounded"] by decide +kernel) rfl (ϵ rfl) (Vm rfl)) (aH (aE (i:=1) (show Nx (α:=Str) ["thing","low","high","bounded"] by decide +kernel) rfl (ϵ rfl) (Vm rfl)) (aH (aE (i:=2) (show Nx (α:=Str) ["thing","low","high","bounded"] by decide +kernel) rfl (ϵ rfl) (Vm rfl)) b9))))) (λC₁ s₁ H₁ f₁=>(ar T.r6 (pI T) hr ν (aj Ϯ (eC ϶ wv))))))) (by intro _;rfl))) dO au)) ?_);walk1;(show ι (id hp) λts Sh YK=>?_);show bS (.inl (.inl Sh)) (o6 hp (by rw[Θ];lk) (λys hys=>by (show ι (ω.mp hys) λs _ μ=>?_;subst μ);rfl) (λ_=>true) (λ_=>.bl true) ?_ ?_ ?_ ?_)
 ·rintro t ys H' o R hys s' ht Zf r
  (show ι (ω.mp hys) λx hx μ=>?_;subst μ);obtain⟨o1,o2,o3,rfl⟩:∃o1 o2 o3,o=[o1,o2,o3]:=by
   match o,Zf with
   | [o1,o2,o3],_=>show(UK o1 o2 o3 rfl)
  show(Fk t _ rfl (.inl (.inl ht)) rfl ?_);show(cr _ _ rfl (cr _ _ rfl (ϕ _ _ rfl rfl r)))
 ·intro ys H' hys s' Qt qt
  show qt H' (Ω.refl _)
 ·rintro ys H' hys - s' Qe qe
  (show ι (ω.mp hys) λx hx μ=>?_;subst μ);show⟨(ho x hx).1,(ho x hx).2,qe H' (Ω.refl _)⟩
 ·intro D H' hD s' Xl
  rw[dh,ϣ] at Xl;show nS (bs:=xs.map λ_=>true) (.inl (.inl ?_)) (Λ true (show true=_ by rw[agq];simp) ?_)
  ·rw[Xl,ϣ]
   rfl
  ·rw[Φ "!"]
   show q H' s'
def qf:T.r8.O P w mg base 3 vB:=by
 walk_at "h ok r8 EC T k V z2";(revert h;show Yq λo μ hk hkl ho=>Nl λhol q=>?_;subst μ);show(Λ _ (af (aQ (PW.pt (qx (d8 (bg (ar T.GG (Ek T) hr ν (am Ϯ)) (by intro _;rfl))) (k7 (d8 (bg (ar T.Eb (AE T) hr ν (am ϶)) (by intro _;rfl)))))) dO au)) ?_);walk1;show⟨hk,λH1 s1=>⟨?_,λH2 s2=>q H2 (s1.trans s2)⟩⟩;cases o with
 | none=>show .inl rfl
 | some w0=>show .inr (Λ w0 rfl (ho w0 rfl))
def sP:T.tq.O P w mg base 1 xw:=by
 walk_at "x ok tq Gq 1";(revert h;show ϭ λb μ q=>?_;subst μ);show(Λ _ (af (aQ (PW.pt (gQ (aw Bf Ϯ cS (ϧ _)) (fj (aw Bf Ϯ cS (ϧ _))))) (af dS) au)) ?_);walk1;cases b with
 | true=>rw[Φ "!"];show q
 | false=>rw[γ "!",Φ "!"];show q
def fb:T.fW.O P w mg base 5 (Dz (N7 a) a.ϖ):=by
 walk_at "h ok fW ED R z1 T n K life";(revert h;show v0 λt A0 μ=>N9 λd Z M m hA q=>?_;subst μ)
 show(Λ _ (ae (av (ar T.gW (gm T) hr ν (am (aU (am ϶)))))
   (ae (av (ar T.bT (bJ T) hr ν (am (aU (am (bf (aj wv (eC ah (bD T.dN)))))))))
   (af (av (aZ (ax K Ϯ) T.aJ T.i7 (iw T) hr ν (eC ϶ wv)))))) ?_)
 let h1:=hA.lo;let h2:=hA.hi;lia;show⟨"!",λp0 hp0=>(MD ([n]) aa (show 1<=9 by decide) (λl hl=>by rw[Ζ.mp hl];show⟨hA.nm,by have:=hA.nm.25;lk⟩) (λH1 s1=>⟨"!",λp1 Um=>⟨"!",λp4 hp4=>?_⟩⟩))⟩;let t4:=Ω.upd (o:=.lst [.ref p1]) hp4;show(MD ([(life,1,1000000000)]) (Λ ([p1]) aa (.cons (t4 _ _ aa) .nil)) (show 1<=9 by decide) (λy hy=>?_) (λH2 s2=>?_))
 ·rw[Ζ.mp hy]
  show⟨by show(1:Int)<=life;lk,by show(life:Int)<=1000000000;lk⟩
 let UF:=((Ω.upd hp0).trans s1).trans ((Ω.upd Um).trans (t4.trans s2));let S2:=hA.st.same UF;obtain⟨dx,MZ⟩:=S2.P3;obtain⟨Zb,hsn⟩:=S2.snd.30;show(ϰ _ dx _ MZ T.aC T.bh (Λ _ (cJ A0 t) ⟨Zb,_,hsn,rfl,?_⟩));show(Wq _ _ _ _ _ S2.85 hA.lf (q _ UF))
def yw:T.Au.OX P w mg base 6 (vG (N7 a) a.ϖ a.Mw):=by
 walk_at "h okX Au x8 R z1 T n K life";(revert h;show v0 λt A0 μ=>N9 λd Z M m hA q=>?_;subst μ)
 show(Λ _ (ae (PS.SW (av (ar T.fW (fb T) hr ν (aj Ϯ (eC ϶ wv)))))
   (ae (aG 3 x8 (aZ (ax K Ϯ) T.aL T.gK (gk T) hr Xa (am ϶)))
   (af (PS.SW (ao (bf (eC (aU (am (ar T.dk (cL T) hr ν (eC ai (aU (am MN)))))) MN))))))) ?_)
 lia;show(cr t A0 rfl (Sr d Z M m hA (λH1 s1=>?_)));let S1:=hA.st.same s1;let I1:=S1.44;obtain⟨dx,MZ⟩:=S1.P3;obtain⟨Wn,Wd⟩:=I1.22;show(ϰ _ dx _ MZ T.aC T.aO (Λ _ (bB A0 t) ⟨Wn,_,Wd,rfl,_,_,_,_,I1.79,?_⟩));rcases q with⟨j,hB,hj,q⟩ | ⟨hB,q⟩
 ·show .inl (ϡ _ hB "!" (λp hp=>(Fk _ (Q3 (j+1)) ?_ (bH 4 rfl) (dR ()) (λD H2 hD s2 eD=>⟨"!",λev Vk=>⟨"!",λtt YK=>?_⟩⟩))))
  ·rw[aa];rfl
  let UF:=s1.trans ((Ω.upd hp).trans s2);let s3:Ω H2 (upd H2 ev (.lst [.ref D])):=Ω.upd Vk;let s4:=Ω.upd (o:=.tup [.ref ev,.int (j+1)]) YK;show q tt ev _ [D] _ (UF.trans (s3.trans s4)) (aP UF Vk) (ic (aP (s1.trans (Ω.upd hp)) hD)) aa (MY.one (s4 _ _ aa) (s4 _ _ (s3 _ _ eD))) rfl
 ·show .inr ⟨hB,q H1 s1⟩
def wt:T.yk.OX P w mg base 6 (sY (N7 a) a.ϖ a.OI):=by
 walk_at "h okX yk vV R z1 T n K life K tu";(revert h;show v0 λt A0 μ=>N9 λd Z M m hA=>Qy λhlo hhi ht hlen q=>?_;subst μ)
 show(Λ _ (ae (PS.SW (av (ar T.bT (bJ T) hr ν (am (aU (am (bf (aj MN (eC ah (bD T.nv))))))))))
   (ae (PS.SW (av (ar T.fW (fb T) hr ν (aj Ϯ (eC ϶ wv)))))
   (ae (av (aZ (ax K Ϯ) T.aL T.gJ (gj T) hr Xa (am ϶)))
   (ae (PS.SW (aG 4 vV (jj (ax K Ϯ) T.aL T.cx.m (eX T) (hr.mono "!") T.cx.b .nil ν)))
   (af (PS.SW (ao (bf (eC (aU (am (ar T.dk (cL T) hr ν (eC ai (aU (aj (pv 4) (eC ϶ (aM (aX) (ax K Ϯ) MN)))))))) (pv 4)))))))))) ?_)
 lia;show⟨"!",λp1 Um=>⟨"!",λp4 hp4=>?_⟩⟩;let t4:=Ω.upd (o:=.lst [.ref p1]) hp4;show(MD ([(tu,1,1000)]) (Λ ([p1]) aa (.cons (t4 _ _ aa) .nil)) (show 1<=9 by decide) (λy hy=>?_) (λH2 s2=>?_))
 ·rw[Ζ.mp hy]
  show⟨by show(1:Int)<=tu;lk,by show(tu:Int)<=1000;lk⟩
 let UF:=(Ω.upd Um).trans (t4.trans s2);show(cr t A0 rfl (Sr d Z M m (hA.same UF) (λH3 s23=>?_)));let Yi:=UF.trans s23;let S3:=hA.st.same Yi;let I3:=S3.44;obtain⟨dx,MZ⟩:=S3.P3;obtain⟨Wn,Wd⟩:=I3.22;show(ϰ _ dx _ MZ T.aC T.aO (Λ _ (bB A0 t) ⟨Wn,_,Wd,rfl,_,_,_,_,I3.79,?_⟩));rcases q with⟨i,hB,q⟩ | ⟨hB,q⟩
 ·show .inr (Λ i hB (q H3 Yi))
 ·show .inl ⟨hB,?_⟩
  show(ϰ _ dx _ MZ T.aC T.aO (Λ _ (bB A0 t) ⟨Wn,_,Wd,rfl,_,_,_,_,I3.79,_,dx,_,MZ,T.aC,T.eQ,_,xH A0 t,⟨"!",λp hp=>(Fk _ (SA (m.M.ds.4+1) n (t+tu)) ?_ (bH 2 rfl) (rB hA.nm () ()) (λD H4 hD s4 eD=>⟨"!",λev Vk=>⟨"!",λtt YK=>?_⟩⟩))⟩⟩))
  ·rw[aa]
   rfl
  let s04:=Yi.trans ((Ω.upd hp).trans s4);let s5:Ω H4 (upd H4 ev (.lst [.ref D])):=Ω.upd Vk;let s6:=Ω.upd (o:=.tup [.ref ev,.int (m.M.ds.4+1)]) YK;show q tt ev _ [D] _ (s04.trans (s5.trans s6)) (aP s04 Vk) (ic (aP (Yi.trans (Ω.upd hp)) hD)) aa (MY.one (s6 _ _ aa) (s6 _ _ (s5 _ _ eD))) rfl
def wu:T.yl.OX P w mg base 6 (sZ (N7 a) a.ϖ a.Mw):=by
 walk_at "h okX yl dX R z1 T n K life";(revert h;show v0 λt A0 μ=>N9 λd Z M m hA q=>?_;subst μ)
 show(Λ _ (ae (PS.SW (av (ar T.fW (fb T) hr ν (aj Ϯ (eC ϶ wv)))))
   (ae (aG 3 dX (aZ (ax K Ϯ) T.aL T.gK (gk T) hr Xa (am ϶)))
   (ae (PS.SW (aG 4 dX (aU cX)))
   (ae (PS.SW (bE Ϛ rfl (bb (aZ (ax K Ϯ) T.aL T.lM (kD T) hr ν (am MN))) (cg rfl (aH (aE (i:=5) dX.nd rfl (ϵ rfl)) (aH (aE (i:=6) dX.nd rfl (ϵ rfl)) (aH (aE (i:=7) dX.nd rfl (ϵ rfl)) b9)))) dO))
   (ae (PS.SW (av (bM PySem.F.plainAttrs_list PySem.F.slot_list_append PySem.F.type_list_append br (pv 4) (am (ar T.dk (cL T) hr ν (eC ai (aU (am MN))))))))
   (af (PS.SW (ao (bf (eC (pv 4) (aZ (ax K Ϯ) T.aL T.ir (gN T) hr ν (am MN)))))))))))) ?_)
 show ahg λRz hRz=>?_;show(cr t A0 rfl (Sr d Z M m hA (λH1 s1=>?_)));let S1:=hA.st.same s1;let I1:=S1.44;obtain⟨dx,MZ⟩:=S1.P3;obtain⟨Wn,Wd⟩:=I1.22;show(ϰ _ dx _ MZ T.aC T.aO (Λ _ (bB A0 t) ⟨Wn,_,Wd,rfl,_,_,_,_,I1.79,?_⟩));rcases q with⟨j,e,hB,hj,he,he2,q⟩ | ⟨hB,q⟩
 ·show .inl (ϡ _ hB "!" (λev Vk=>?_))
  let sev:Ω H1 (upd H1 ev (.lst [])):=Ω.upd Vk;generalize hH2:upd H1 ev (.lst [])=H2 at sev ⊢;let ady:H2 ev=!.lst []:=by rw[<-hH2];show aa
  let S2:=S1.same sev;let I2:=S2.44;obtain⟨dx2,ahX⟩:=S2.P3;obtain⟨aps,apt⟩:=I2.22;rw[hRz];lia;show(ϰ _ dx2 _ ahX T.aC T.aO (Λ _ (bB A0 t) ⟨aps,_,apt,rfl,_,_,_,_,_,_,_,I2.dx,(ϕ j e rfl he (λL H3 hL s23 tl=>?_))⟩));rw[he2] at tl;(show ϱ tl.ZC λts sq tl' _=>?_);let ts0:=List.eq_nil_of_length_eq_zero tl';subst ts0;let Yi:=s1.trans (sev.trans s23);let X9:=aP s1 Vk;show bS (.inl (.inl sq)) (bY (λi σ H'=>H'=H3/\σ=[!V.ref A0.st,!V.str (S n),!V.int life,!V.int (j+1),!V.ref ev,none,none,none,none]) ⟨rfl,rfl⟩ (λi σ H' _ z=>by rw[z.1];show .inl (.inl sq)) (λi y σ H' hy=>by simp at hy) ?_)
  rintro σ H' ⟨rfl,rfl⟩
  let hE3:=(MY.nil ady).same s23;lia;show⟨.inl ⟨rfl,(N' _ (.inl (.inl hE3.28)))⟩,"!",λp hp=>(Fk _ (Q3 (j+1)) ?_ (bH 3 rfl) (dR ()) (λD H4 hD s4 eD=>?_))⟩
  ·rw[aa];rfl
  let s34:=(Ω.upd hp).trans s4;let hE4:=hE3.same s34;show(IB _ _ _ rfl rfl hE4.28 (by show 0 < _;decide) ?_);let hE5:=hE4.snoc (e:=.close (j+1)) eD;generalize hH5:upd H4 ev (.lst (([]).map V.ref++[.ref D]))=H5 at hE5 ⊢;let s05:Ω H H5:=by rw[<-hH5];show Ω.wr (Yi.trans s34) X9
  let S5:=hA.st.same s05;let I5:=S5.rest;obtain⟨dx5,ahZ⟩:=S5.P3;obtain⟨apv,apw⟩:=I5.22;show(ϰ _ dx5 _ ahZ T.aC T.aO (Λ _ (bB A0 t) ⟨apv,_,apw,rfl,_,_,_,_,_,_,_,I5.dx,(ϕ j e rfl he (λL2 H6 hL2 s56 tl6=>⟨"!",λtt YK=>?_⟩))⟩));let s7:=Ω.upd (o:=.tup [.ref ev,.ref L2]) YK;show q tt ev _ [D] _ (s05.trans (s56.trans s7)) X9 (ic (aP (Yi.trans (Ω.upd hp)) hD)) aa (hE5.same (s56.trans s7)) (ϡ L2 rfl (aP s05 hL2) (tl6.same s7))
 ·show .inr ⟨hB,q H1 s1⟩
def yx:T.Av.O P w mg base 3 (vH (N7 a) a.ϖ):=by
 walk_at "h ok Av jK R z1 K tu";(revert h;show v0 λt A0 μ=>N9 λd Z M m hS=>Qy λhlo hhi ht hlen q=>?_;subst μ)
 show(Λ _ (ae (av (ar T.bT (bJ T) hr ν (am (aU (am (bf (aj ϶ (eC ah (bD T.nv)))))))))
   (ae (aG 2 jK (aM (aX) (ax K Ϯ) ϶))
   (ae (aG 3 jK (aU (am (ar T.dk (cL T) hr ν (eC ai (aU (am wv)))))))
   (ae (bE Ϛ rfl (bb (aZ (ax K Ϯ) T.aL T.pS (oK T) hr ν (am wv))) (aE (i:=4) jK.nd rfl (ϵ rfl)) (af (av (bM PySem.F.plainAttrs_list PySem.F.slot_list_append PySem.F.type_list_append br MN (am (ar T.dk (cL T) hr ν (eC ai (aU (am (pv 4))))))))))
   (af (ao (bf (eC MN wv)))))))) ?_)
 show ahg λRz hRz=>?_;lia;show⟨"!",λp1 Um=>⟨"!",λp4 hp4=>?_⟩⟩;let t4:=Ω.upd (o:=.lst [.ref p1]) hp4;show(MD ([(tu,1,1000)]) (Λ ([p1]) aa (.cons (t4 _ _ aa) .nil)) (show 1<=9 by decide) (λy hy=>?_) (λH2 s2=>?_))
 ·rw[Ζ.mp hy]
  show⟨by show(1:Int)<=tu;lk,by show(tu:Int)<=1000;lk⟩
 let UF:=(Ω.upd Um).trans (t4.trans s2);obtain⟨dx,MZ⟩:=(hS.same UF).P3;show(ϰ _ dx _ MZ T.aC T.eQ (Λ _ (xH A0 t) ?_));rw[hV];let ett:(t+(tu:Int))=((t+tu:Nat):Int):=by push_cast;rfl
 rw[ett];show⟨"!",λp hp=>(Fk _ (Xj (t+tu)) ?_ (bH 5 rfl) (uj ()) (λD H3 hD s3 eD=>⟨"!",λev Vk=>?_⟩))⟩
 ·rw[aa];rfl
 let Yi:=UF.trans ((Ω.upd hp).trans s3);let X9:=aP Yi Vk;let hE4:MY (upd H3 ev (.lst [.ref D])) ev [D] [.turn (t+tu)]:=MY.one aa ((Ω.upd Vk) _ _ eD);let s04:Ω H (upd H3 ev (.lst [.ref D])):=Yi.trans (Ω.upd Vk);generalize upd H3 ev (.lst [.ref D])=H4 at hE4 s04 ⊢;let S4:=hS.same s04;let I4:=S4.44;obtain⟨dx4,abI⟩:=S4.P3;obtain⟨apx,apy⟩:=I4.22;rw[hRz];lia;show(ϰ _ dx4 _ abI T.aC T.aO (Λ _ (bB A0 t) ⟨apx,_,apy,rfl,_,_,_,_,I4.79,hlen,λL H5 hL s45 eL=>?_⟩));let nLe:L≠ev:=λz=>by rw[z,hE4.28] at hL;cases hL
 let hov:∀i∈OB m.M ((t+tu:Nat)) m.M.ds.4,∃j:Nat,i=(j:Int)+1/\j < 1000:=λi hi=>by
  unfold OB at hi;(show ι (ω.mp hi) λj hj μ=>?_;subst μ);have:=Ow.mp (Nh.mp hj).1;show(Λ j rfl ())
 let lov:(OB m.M ((t+tu:Nat)) m.M.ds.4).4<=1000:=by
  unfold OB;rw[Θ];have:=sB (odd m.M ((t+tu:Nat))) (Ϟ m.M.ds.4);rw[rc] at this;lk
 generalize OB m.M ((t+tu:Nat)) m.M.ds.4=ov at q eL hov lov;show bS (.inl (.inl eL)) (bY (λi σ H'=>(∃v,σ=[!V.ref A0.st,!V.int tu,!(V.int ((t+tu:Nat):Int)),!V.ref ev,v])/\Ω H H'/\H' L=!.lst (ov.map V.int)/\∃Ds,(∀D∈Ds,H D=none)/\MY H' ev Ds (.turn (t+tu)::(ov.take i).map λi=>.drop i.6)) ⟨⟨none,rfl⟩,s04.trans s45,eL,(Λ ([D]) (ic (aP (UF.trans (Ω.upd hp)) hD)) (hE4.same s45))⟩ (λi σ H' _ z=>.inl (.inl z.2.2.1)) ?_ ?_)
 ·rintro i x σ H' hx ⟨⟨v,rfl⟩,s',eL',Ds,hDs,hE'⟩
  rw[Ρ] at hx;(show ι (ξ.mp hx) λy hy μ=>?_;subst μ);(show ι (hov y (Δ hy)) λj μ hj=>?_;subst μ);let hlD:=hE'.25;lia;show⟨.inl ⟨rfl,(N' _ (.inl (.inl hE'.28)))⟩,"!",λp hp=>(Fk _ (Q3 (j+1)) ?_ (bH 4 rfl) (dR ()) (λD' H6 hD' s6 eD'=>?_))⟩
  ·rw[aa];rfl
  let s67:=(Ω.upd hp).trans s6;let hE6:=hE'.same s67;show(IB _ _ _ rfl rfl hE6.28 ?_ ?_)
  ·let z:5000<=sizeLine:=by decide
   simp only[ς,Θ,eF] at hlD;rw[Θ];lk
  show⟨⟨_,rfl⟩,Ω.wr (s'.trans s67) X9,?_,(Λ (Ds++[D']) (uk hDs (aP (s'.trans (Ω.upd hp)) hD')) ?_)⟩
  ·rw[ag nLe];show s67 _ _ eL'
  ·have:=hE6.snoc (e:=.drop (j+1)) eD'
   let XA:ov.take (i+1)=ov.take i++[(j:Int)+1]:=by rw[Ϲ,hy];rfl
   rw[XA,ϐ];show this
 ·rintro σ H' ⟨⟨v,rfl⟩,s',eL',Ds,hDs,hE'⟩
  lia;show⟨"!",λtt YK=>?_⟩;rw[Θ,bv] at hE';let s7:=Ω.upd (o:=.tup [.ref ev,.int ((t+tu:Nat):Int)]) YK;show q tt ev _ Ds _ (s'.trans s7) X9 hDs aa (hE'.same s7) rfl
def yy:T.As.O P w mg base 4 (vI (N7 a) a.ϖ):=by
 walk_at "h ok As jJ R z1 T n";(revert h;show v0 λt A0 μ=>SS λd Z M=>Qz λm kk hS hn hkk hk9 q=>?_;subst μ)
 show(Λ _ (ae (av (ar T.gW (gm T) hr ν (am (aU (am ϶)))))
   (ae (aG 2 jJ (aU cX))
   (ae (aG 3 jJ (aZ (ax K Ϯ) T.aL T.eZ (eN T) hr ν (am ϶)))
   (ae (aQ (aw (eA (hU hr)) MN ah (ϧ _)) (af (av (bM PySem.F.plainAttrs_list PySem.F.slot_list_append PySem.F.type_list_append br wv (am (ar T.dk (cL T) hr ν (eC ai (aU (am MN)))))))) au)
   (ae (aG 4 jJ (aM (aX) (aZ (ax K Ϯ) T.aJ T.gL (gh T) hr ν (am ϶)) ah))
   (ae (av (bM PySem.F.plainAttrs_list PySem.F.slot_list_append PySem.F.type_list_append br wv (am (ar T.dk (cL T) hr ν (eC ai (aU (eC ϶ (pv 4))))))))
   (af (ao (bf (eC wv (bf (eC (pv 4) (aZ (ax K Ϯ) T.aJ T.m9 (lT T) hr ν (am ϶)))))))))))))) ?_)
 show ahh λRz hRz=>?_;lia;show⟨"!",λp0 hp0=>(MD ([n]) aa (show 1<=9 by decide) (λl hl=>by rw[Ζ.mp hl];show⟨hn,by have:=hn.25;lk⟩) (λH1 s1=>⟨"!",λev Vk=>?_⟩))⟩;let s01:=(Ω.upd hp0).trans s1;generalize hH2:upd H1 ev (.lst [])=H2;let UF:Ω H H2:=by rw[<-hH2];show s01.trans (Ω.upd Vk)
 let ady:H2 ev=!.lst []:=by rw[<-hH2];show aa
 let X9:=aP s01 Vk;let S2:=hS.same UF;let I2:=S2.44;obtain⟨dx,MZ⟩:=S2.P3;obtain⟨Wn,Wd⟩:=I2.22;show(ϰ _ dx _ MZ T.aC T.aO (Λ _ (bB A0 t) ⟨Wn,_,Wd,rfl,_,_,_,_,I2.79,?_⟩));let fin:∀es Ds H3,Ω H H3->MY H3 ev Ds es->(∀D∈Ds,H D=none)->Ds.4<=5->QC H (es++[.GM n kk]) (λu H'=>∃v,u=.ref v/\H' v=!(.tup [.int kk,.int (if (M.S.L (S n)).12=true then M.S.T (S n) else 0)])) Q->∀dv,Rz { nx:=λx H'=>Q V.k4 H',rt:=Q } [!V.ref A0.st,!V.str (S n),!V.ref ev,!dv,none] H3:=λes Ds H3 Yi hE hDs hl5 q dv=>by
  let S3:=hS.same Yi;obtain⟨dx3,afi⟩:=S3.P3;obtain⟨ah0,ah1⟩:=S3.snd.30;rw[hRz];lia;show(ϰ _ dx3 _ afi T.aC T.bh (Λ _ (cJ A0 t) ⟨ah0,_,ah1,rfl,_,_,_,_,_,S3.85,?_⟩));lia;rw[<-hkk];show⟨.inl ⟨rfl,(N' _ (.inl (.inl hE.28)))⟩,"!",λp hp=>(Fk _ (Xe n kk) aa (bH 0 rfl) (oh hn hk9) (λD H4 hD s4 eD=>?_))⟩;let s34:=(Ω.upd hp).trans s4;let hE4:=hE.same s34;let z:5000<=sizeLine:=by decide
  show(IB _ _ _ rfl rfl hE4.28 (by rw[Θ];lk) ?_);let hE5:=hE4.snoc (e:=.GM n kk) eD;generalize hH5:upd H4 ev (.lst (Ds.map V.ref++[.ref D]))=H5 at hE5 ⊢;let s05:Ω H H5:=by rw[<-hH5];show Ω.wr (Yi.trans s34) X9
  let S5:=hS.same s05;obtain⟨dx5,ahZ⟩:=S5.P3;obtain⟨apA,apB⟩:=S5.snd.obj;show(ϰ _ dx5 _ ahZ T.aC T.bh (Λ _ (cJ A0 t) ⟨apA,_,apB,rfl,_,_,_,_,_,S5.snd,"!",λu hu=>⟨"!",λtt YK=>?_⟩⟩));let s6:=Ω.upd (o:=.tup [.int kk,.int (if (M.S.L (S n)).12=true then M.S.T (S n) else 0)]) hu;let s7:=Ω.upd (o:=.tup [.ref ev,.ref u]) YK;show q tt ev _ _ _ (s05.trans (s6.trans s7)) X9 (uk hDs (aP (Yi.trans (Ω.upd hp)) hD)) aa (hE5.same (s6.trans s7)) (Λ u rfl (s7 _ _ aa))
 rcases q with⟨hB,q⟩ | ⟨j,hB,hj,q⟩
 ·rw[hB]
  lia;rw[Φ ∅];show fin [] [] H2 UF (MY.nil ady) (λ_ z=>nomatch z) "!" q _
 ·rw[hB]
  lia;rw[γ (by simp;lk)];show⟨.inl ⟨rfl,(N' _ (.inl (.inl ady)))⟩,"!",λp hp=>(Fk _ (Q3 (j+1)) ?_ (bH 4 rfl) (dR ()) (λD H3 hD s3 eD=>?_))⟩
  ·rw[aa];rfl
  let s23:=(Ω.upd hp).trans s3;let hE3:=(MY.nil ady).same s23;show(IB _ _ _ rfl rfl hE3.28 (by show 0 < _;decide) (fin [.drop (j+1)] [D] _ (Ω.wr (UF.trans s23) X9) (hE3.snoc eD) (ic (aP (UF.trans (Ω.upd hp)) hD)) (by show 1<=5;decide) q _))
def AL:T.Ec.O P w mg base 5 (xI (N7 a) a.ϖ):=by
 walk_at "h ok Ec lF R z1 T n K life K num T shf R lt K dd";(revert h;show v0 λt0 A0 μ=>L6 λda Z M md key wo=>SS λj i pl=>MM λx m OM hP hQ=>?_;subst μ)
 show(Λ _ (ae (av (ar T.gW (gm T) hr ν (am (aU (eC ϶ (pv 4))))))
   (ae (av (ar T.bT (bJ T) hr ν (am (aU (aj (bf (aj wv (eC ah (bD T.dN)))) (eC (bf (aj MN (eC ah (bD T.dN)))) (bf (aj (pv 6) (eC ah (bD T.dN))))))))))
   (ae (av (ar T.r8 (qf T) hr ν (eC (ak K hr (pv 5) ah) (ak K hr (pv 5) ah))))
   (ae (av (aZ (ax K Ϯ) T.aJ T.dZ (dG T) hr ν (am ϶)))
   (ae (aG 7 lF (aZ (ax K Ϯ) T.bU T.m6 (lX T) hr ν (eC (pv 4) (ak K hr (pv 5) ah))))
   (ae (av (aZ (ax K Ϯ) T.aJ T.i7 (iw T) hr ν (eC ϶ wv)))
   (ae (aG 8 lF (aZ (ax K Ϯ) T.aJ T.m8 (lV T) hr ν (eC ϶ MN)))
   (ae (aQ (k6 (kf (pv 8))) (af (ao (bf (eC (aU cX) (pv 8))))) au)
   (ae (aQ (PW.pt (gQ (aw (eA (hU hr)) (pv 6) ah (ϧ _)) (fj (aw (eA (hU hr)) (pv 6) (aZ (ax K Ϯ) T.aL T.eZ (eN T) hr ν (am ϶)) (ϧ _))))) (af dS) au)
   (ae (aG 9 lF (ax K (ak K hr (ax K Ϯ) (pv 7))))
   (af (ao (bf (eC (aU (am (ar T.dk (cL T) hr ν (eC ai (aU (aj ϶ (aj MN (aj (pv 6) (aj (pv 7) (aj (pv 9) (eC (ak K hr (pv 5) ah) (ak K hr (pv 5) ah)))))))))))) (bf (eC (pv 7) (pv 9))))))))))))))))) ?_)
 walk_at "e1";obtain⟨⟨hS,hnm,YF,XC,hL⟩,hsh,hky,hwd,hwl,hnu,hdd,hop,acT,hxn,alg,hi,hm,Pm,avi⟩:=hP;show⟨"!",λp0 hp0=>(MD ([n,shf]) aa (show 2<=9 by decide) (λl hl=>?_) (λH1 s1=>?_))⟩
 ·simp only[Κ,Μ,χ] at hl
  rcases hl with rfl | rfl
  ·show⟨hnm,by have:=hnm.25;lk⟩
  ·show⟨hsh,by have:=hsh.25;lk⟩
 walk_at "ex";show⟨"!",λp1 Um=>⟨"!",λp2 W6=>⟨"!",λp3 hp3=>⟨"!",λp4 hp4=>?_⟩⟩⟩⟩;let t2:=Ω.upd (o:=.tup [.int num,.int 1,.int 1000000000]) W6;let t3:=Ω.upd (o:=.tup [.int dd,.int 0,.int 1000000000]) hp3;let t4:=Ω.upd (o:=.lst [.ref p1,.ref p2,.ref p3]) hp4;show(MD ([(life,1,1000000000),(num,1,1000000000),(dd,0,1000000000)]) (Λ ([p1,p2,p3]) aa ?_) (show 3<=9 by decide) (λy hy=>?_) (λH2 s2=>?_))
 ·show .cons (t4 _ _ (t3 _ _ (t2 _ _ aa))) (.cons (t4 _ _ (t3 _ _ aa)) (.cons (t4 _ _ aa) .nil))
 ·simp only[Κ,Μ,χ] at hy
  rcases hy with rfl | rfl | rfl
  ·show⟨by show(1:Int)<=life;lk,by show(life:Int)<=1000000000;lk⟩
  ·show⟨by show(1:Int)<=num;lk,by show(num:Int)<=1000000000;lk⟩
  ·show⟨by show(0:Int)<=dd;lk,by show(dd:Int)<=1000000000;lk⟩
 let UF:=((Ω.upd hp0).trans s1).trans ((Ω.upd (o:=.tup [.int life,.int 1,.int 1000000000]) Um).trans (t2.trans (t3.trans (t4.trans s2))));walk_at "ex";let l2:Of K H2 lt [.str (S key),wV wo]:=.inl (.inl (UF _ _ OM));show bc l2 rfl (bc l2 rfl (TW wo rfl hky (by have:=hky.25;change key.4<=1000;lk) hwd (λw hw=>by have:=hwl w hw;lk) (λH3 s3=>?_)));let Yi:=UF.trans s3;let S3:=hS.same Yi;obtain⟨dx3,afi⟩:=S3.P3;obtain⟨ah0,ah1⟩:=S3.snd.30;obtain⟨apD,apE⟩:=S3.WB.30;let l3:Of K H3 lt [.str (S key),wV wo]:=.inl (.inl (Yi _ _ OM));walk_at "ex";show(ϰ _ dx3 _ afi T.aC T.bh (Λ _ (cJ A0 t0) ⟨ah0,_,ah1,rfl,_,_,_,_,_,S3.85,by rw[hL];rfl,?_⟩));walk_at "ex";show(ϰ _ dx3 _ afi T.aC T.cI (Λ _ (o7 A0 t0) ⟨apD,_,apE,rfl,bc l3 rfl (ϕ _ _ S3.WB S3.VH (ϕ j x acT hxn (λH4 s4=>?_)))⟩));let s04:=Yi.trans s4;let S4:=hS.same s04;obtain⟨dx4,abI⟩:=S4.P3;obtain⟨alh,ali⟩:=S4.snd.30;walk_at "ex";show(ϰ _ dx4 _ abI T.aC T.bh (Λ _ (cJ A0 t0) ⟨alh,_,ali,rfl,?_⟩));show(Wq _ _ _ _ _ S4.85 hL ?_);walk_at "ex";show(ϰ _ dx4 _ abI T.aC T.bh (Λ _ (cJ A0 t0) ⟨alh,_,ali,rfl,_,_,_,_,_,S4.85,by rw[hL];rfl,alg,?_⟩));walk_at "ex";show(Λ _ rfl ?_);rw[Φ ∅];walk_at "ex";let fin:Rz { nx:=λx H'=>Q V.k4 H',rt:=Q } [!V.ref A0.st,!V.str (S n),!V.int life,!V.int num,!V.str (S shf),!V.ref lt,!V.int dd,!(V.int ((Uw M.xs j x key:Nat))),!V.k4,none] H4:=by
  let hi':Uw M.xs j x key=i:=by lk
  rw[hi'];let Qw:i < A0.rs.4:=by rw[<-hS.On];show(Α.mp hm).1
  let OW:A0.rs[i]?=some A0.rs[i]:=by simp
  let X8:A0.ds[i]?=!(A0.ds[i]'(by rw[hS.43];show Qw)):=by simp
  generalize A0.rs[i]=r at OW;generalize A0.ds[i]'(by rw[hS.43];show Qw)=d at X8;obtain⟨dxr,PK⟩:=(S4.row i r d m OW X8 hm).30;let hrr:G' K H4 A0.rl (A0.rs.map V.ref):=.inl (.inl S4.Qi);let l4:Of K H4 lt [.str (S key),wV wo]:=.inl (.inl (s04 _ _ OM));walk_at "es";show(ϰ _ dx4 _ abI T.aC T.cV (Λ _ (jv A0 t0) (bx (v:=.ref r) hrr (bj () (by rw[Ϝ,Ρ,OW];rfl)) (ϰ _ dxr _ PK T.cQ T.dM ?_))));show(Λ _ rfl (bc l4 rfl (bc l4 rfl ?_)));rw[Pm];let hxl:=jw hS;let hx9:=hS.VH.hi;show⟨"!",λp hp=>(Fk _ (VG n num dd i pl key wo) aa (bH 1 rfl) (xy hnm () () () () hky hwd hwl) (λD H5 hD s5 eD=>⟨"!",λev Vk=>⟨"!",λu hu=>⟨"!",λt ht=>?_⟩⟩⟩))⟩;let s05:=s04.trans ((Ω.upd hp).trans s5);let s6:=Ω.upd (o:=.lst [.ref D]) Vk;let s7:=Ω.upd (o:=.tup [.int i,.int pl]) hu;let s8:=Ω.upd (o:=.tup [.ref ev,.ref u]) ht;show hQ t ev _ [D] _ (s05.trans (s6.trans (s7.trans s8))) (aP s05 Vk) (ic (aP s04 (aP (Ω.upd hp) hD))) aa (MY.one (e:=.put n num dd i pl key wo) (s8 _ _ (s7 _ _ aa)) (s8 _ _ (s7 _ _ (s6 _ _ eD)))) (Λ u rfl (s8 _ _ aa))
 rcases hop with h0 | hop
 ·rw[Φ (by rw[h0];simp)]
  show fin
 ·by_cases h0:dd=0
  ·rw[Φ (by rw[h0];simp)]
   show fin
  ·rw[γ (by simp;lk)]
   let I4:=S4.44;obtain⟨Wn,Wd⟩:=I4.22;show(ϰ _ dx4 _ abI T.aC T.aO (Λ _ (bB A0 t0) ⟨Wn,_,Wd,rfl,_,_,_,_,I4.79,?_⟩));rw[hop];lia;rw[Φ ∅];show fin
def sQ:T.tw.O P w mg base 5 (DB (N7 a) a.ϖ):=by
 walk_at "h ok tw Gr R z1 K r";(revert h;show v0 λt A0 μ=>N9 λd Z M m hS=>Nl λOW q=>?_;subst μ);show(Λ _ (af (av (aZ (ax K Ϯ) T.bU T.lO (kB T) hr ν (am ϶)))) ?_);obtain⟨dx,MZ⟩:=hS.P3;obtain⟨dxh,hsh⟩:=hS.WB.30;rw[hS.25] at OW;(show Nm (rm _ (δ _) OW) λkx x hx h1 h2=>?_);show(ϰ _ dx _ MZ T.aC T.cI (Λ _ (o7 A0 t) ⟨dxh,_,hsh,rfl,_,_,hS.WB,hS.VH,kx,x,hx,(),(),q⟩))
def nA:T.pE.O P w mg base 6 (tf (N7 a) a.ϖ):=by
 walk_at "h ok pE Iu R z1 K r";(revert h;show v0 λt A0 μ=>N9 λd Z M m hS=>Nl λOW q=>?_;subst μ)
 show(Λ _ (ae (av (ar T.bT (bJ T) hr ν (am (aU (am (bf (aj ϶ (eC ah (bD T.dN)))))))))
   (af (av (ar T.tw (sQ T) hr ν (eC Ϯ ϶))))) ?_)
 lia;let l1:=jw hS;let l2:=hS.VH.hi;show⟨"!",λp1 Um=>⟨"!",λp2 W6=>(MD ([(r,0,1000000000)]) (Λ ([p1]) aa (.cons (Ω.upd W6 _ _ aa) .nil)) (show 1<=9 by decide) (λy hy=>?_) (λH1 s1=>?_))⟩⟩
 ·rw[Ζ.mp hy]
  show⟨by show(0:Int)<=r;lk,by show(r:Int)<=1000000000;lk⟩
 ·let s01:=(Ω.upd Um).trans ((Ω.upd W6).trans s1)
  show(cr t A0 rfl (Sr d Z M m (hS.same s01) ⟨OW,q _ s01⟩))
def gO:T.iu.O P w mg base 6 (vJ (N7 a) a.ϖ):=by
 walk_at "h ok iu BB R z1 K r";(revert h;show v0 λt A0 μ=>N9 λd Z M m hS=>N8 λOW hF q=>?_;subst μ);show(Λ _ (af (ao (ak K hr (ar T.GJ (Er T) hr ν (eC (cZ ["self","row"] ["self","row"] (Ο eK) (s!"c") (bb (ax K Ϯ)) (λC₁ s₁ H₁ f₁=>(ax K Ϯ))) (jj (ax K Ϯ) T.aL T.kR.m (sM T) (hr.mono "!") T.kR.b .nil ν))) ϶))) ?_);lia;obtain⟨dx,MZ⟩:=hS.P3;let hrr:G' K H A0.rl (A0.rs.map V.ref):=.inl (.inl hS.Qi);let l1:=jw hS;let l2:=hS.VH.hi;show(ϰ _ dx _ MZ T.aC T.cV (Λ _ (jv A0 t) (bS hrr (gq (by rw[Θ];unfold sizeLine;lk) (λD i ys H'=>H D=none/\Ω H H'/\H' D=!.lst ys/\ys=(M.Ms.take i).map λm=>V.int m.19) (λD hD=>⟨hD,Ω.upd hD,aa,rfl⟩) (λD i ys H' hi ⟨_,s,e,hy⟩=>⟨e,by rw[hy,Θ,eF];lk,s.seq hrr⟩) (λD i ys H' v hD hv ⟨_,s,e,hy⟩ Qe qe=>?_) (λD ys H' hD ⟨_,s,e,hy⟩=>?_)))))
 ·rw[Ρ] at hv
  (show ι (ξ.mp hv) λr1 OW μ=>?_;subst μ);let Qw:=(Α.mp OW).1;let hm1:M.Ms[i]?=!(M.Ms[i]'(by rw[hS.On];show Qw)):=by simp
  let X8:A0.ds[i]?=!(A0.ds[i]'(by rw[hS.43];show Qw)):=by simp
  obtain⟨dxr,PK⟩:=(hS.row i r1 _ _ OW X8 hm1).30;lia;show(ϰ _ dxr _ (s _ _ PK) T.cQ T.dM (Λ _ rfl (qe _ _ e ⟨hD,Ω.wr s hD,aa,?_⟩)));rw[hy,Ϲ,hm1,ϐ];rfl
 ·rw[Θ,<-hS.On,bv] at hy
  let S1:=hS.same s;let I1:=S1.44;obtain⟨dx1,aff⟩:=S1.P3;obtain⟨apH,apI⟩:=I1.22;let ld:=I1.dx.da.25;let lx:=I1.dx.l3;show(ϰ _ dx1 _ aff T.aC T.aO (Λ _ (bB A0 t) ⟨apH,_,apI,rfl,_,_,_,_,_,_,_,I1.dx,hF.dl,λD1 ts ls H2 hD1 s2 e2 pa _ _=>?_⟩));show(TV (Qj m) (FB M) (ahz e2 pa ()) (.inl (.inl (by rw[s2 _ _ e,hy];unfold FB;rw[ϣ];rfl))) ?_ hF.sm (λB e' H3 hB s3 eB fr nn=>?_))
  ·unfold FB;rw[Θ];show hF.wf
  let nn':=nn λi=>by
   unfold FB;rw[ε,Ρ];cases hmi:M.Ms[i]? with
   | none=>show Oe _
   | some mm=>
    let Qw:=(Α.mp hmi).1;let q1:=hS.On;let q2:=hS.43;let R:=hS.row i _ _ mm (Ε ()) (Ε ()) hmi;have:=R.f0;have:=R.fl;show(0:Int)<=mm.19;lk
  let Vg:e'.4=M.Ms.4:=by rw[fr.le.1];unfold FB;rw[Θ]
  let hre:r < e'.4:=by rw[Vg,hS.On];show OW
  let hg:e'[r]?=!e'.getD r 0:=by rw[ε,Ε hre];rfl
  show bx (.inl (.inl eB)) (bj () (by rw[Ϝ,Ρ,hg];rfl)) ?_;show q e' H3 (s.trans (s2.trans s3)) fr nn'
def wx:T.ym.O P w mg base 7 (tj (N7 a) a.ϖ):=by
 walk_at "h ok ym vW R z1 K r K start K most B wh";(revert h;show v0 λt A0 μ=>aef λda Z M md m hS hF hm hs0 hm0 hf=>Nl λhl q=>?_;subst μ)
 show(Λ _ (ae (av (ar T.bT (bJ T) hr ν (am (aU (eC (bf (aj wv (eC ah (bD T.dN)))) (bf (aj MN (eC ah (bD T.sD)))))))))
   (ae (av (ar T.tq (sP T) hr ν (am (pv 4))))
   (ae (av (ar T.pE (nA T) hr ν (eC Ϯ ϶)))
   (ae (aG 5 vW (ak K hr (ax K Ϯ) ϶))
   (ae (aQ (aw dU wv (ax K (pv 5)) (ϧ _)) (af dS) au)
   (af (ao (aZ (pv 5) T.cQ T.Aw (yr T) hr ν (aj wv (eC (qy (bg (pv 4) (by intro _;rfl)) (aZ Ϯ T.aC T.iu (gO T) hr ν (am ϶)) (ax K (pv 5))) MN)))))))))) ?_)
 lia;show⟨"!",λp1 Um=>⟨"!",λp2 W6=>⟨"!",λp3 hp3=>(MD ([(start,0,1000000000),(most,1,1000)]) (Λ ([p1,p2]) aa ?_) (show 2<=9 by decide) (λy hy=>?_) (λH1 s1=>?_))⟩⟩⟩
 ·show .cons (Ω.upd hp3 _ _ (Ω.upd W6 _ _ aa)) (.cons (Ω.upd hp3 _ _ aa) .nil)
 ·simp only[Κ,Μ,χ] at hy
  rcases hy with rfl | rfl
  ·show⟨by show(0:Int)<=start;lk,by show(start:Int)<=1000000000;lk⟩
  ·show⟨by show(1:Int)<=most;lk,by show(most:Int)<=1000;lk⟩
 let s01:=(Ω.upd Um).trans ((Ω.upd W6).trans ((Ω.upd hp3).trans s1));let Qw:r < A0.rs.4:=by rw[<-hS.On];show(Α.mp hm).1
 show(Λ wh rfl (cr t A0 rfl (Sr da Z M md (hS.same s01) ⟨Qw,λH2 s2=>?_⟩)));let UF:=s01.trans s2;let S2:=hS.same UF;obtain⟨dx,MZ⟩:=S2.P3;let OW:A0.rs[r]?=some A0.rs[r]:=by simp
 let X8:A0.ds[r]?=!(A0.ds[r]'(by rw[hS.43];show Qw)):=by simp
 generalize A0.rs[r]=rr at OW;generalize A0.ds[r]'(by rw[hS.43];show Qw)=d at X8;let R:=S2.row r rr d m OW X8 hm;obtain⟨dxr,PK⟩:=R.30;let hrr:G' K H2 A0.rl (A0.rs.map V.ref):=.inl (.inl S2.Qi);show(ϰ _ dx _ MZ T.aC T.cV (Λ _ (jv A0 t) (bx (v:=.ref rr) hrr (bj () (by rw[Ϝ,Ρ,OW];rfl)) (ϰ _ dxr _ PK T.cQ T.iP (Λ _ rfl ?_)))));lia;rw[Φ (by simp;lk)];show(ϕ dxr _ PK rfl ?_);let fl:=R.fl;cases wh with
 | true=>
  show(Λ _ rfl ?_);show(ϕ dx _ MZ rfl (cr t A0 rfl (UO da Z M md S2 Qw hF (λe H3 s3 fr nn=>?_))));let hle:e.getD r 0<=m.19:=by
   have:=fr.le.2 r;unfold FB at this;rw[ε (l:=M.Ms.map (·.last)),Ρ,hm] at this;show this
  show(Ys d m (R.same s3) () () hf (nn r) hle ⟨(),λD H4 hD s4 hL=>q.1 rfl e fr nn D H4 (aP (UF.trans s3) hD) (UF.trans (s3.trans s4)) hL⟩)
 | false=>
  show(Λ _ rfl ?_);rw[Φ "!"];show(ϰ _ dxr _ PK T.cQ T.dM (Λ _ rfl ⟨d,m,R,(),(),hf,(),Oe _,(),λD H4 hD s4 hL=>q.2 rfl D H4 (aP UF hD) (UF.trans s4) hL⟩))
def kE:T.lL.O P w mg base 3 zH:=by
 walk_at "h ok lL cw R p";(revert h;show Xv λxs hL ok h3 q=>?_)
 show(Λ _ (ae (aG 1 cw (aU (am ai)))
   (ae (bE Ϛ rfl (bb Ϯ) (cg rfl (aH (aE (i:=2) cw.nd rfl (ϵ rfl)) (aH (aE (i:=3) cw.nd rfl (ϵ rfl)) (aH (aE (i:=4) cw.nd rfl (ϵ rfl)) b9)))) (af (av (bM (K:=K) PySem.F.plainAttrs_list PySem.F.slot_list_extend PySem.F.type_list_extend BS ϶ (am (aU (aj wv (eC (bI (fC (K:=K)) rfl T.pH RP (am MN)) (pv 4)))))))))
   (af (ao (ar T.yi (uY T) hr ν (am ϶)))))) ?_)
 lia;(revert hL;show ϭ λts e hT=>?_);let hlen:ts.4=xs.4:=by rw[hT.4,Θ]
 show⟨"!",λu hu=>?_⟩;let s1:=Ω.upd (o:=.lst [.str "shelves"]) hu;show bS (.inl (.inl (s1 _ _ e))) (bY (λi σ H'=>Ω H H'/\H' u=!.lst (tx (VI xs i))/\∃v2 v3 v4,σ=[!V.ref p,!V.ref u,v2,v3,v4]) ⟨s1,aa.trans (by rfl),(UK _ _ _ rfl)⟩ (λi σ H' _ h=>.inl (.inl (h.1 _ _ e))) ?_ ?_)
 ·rintro i y σ H' hy ⟨s',eu,v2,v3,v4,rfl⟩
  rw[Ρ] at hy;(show ι (ξ.mp hy) λt hti μ=>?_;subst μ);(show ι (hT.get hti) λys h1 h2=>?_);rw[Ρ] at h1;(show ι (ξ.mp h1) λy Yh μ=>?_;subst μ);let hTt:Of K H' t y.v:=.inl (.inl (s' _ _ h2));let h9:=(ok.each y (Δ Yh)).2.1;let hl3:=rn (xs:=xs) i;lia;show(Fk _ _ rfl hTt rfl (cr _ _ rfl (cr _ _ rfl (Fk _ _ rfl rfl (.inl ⟨rfl,(N' _ (.inl (.inl eu)))⟩) (MD _ rfl (eE () ()) "!" (λw hw=>?_))))));let s2:=Ω.upd (o:=.lst [.str (S y.59),.str (S (MO y.40)),.str y.62]) hw;show(SV u w _ _ rfl rfl (s2 _ _ eu) aa ⟨ο (show(tx (VI xs i)).4+3<=20 by unfold tx;rw[Θ];lk) "!",⟨Ω.wr (s'.trans s2) hu,?_,(UK _ _ _ rfl)⟩⟩);rw[Dp Yh];show aa
 ·rintro σ H' ⟨s',eu,v2,v3,v4,rfl⟩
  rw[Θ,hlen] at eu;let hl3:=rn (xs:=xs) xs.4;let hl4:=xA (λa ha=>(vD ok xs.4 a ha).1);show(ϡ _ (.inl (.inl eu)) () (λH2 s2=>q _ _ (s'.trans s2) (ahs ok h3 _)))
def nC:T.oB.O P w mg base 7 (zI (N7 a)):=by
 walk_at "h ok oB BA R x R p";(revert h;show P9 λdx xs hx hL ok q=>?_)
 show(Λ _ (ae (bu Ϯ (qh T.D4 (kA T) (hr.mono "!") rfl T.Aq T.lN.b .nil ν (am ϶)) rfl)
   (ae (bu Ϯ (cZ ["self","shelves"] ["self","shelves"] (Ο eJ) (s!"c") (d9 rfl T.fu (am (jj (ax K Ϯ) T.bU T.fi.m (j7 T) (hr.mono "!") T.fi.b .nil ν))) (λC₁ s₁ H₁ f₁=>(jk T.LR (pW T) (hr.mono "!") rfl T.KR T.r9.b .nil ν))) rfl)
   (ae (bu Ϯ (jk T.DY (kz T) (hr.mono "!") rfl T.Ao T.lP.b .nil ν) rfl)
   (ae (bu Ϯ (jk T.IA (nz T) (hr.mono "!") rfl T.GB T.oA.b .nil ν) rfl)
   (ae (bu Ϯ dC rfl)
   (ae (bu Ϯ (jk T.DZ (kC T) (hr.mono "!") rfl T.Ap T.lQ.b .nil ν) rfl)
   (af (bu Ϯ ah rfl)))))))) ?_)
 walk_at "e1";show λsh dxh adB alj ndx=>(Λ dxh aa (ϡ xs (hL.same ((Ω.upd alj).trans (Ω.upd (by rw[ag (ψ ndx)];show adB)))) ok (λshl H1 apJ c1 R1=>⟨rfl,?_⟩)))
 let s1:=dQ adB alj c1;(show sw (bR apJ) λadC apK _=>?_);obtain⟨avo,eo1⟩:=R1.30;(show ι R1.28 λ_ el1 _=>?_)
 let f1:=(Fr.nil).adds [sh,shl] (QX.refl _) (by simp;show λz=>apK z.17) (λb hb=>by
  simp only[Κ,Μ,χ] at hb;rcases hb with rfl | rfl
  ·show adB
  ·show adC) s1.NT (λb hb=>by
  simp only[Κ,Μ,χ] at hb;rcases hb with rfl | rfl
  ·show⟨_,eo1⟩
  ·show⟨_,el1⟩)
 let nx:∀{b:Ι},H b=none->b∉[x]:=λhb z=>by rw[Ζ.mp z,hx] at hb;cases hb
 let Xb:=s1 _ _ hx;show(IB _ dx _ Xb T.aC T.cI "!" ?_);generalize hH2:upd H1 x _=H2;walk_at "ex";let c2:ϛ [x] H1 H2:=by rw[<-hH2];show ϛ.upd ∅ (λxs z=>by rw[Xb] at z;cases z)
 let hx2:H2 x=!.ins a.MI dx [("shelves",.ref sh)]:=by rw[<-hH2];show aa
 let l2:QX H1 H2:=by rw[<-hH2];show QX.wr
 let L2:=s1.NT.trans l2;let R2:=R1.im c2 (nx adB) (nx adC);obtain⟨apL,eo2⟩:=R2.obj;show(ϰ _ dx _ hx2 T.aC T.cI (Λ _ rfl ⟨apL,_,eo2,rfl,_,_,R2,by have:=ok.hi;lk,λH3 s3=>?_⟩));let h9:=lq (λy hy=>(ok.each y hy).2.1.2) xs.4;let h6:=ok.hi;show(MD _ rfl () () ?_);rw[Ϝ];show iE (ο (show Ϩ xs xs.4<=54 by lk) "!") (λD i ys H'=>∃rs ds,Pu a.N5 H3 H' D ys i rs ds) (λD hD=>(Ny ([]) ([]) (Pu.zero hD))) (λD i ys H' _ zz=>acn zz λrs ds h=>⟨h.28,by rw[h.eq,Θ,h.lr];show δ _⟩) (λD i ys H' hD hi ⟨rs,ds,h⟩ Qe qe=>?_) (λD ys H4 hD zz=>acn zz λrs ds h=>?_)
 ·lia
  show λr dxr hr0 hdr ndr=>(Λ dxr aa (λd H5 hd nd c5 R5=>⟨rfl,?_⟩))
  (show sw (bR hd) λhd0 _ _=>?_);obtain⟨e5,h5⟩:=h.succ (dQ hr0 hdr c5) hr0 hd0 nd R5;show qe _ _ e5 (Ny _ _ h5)
 let s4:=s3.trans h.same;let hx4:=s4 _ _ hx2;let f4:=((f1.NT l2).NT s3.NT).adds (D::(rs++ds)) (L2.trans s3.NT) h.fr.nd h.fr.no h.same.NT h.fr.yes;let d0:=λb hb=>f4.no b (Η _ hb);show(IB _ dx _ hx4 T.aC T.cV (show 1 < 1000 by decide) ?_);generalize hH5:upd H4 x _=H5;walk_at "ex";(show sw (YI hx4 hH5) λc5 hx5 l5=>?_);let L5:=(L2.trans s4.NT).trans l5;show λsn Zb hsn afk avt=>(Λ Zb aa (λl t p' H6 hl ht hp6 c6 R6=>⟨rfl,?_⟩))
 let s6:=dQ hsn afk c6;let f6:=(f4.NT l5).four L5 s6.NT (by simp;show⟨⟨R6.rl,R6.rt,R6.rp⟩,⟨R6.lt,R6.lp⟩,R6.tp⟩) hsn (bR hl).1 (bR ht).1 (bR hp6).1 (R6.obj.elim λ_ e=>⟨_,e⟩) (R6.NT.elim λ_ e=>⟨_,e.1⟩) (R6.las.elim λ_ e=>⟨_,e.1⟩) (R6.spo.elim λ_ e=>⟨_,e.1⟩);let hx6:=s6 _ _ hx5;show(IB _ dx _ hx6 T.aC T.bh (show 2 < 1000 by decide) ?_);generalize hH7:upd H6 x _=H7;walk_at "ex";(show sw (YI hx6 hH7) λc7 hx7 l7=>?_);let L7:=(L5.trans s6.NT).trans l7;show λde Wn Wd apN avw=>(Λ Wn aa (λdl bz H8 Yg hbz c8 R8=>⟨rfl,?_⟩))
 let s8:=dQ Wd apN c8
 let f8:=(f6.NT l7).three L7 s8.NT (ψ (bR Yg).2.1) (ψ (bR hbz).2.1) (λz=>by
  (show ι R8.ZB λ_ e _=>?_)
  rw[<-z,R8.28] at e;cases e) Wd (bR Yg).1 (bR hbz).1 (R8.obj.elim λ_ e=>⟨_,e⟩) ⟨_,R8.28⟩ (R8.ZB.elim λ_ e=>⟨_,e.1⟩)
 let hx8:=s8 _ _ hx7;show(IB _ dx _ hx8 T.aC T.aO (show 3 < 1000 by decide) ?_);generalize hH9:upd H8 x _=H9;walk_at "ex";(show sw (YI hx8 hH9) λc9 hx9 l9=>?_);let L9:=(L7.trans s8.NT).trans l9;show λgr hgr=>?_;let s10:Ω H9 (upd H9 gr (.dK [])):=Ω.upd hgr;let f10:=(f8.NT l9).add L9 hgr s10.NT ⟨_,aa⟩;let e10:upd H9 gr (.dK []) gr=!.dK []:=aa;generalize upd H9 gr (.dK [])=H10 at s10 f10 e10 ⊢;let alk:=s10 _ _ hx9;show(IB _ dx _ alk T.aC T.pU (show 4 < 1000 by decide) ?_);generalize apO:upd H10 x _=H11;walk_at "ex";(show sw (YI alk apO) λc11 apP l11=>?_);let L11:=(L9.trans s10.NT).trans l11;show λrd dxe hrd apQ avz=>(Λ dxe aa (λra rb H12 Vl hrb c12 R12=>⟨rfl,?_⟩))
 let s12:=dQ hrd apQ c12;let f12:=(f10.NT l11).three L11 s12.NT R12.ra R12.rb R12.ab hrd (bR Vl).1 (bR hrb).1 (R12.obj.elim λ_ e=>⟨_,e⟩) (R12.row.elim λ_ e=>⟨_,e.1⟩) (R12.pla.elim λ_ e=>⟨_,e.1⟩);let aln:=s12 _ _ apP;show(IB _ dx _ aln T.aC T.oF (show 5 < 1000 by decide) ?_);generalize apR:upd H12 x _=H13;walk_at "es";(show sw (YI aln apR) λc13 alo l13=>?_);show(IB _ dx _ alo T.aC T.eQ (show 6 < 1000 by decide) ?_);generalize apS:upd H13 x _=H14;(show sw (YI alo apS) λc14 apT l14=>?_);let L14:=((L11.trans s12.NT).trans l13).trans l14;let f14:=(f12.NT l13).NT l14;let g12:=c13.trans c14;let g8:=c9.trans ((ϛ.of_same s10).trans (c11.trans ((ϛ.of_same s12).trans g12)));let g6:=c7.trans ((ϛ.of_same s8).trans g8);let g4:=c5.trans ((ϛ.of_same s6).trans g6);let g2:=(ϛ.of_same s4).trans g4;let no:=λb hb=>nx (f14.no b hb);show q { c:=0,st:=x,bk:=0,bl:=0,sh:=sh,shl:=shl,rl:=D,sn:=sn,l:=l,t:=t,p:=p',de:=de,dl:=dl,bz:=bz,gr:=gr,rd:=rd,ra:=ra,rb:=rb,rs:=rs,ds:=ds } H14 rfl ((ϛ.of_same s1).trans (c2.trans g2)) (f14.perm (F7 ({ c:=0,st:=x,bk:=0,bl:=0,sh:=sh,shl:=shl,rl:=D,sn:=sn,l:=l,t:=t,p:=p',de:=de,dl:=dl,bz:=bz,gr:=gr,rd:=rd,ra:=ra,rb:=rb,rs:=rs,ds:=ds }:CA))) ⟨⟨dx,apT⟩,R2.im g2 (nx adB) (nx adC),ok,?_,λi r d h1 h2=>?_,h.lr,h.ld.trans h.lr.17,?_,?_,?_,?_⟩
 ·show g4.keep _ _ (by rw[h.28,h.eq]) (no _ (mi 11 rfl))
 ·let m1:=Δ h1
  show(h.row i r d h1 h2).im g4 (nx (d0 _ (θ _ (Η _ m1)))) (nx (d0 _ (θ _ (Β _ (Δ h2)))))
 ·show R6.im g6 (no _ (mi 7 rfl)) (no _ (mi 8 rfl)) (no _ (mi 9 rfl)) (no _ (mi 10 rfl)) (λb hb=>.inr λxs z=>by rw[Ζ.mp hb,hx6] at z;cases z)
 ·show(R8.im g8 (no _ (mi 4 rfl)) (no _ (mi 5 rfl)) (no _ (mi 6 rfl)) (λ_ hu=>nomatch hu)).any
 ·show R12.im g12 (no _ (mi 0 rfl)) (no _ (mi 1 rfl)) (no _ (mi 2 rfl))
 ·show(c11.trans ((ϛ.of_same s12).trans g12)).keep _ _ e10 (no _ (mi 3 rfl))
def lZ:T.na.O P w mg base 9 (zJ (N7 a)):=by
 walk_at "h ok na Al R x R p";(revert h;show Qz λdx xs hx hL ok h3 q=>?_)
 show(Λ _ (ae (bu Ϯ (qh T.Iz (nC T) (hr.mono "!") rfl T.GA T.oB.b .nil ν (am ϶)) rfl)
   (ae (bu Ϯ (jk T.KS (oI T) (hr.mono "!") rfl T.Iw T.pQ.b .nil ν) rfl)
   (af (av (aZ (ax K Ϯ) T.gM T.mY (kY T) hr ν (am (aU (am (ar T.lL (kE T) hr ν (am (jj (ax K (ax K Ϯ)) T.bU T.j1.m (pZ T) (hr.mono "!") T.j1.b .nil ν))))))))))) ?_)
 lia;show λst Zb MZ afk nds=>(Fk Zb xs aa (hL.same ((Ω.upd afk).trans (Ω.upd (by rw[ag (ψ nds)];show MZ)))) ok (λA1 H1 hA c1 f1 S1=>⟨rfl,?_⟩))
 let s1:=dQ MZ afk c1;let lU:QX H (upd (upd H Zb (.own st)) st (.ins a.MI Zb [])):=QX.wr.trans QX.wr;let eU:upd (upd H Zb (.own st)) st (.ins a.MI Zb []) st=!.ins a.MI Zb []:=aa;generalize upd (upd H Zb (.own st)) st (.ins a.MI Zb [])=U at c1 f1 lU eU;obtain⟨dx1,hs1⟩:=S1.P3;rw[hA] at hs1;let nx:∀{b:Ι},H b=none->b∉[x]:=λhb z=>by rw[Ζ.mp z,hx] at hb;cases hb
 let Xb:=s1 _ _ hx;show(IB _ dx _ Xb T.aD T.aY "!" ?_);generalize hH2:upd H1 x _=H2;(show sw (YI Xb hH2) λc2 hx2 l2=>?_);let L2:=s1.NT.trans l2;show λbk dxb hbk apW ndb=>(Λ dxb aa (λbl H3 hbl nbl c3 B3=>⟨rfl,?_⟩))
 let s3:=dQ hbk apW c3;let F3:=((((Fr.nil).add (QX.refl _) MZ lU ⟨_,eU⟩).adds A1.new lU f1.nd f1.no (c1.aoO hs1) f1.yes).NT l2).two L2 s3.NT (ψ nbl) hbk (bR hbl).1 (B3.obj.elim λ_ e=>⟨_,e⟩) ⟨_,B3.28⟩;let hx3:=s3 _ _ hx2;show(IB _ dx _ hx3 T.aD T.fY (show 1 < 1000 by decide) ?_);generalize hH4:upd H3 x _=H4;(show sw (YI hx3 hH4) λc4 hx4 l4=>?_);let L4:=(L2.trans s3.NT).trans l4;let F4:=F3.NT l4;let no:=λb hb=>nx (F4.no b hb);let B4:NW a.Ql H4 bk bl []:=by
  obtain⟨dx3,e⟩:=B3.30;show⟨⟨dx3,c4.keep _ _ e (no _ ∅)⟩,c4.keep _ _ B3.28 (no _ ∅)⟩
 let g1:=c2.trans ((ϛ.of_same s3).trans c4);let mn:∀b∈A1.new,b∉[x]:=λb hb=>no b (by simp[hb]);let m14:∀{b:Ι},b∈[A1.sh,A1.73,A1.rl,A1.sn,A1.l,A1.t,A1.p,A1.de,A1.dl,A1.bz,A1.gr,A1.rd,A1.ra,A1.rb]->b∉[x]:=λhb=>mn _ (Η _ hb);let ss:=g1.keep _ _ hs1 (no _ ∅);let sh4:=S1.WB.im g1 (m14 ∅) (m14 ∅)
 letI A2:CA:={ A1 with c:=x,bk:=bk,bl:=bl }
 let C4:R4 (N7 a) H4 A2 [bl,A1.rl,A1.73,A1.dl] ⟨xs,τ (Ϩ xs xs.4) XF,YH,[]⟩:=by
  show⟨⟨dx,?_⟩,B4,⟨dx1,?_⟩,sh4,ok,?_,?_,S1.25,S1.43,?_,?_,?_,?_,?_,?_,?_,?_⟩
  ·rw[hx4]
   change some (HO.ins a.Do dx [("state",.ref st),("book",.ref bk)])=!HO.ins a.Do dx [("state",.ref A1.st),("book",.ref bk)];rw[hA]
  ·change H4 A1.st=_
   rw[hA];show ss
  ·show g1.keep _ _ S1.Qi (m14 (b:=A1.rl) ∅)
  ·intro i r d m h1 h2 h3
   have:=Δ h3;rw[List.eq_of_mem_replicate this];show(S1.row i r d h1 h2).im g1 (mn _ (Β _ (Η _ (Δ h1)))) (mn _ (Β _ (Β _ (Δ h2))))
  ·show(τ (Ϩ xs xs.4) XF).4=A1.rs.4
   rw[jp,S1.25]
  ·let z:=S1.snd.im g1 (m14 ∅) (m14 ∅) (m14 ∅) (m14 ∅) (λb hb=>.inr λxs z=>by rw[Ζ.mp hb,Xb] at z;cases z)
   show⟨z.30,z.NT,z.las,by
    (show ϱ z.spo λkv e1 e2 _=>?_)
    show(ϡ kv e1 e2 (λz hz=>by cases hz)),z.rl,z.rt,z.rp,z.lt,z.lp,z.tp⟩
  ·show S1.dee.im g1 (m14 ∅) (m14 ∅) (m14 ∅) (λ_ hu=>nomatch hu)
  ·show S1.rdr.im g1 (m14 ∅) (m14 ∅) (m14 ∅)
  ·show g1.keep _ _ S1.grp (m14 (b:=A1.gr) ∅)
  ·show⟨by simp[A2],by simp[A2],by simp[A2],by simp[A2]⟩
  ·intro b hb
   show F4.yes b ?_;simp only[Κ,Μ,χ] at hb;unfold CA.new;rcases hb with rfl | rfl | rfl | rfl<;>simp
  ·let p1:(x::([bk,bl]++(A1.new++[st]))).Perm A2.fix:=by
    rw[<-hA];show xB A1 x bk bl
   show p1.nodup_iff.mp (ϊ.mpr ⟨λz=>no x z ∅,F4.nd⟩)
 obtain⟨apY,hb4⟩:=B4.30;obtain⟨apZ,hh4⟩:=sh4.30;show(ϰ _ dx _ hx4 T.aD T.fY (Λ _ rfl ⟨apY,_,hb4,rfl,_,dx,_,hx4,T.aD,T.aY,_,rfl,_,dx1,_,ss,T.aC,T.cI,_,xx A1,apZ,_,hh4,rfl,_,_,sh4,λD H5 hD s5 hL5=>(MD xs hL5 ok h3 (λb H6 s6 ob=>⟨"!",λp6 hp6=>?_⟩))⟩));let s46:Ω H4 (upd H6 p6 (.lst [.str (S b)])):=s5.trans (s6.trans (Ω.upd hp6));let C6:=C4.same s46;let np:p6≠bl:=λz=>by
  have:=(s5.trans s6) _ _ B4.28;rw[<-z,hp6] at this;cases this
 show(UN bl ([]) ([b]) C6.book aa np (λc hc=>by rw[Ζ.mp hc];show ob) (by show 0+1<=5000;decide) (λH7 c7 B7=>?_));let TC:∀b∈A2.fix,b=x\/H b=none:=λb hb=>by
  let p1:(x::([bk,bl]++(A1.new++[st]))).Perm A2.fix:=by
   rw[<-hA];show xB A1 x bk bl
  rcases Κ.mp (p1.mem_iff.mpr hb) with h | h
  ·show .inl h
  ·show .inr (F4.no b h)
 show q A2 _ H7 _ rfl TC ?_ (C6.wrote c7 B7) (by rw[NZ,mE,gv];rfl);show((ϛ.of_same s1).trans (g1.trans (ϛ.of_same s46))).past c7 (F4.no bl ∅)
local macro_rules | `(tactic| walk_at "rd")=>rdM "vF vG sY sZ vH vI xI tj zT uu tm xS"
def dH (T:Txt w K mg a):OZ P w K mg base (CXv P w) 8 a.PJ a.Os ["self","sender","life","turns"] (vK (N7 a) a.ϖ a.OI):=by
 walk_at "X okX GL EI 8";(revert h;show L6 λA0 d Z X n life=>Qz λtu t μ hC ht h1=>Qy λh2 h3 h4 h5 q=>?_;subst μ);show(Λ _ (af (ao (aZ Ϯ T.aD T.dq (cW T) hr ν (am (ar T.yk (wt T) hr Xa (aj (ax K Ϯ) (aj ϶ (eC wv MN)))))))) ?_);obtain⟨Uo,TJ⟩:=hC.75;show(ϕ Uo _ TJ rfl (ϰ _ Uo _ TJ T.aD T.aY (Λ _ (cC A0) ⟨t,A0,rfl,d,Z,X.M,X.m,ht▸hC.ask,h1,h2,h3,h4,?_⟩)));rcases q with q | ⟨hB,q⟩
 ·show .inl q
 ·show .inr ⟨hB,(aaB (e:=.begin (X.m.M.ds.4+1) n (t+tu)) hC.ce (rB hC.nm () ()) (by have:=hC.ln;lk) ⟨hB,h4,h5,rfl⟩ ?_).mono λv H1 _ h=>h E0⟩
  intro u H1 H' s hu c d' Z' O8 hn hz C hl;subst hu;show q H' d' Z' O8 ((ϛ.of_same s).trans c) hn hz C hl
def j8:T.gX.OX P w mg base 8 (xJ (N7 a) a.ϖ a.Mw):=by
 walk_at "x okX gX Gx 6";(revert h;show L6 λA0 d Z X n life=>N8 λμ hC q=>?_;subst μ);show(Λ _ (af (ao (aZ Ϯ T.aD T.dq (cW T) hr ν (am (ar T.Au (yw T) hr Xa (aj (ax K Ϯ) (eC ϶ wv))))))) ?_);obtain⟨Uo,TJ⟩:=hC.75;show(ϕ Uo _ TJ rfl (ϰ _ Uo _ TJ T.aD T.aY (Λ _ (cC A0) ⟨X.t,A0,rfl,d,Z,X.M,X.m,hC.ask,?_⟩)));rcases q with⟨j,x,e,hB,hj,Xb,hx,he,hin,q⟩ | q
 ·show .inl (ϡ j hB hj ((aaB (e:=.drop (j+1)) hC.ce (dR ()) (by have:=hC.ln;lk) (UN j x e rfl hx (Xb▸hB) he hin rfl) ?_).mono λv H1 _ h=>h E0))
  intro u H1 H' s hu c d' Z' O8 hn hz C hl;subst hu;show q H' d' Z' O8 ((ϛ.of_same s).trans c) hn hz C hl
 ·show .inr q
def jd:T.fX.OX P w mg base 8 (vL (N7 a) a.ϖ a.Mw):=by
 walk_at "x okX fX EJ 6";(revert h;show L6 λA0 d Z X n life=>N8 λμ hC q=>?_;subst μ);show(Λ _ (af (ao (aZ Ϯ T.aD T.dq (cW T) hr ν (am (ar T.yl (wu T) hr Xa (aj (ax K Ϯ) (eC ϶ wv))))))) ?_);obtain⟨Uo,TJ⟩:=hC.75;show(ϕ Uo _ TJ rfl (ϰ _ Uo _ TJ T.aD T.aY (Λ _ (cC A0) ⟨X.t,A0,rfl,d,Z,X.M,X.m,hC.ask,?_⟩)));rcases q with⟨j,x,e,hB,hj,Xb,hx,he,he2,q⟩ | q
 ·show .inl (TV j e hB hj he he2 (λtt ev u Ds H1 s Vk hDs YK hE hU=>?_))
  (revert hU;show Nq λL μ hL tl=>?_;subst μ);(show ι (id tl) λts Sh _=>?_);let C1:=hC.ce.reZ (B:=[]) (ϛ.of_same s) (λ_ z=>nomatch z) (λ_ z=>nomatch z) (λ_ z=>nomatch z) (λ_ z=>nomatch z) (λb hb=>.inr (Ζ.mp hb▸hL)) (λb hb=>⟨_,Ζ.mp hb▸Sh⟩);show(Λ A0 rfl (Da d (L::Z) X ev _ Ds (Ys ([.close (j+1)]) (ae2 X ⟨X.t,X.M,X.m.finish j x M5⟩) C1 YK hE (hC.ce.RD Vk) (λD hD=>hC.ce.RD (hDs D hD)) (Ge (dR ())) ⟨by have:=hC.ln;change X.M.ls.4+1<=5000;lk,rfl,um (Fk j x rfl hx (Xb▸hB) rfl),λH' d' Z' O8 c hn hz C hl=>q L H' d' Z' O8 hL ((ϛ.of_same s).trans c) (λb hb=>(hn b hb).imp id λz=>⟨aP s z,λq=>by rw[q,Sh] at z;cases z⟩) hz C hl (tl.im c (hC.ce.RD hL))⟩)))
 ·show .inr q
def j9:T.kS.O P w mg base 8 (o9 (N7 a) a.ϖ):=by
 walk_at "x ok kS Gw 6";(revert h;show L6 λA0 d Z X n kk=>RY λμ hC hn hkk hk9=>QT λhln W5 hv q=>?_;subst μ);show(Λ _ (af (ao (aZ Ϯ T.aD T.dq (cW T) hr ν (am (ar T.As (yy T) hr ν (eC (ax K Ϯ) ϶)))))) ?_);obtain⟨Uo,TJ⟩:=hC.QL;show(ϕ Uo _ TJ rfl (ϰ _ Uo _ TJ T.aD T.aY (Λ _ (cC A0) ⟨X.t,A0,rfl,d,Z,X.M,X.m,kk,hC.st,hn,hkk,hk9,?_⟩)));rcases q with⟨hB,q⟩ | ⟨j,x,e,hB,hj,Xb,hx,he,hin,q⟩
 ·show .inl ⟨hB,(aaB (e:=.GM n kk) hC (oh hn hk9) () ⟨W5,hv,rfl⟩ ?_).mono λv H1 _ h=>h E0⟩
  rintro u H1 H' s ⟨v,rfl,hv1⟩ c d' Z' O8 hn hz C hl
  show q v H' d' Z' O8 ((ϛ.of_same s).trans c) hn hz C hl (c.tup _ _ hv1)
 ·show .inr (ϡ j hB hj ((ahA (es:=[.drop (j+1),.GM n kk]) hC ?_ (by show X.M.ls.4+2<=5000;lk) (ahB X ⟨X.t,{ X.M with Ms:=O0 X.35 e.1 },X.m.finish j x wT⟩ _) rfl (DC (UN j x e rfl hx (Xb▸hB) he hin rfl) ⟨W5,hv,rfl⟩) ?_).mono λv H1 _ h=>h E0))
  ·intro e' Rm
   simp only[Κ,Μ,χ] at Rm;rcases Rm with rfl | rfl
   ·show dR ()
   ·show oh hn hk9
  ·rintro u H1 H' s ⟨v,rfl,hv1⟩ c d' Z' O8 hn hz C hl
   show q v H' d' Z' O8 ((ϛ.of_same s).trans c) hn hz C hl (c.tup _ _ hv1)
def ka:T.ku.O P w mg base 8 (xK (N7 a) a.ϖ):=by
 walk_at "x ok ku yd 7";(revert h;show L6 λA0 d Z X tu t=>Yq λXs μ hC ht h1=>RY λh2 h3 h4 hln h0=>Nl λMZ q=>?_;subst μ);show(Λ _ (af (ao (aZ Ϯ T.aD T.dq (cW T) hr ν (am (ar T.Av (yx T) hr ν (eC (ax K Ϯ) ϶)))))) ?_);obtain⟨Uo,TJ⟩:=hC.QL;let hov:∀i∈OB X.77 ((t+tu:Nat)) X.m.M.ds.4,∃j,i=(j:Int)+1/\j < 1000:=λi hi=>by
  (show ι (ω.mp hi) λj hj μ=>?_;subst μ);have:=Ow.mp (Nh.mp hj).1;show(Λ j rfl ())
 let lov:(Sk X t tu).4<=X.m.M.ds.4+1:=by
  unfold Sk OB;rw[ς,Θ,Θ];have:=sB (odd X.77 ((t+tu:Nat))) (Ϟ X.m.M.ds.4);rw[rc] at this;lk
 show(ϕ Uo _ TJ rfl (ϰ _ Uo _ TJ T.aD T.aY (Λ _ (cC A0) ⟨t,A0,rfl,d,Z,X.M,X.m,ht▸hC.st,h1,h2,h3,h4,(ahA hC ?_ () Xs h0 MZ ?_).mono λv H1 _ h=>h E0⟩)))
 ·intro e' Rm
  rcases Κ.mp Rm with rfl | Rm
  ·show uj ()
  ·(show ι (ω.mp Rm) λi hi μ=>?_;subst μ)
   (show ι (hov i hi) λj μ hj=>?_;subst μ);show dR ()
 ·intro u H1 H' s hu c d' Z' O8 hn hz C hl
  subst hu;show q H' d' Z' O8 ((ϛ.of_same s).trans c) hn hz C hl
def kc (T:Txt w K mg a):OZ P w K mg base Yx 8 a.Qn a.NM ["self","row","start","most","whole"] (xM (N7 a) a.ϖ):=by
 walk_at "X ok G8 Gy 7";(revert h;show L6 λA0 d Z X r wh=>Yq λmr μ hC hF hm h=>?_;subst μ);show(Λ _ (af (ao (ar T.ym (wx T) hr ν (aj (ax K Ϯ) (aj ϶ (aj wv (eC MN (pv 4)))))))) ?_);obtain⟨Uo,TJ⟩:=hC.QL;show(ϰ _ Uo _ TJ T.aD T.aY (Λ _ (cC A0) ⟨X.t,A0,rfl,d,Z,X.M,X.m,mr,hC.st,hF,hm,rfl,rfl,h⟩))
def l8:T.ng.O P w mg base 7 (vM (N7 a) a.ϖ):=by
 walk_at "x ok ng Am 5";(revert h;show SS λA0 d Z=>Qz λX r μ hC OW hF q=>?_;subst μ)
 show(Λ _ (ae (av (ar T.pE (nA T) hr ν (eC (ax K Ϯ) ϶)))
   (af (ao (aZ (ax K Ϯ) T.aC T.iu (gO T) hr ν (am ϶))))) ?_)
 obtain⟨Uo,TJ⟩:=hC.QL;show(ϰ _ Uo _ TJ T.aD T.aY (Λ _ (cC A0) ?_));show(cr X.t A0 rfl (Sr d Z X.M X.m hC.st ⟨OW,λH1 s1=>?_⟩));let C1:=hC.same s1;obtain⟨ap1,ap2⟩:=C1.QL;obtain⟨dx,MZ⟩:=C1.st.P3;show(ϰ _ ap1 _ ap2 T.aD T.aY (Λ _ (cC A0) ⟨dx,_,MZ,rfl,X.t,A0,rfl,d,Z,X.M,X.m,C1.st,OW,hF,λe H2 s2 fr nn=>q e H2 (s1.trans s2) fr nn⟩))
def nE:T.oC.O P w mg base 5 (xN (N7 a) a.ϖ):=by
 walk_at "x ok oC BC 6";(revert h;show L6 λA0 d Z X j x=>Qy λμ hC hj hx q=>?_;subst μ)
 show(Λ _ (ae (av (ar T.bT (bJ T) hr ν (am (aU (am (bf (aj ϶ (eC ah (bD T.dN)))))))))
   (af (ao (aZ (ax K (ax K Ϯ)) T.aL T.pT (oM T) hr ν (am ϶))))) ?_)
 lia;show⟨"!",λp1 Um=>⟨"!",λp2 W6=>(MD ([(j+1,1,1000000000)]) (Λ ([p1]) aa (.cons (Ω.upd W6 _ _ aa) .nil)) (show 1<=9 by decide) (λy hy=>?_) (λH1 s1=>?_))⟩⟩
 ·rw[Ζ.mp hy]
  show⟨by show(1:Int)<=(j:Int)+1;lk,by show(j:Int)+1<=1000000000;lk⟩
 let s01:=(Ω.upd Um).trans ((Ω.upd W6).trans s1);let C1:=hC.same s01;obtain⟨Uo,TJ⟩:=C1.QL;obtain⟨dx,MZ⟩:=C1.st.P3;let I1:=C1.st.44;obtain⟨Wn,Wd⟩:=I1.22;show(ϰ _ Uo _ TJ T.aD T.aY (Λ _ (cC A0) ⟨_,dx,_,MZ,T.aC,T.aO,_,bB A0 X.t,Wn,_,Wd,rfl,_,_,_,_,I1.79,j,x,rfl,hx,q _ s01⟩))
def tK (T:Txt w K mg a):OZ P w K mg base Yx 8 a.Q0 a.Oq ["self","sender","life","number","shelf","key","word","deed"] (zQ (N7 a) a.ϖ):=by
 walk_at "X ok IE G2 17";(revert h;show L6 λA0 d Z X X' n=>L6 λshf key wo life num dd=>Vs λj i pl x mr μ hC hln hP MZ q=>?_;subst μ);show(Λ _ (af (ao (aZ Ϯ T.aD T.dq (cW T) hr ν (am (ar T.Ec (AL T) hr ν (aj (ax K Ϯ) (aj ϶ (aj wv (aj MN (aj (pv 4) (eC (bf (eC (pv 5) (pv 6))) (pv 7)))))))))))) ?_);lia;obtain⟨Uo,TJ⟩:=hC.QL;show(ϕ Uo _ TJ rfl (ϰ _ Uo _ TJ T.aD T.aY (ϡ _ (cC A0) "!" (λp hp=>?_))));let sp:=Ω.upd (o:=.tup [.str (S key),wV wo]) hp;show(cr X.t A0 rfl (Da d Z X.M X.m key wo (Wq j i pl x mr aa (hP.same sp) ((aaB (hC.same sp) ?_ () MZ ?_).mono λv H1 _ h=>h E0))))
 ·let hm:=(Α.mp hP.mrx).1
  let q1:=hC.st.On;let hxl:=jw hC.st;let hx9:=hC.st.VH.hi;have:=hP.nu;have:=hP.dde;have:=hP.ple;show xy hP.ask.nm () () () () hP.ky hP.wd hP.wl
 ·rintro u H1 H' s ⟨v,rfl,hv1⟩ c d' Z' O8 hn hz C hl
  show q v H' d' Z' O8 ((ϛ.of_same (sp.trans s)).trans c) (λb hb=>(hn b hb).imp id λz=>aP sp z) hz C hl (c.tup _ _ hv1)
def ko:T.nh.O P w mg base 1 zT:=by
 walk_at "x ok nh uM 5";(revert h;show Vs λk t M xs n μ hk hD hO hl q=>?_;subst μ)
 show(Λ _ (ae (bE Ϛ rfl (jt rfl T.cm (ak K hr Ϯ ai)) (cg rfl (aH (aE (i:=2) uM.nd rfl (ϵ rfl)) (aH (aE (i:=3) uM.nd rfl (ϵ rfl)) b9))) (af (aQ (PW.pt (gQ (aw (bp (hU hr)) (ak K hr MN ai) ϶ (ϧ _)) (fj (aw (bp (hU hr)) (ak K hr MN ai) ai (ϧ _))))) (af (ao wv)) au)))
   (af (ao ah))) ?_)
 show ay (dg hk (dF k t)) ?_;let sq:G' K H k.dl (k.ds.map V.ref):=.inl (.inl hD.28);show(ϕ _ _ rfl sq (fM (λi σ H'=>(∃v2 v3,σ=[!V.ref k.kd,!V.str n,v2,v3])/\Ω H H'/\∀j x,j < i->M.ds[j]?=!x->¬(x.1=n/\x.2.2=ii)) ⟨(Ny none none rfl),Ω.refl _,λj x h=>absurd h ()⟩ (λi σ H' _ z=>z.2.1.seq sq) ?_ ?_))
 ·rintro i y U σ H' hy hU ⟨⟨v2,v3,rfl⟩,s',hno⟩
  rw[Ρ] at hy;(show ι (ξ.mp hy) λd hd μ=>?_;subst μ);(show Vu (hD.get hd) λsp x e h1 h2 h3 h4=>?_);let sU:=Ω.upd (o:=.tup [.int (i+1),.ref d]) hU;let VL:=sU _ _ (s' _ _ h4);let s2:=s'.trans sU;let eU:upd H' U (.tup [.int (i+1),.ref d]) U=!.tup [.int (i+1),.ref d]:=aa;generalize upd H' U (.tup [.int (i+1),.ref d])=H2 at sU VL s2 eU ⊢;lia;show(Fk _ _ rfl (.inl (.inl eU)) rfl (cr _ _ rfl (ϕ _ _ rfl rfl (ay (dg VL (DE x sp)) ?_))));lia;let kp:(¬(x.1=n/\x.2.2=ii))->∀j y,j < i+1->M.ds[j]?=!y->¬(y.1=n/\y.2.2=ii):=λhn j y hj hyy=>by
   by_cases c:j < i
   ·show hno j y c hyy
   ·have:j=i:=by lk
    subst this;rw[h2] at hyy;cases hyy;show hn
  by_cases c1:x.1=n
  ·rw[γ (ϝ c1)]
   show ay (dg VL (iL x sp)) ?_;lia
   by_cases c2:x.2.2="open"
   ·rw[γ (ϝ c2)]
    let hb:=hO.b i x h2 c2;rw[c1] at hb;have:=q H2 s2;rw[hb] at this;show this
   ·rw[Φ (λz=>c2 (f7 z))]
    show⟨(Ny _ _ rfl),s2,kp λz=>c2 z.2⟩
  ·rw[Φ (λz=>c1 (f7 z)),Φ ρ]
   show⟨(Ny _ _ rfl),s2,kp λz=>c1 z.1⟩
 ·rintro σ H' ⟨⟨v2,v3,rfl⟩,s',hno⟩
  lia;cases hB:M.B n with
  | none=>have:=q H' s';rw[hB] at this;show this
  | some z=>
   (show Rh (hO.a n z hB) λj e h1 h2=>?_);let hj:=(Α.mp h2).1;let YF:=hD.l1;show absurd ⟨rfl,rfl⟩ (hno j _ (by rw[Θ];lk) h2)
def eV:T.fq.O P w mg base 1 uu:=by
 walk_at "x ok fq G3 6";(revert h;show L6 λk t ds xs num f=>QT λμ hk hD q=>?_;subst μ);show(Λ _ (af (aQ (aw la ϶ ah (ϧ _)) (af (cz wv (cM (ak K hr (ak K hr Ϯ ai) (aM nJ ϶ ah)) ai (bL (R0 hr))))) au)) ?_);lia;rcases q with⟨h0,q⟩ | ⟨j,x,d,rfl,hx,hd,q⟩
 ·rw[Φ (by simp;lk)]
  show q
 ·rw[γ (ϝ ())]
  (show Vu (hD.get hd) λsp x' e h1 h2 h3 h4=>?_);rw[hx] at h2;cases h2;show ay (dg hk (dF k t)) (bx (.inl (.inl hD.28)) (bj () (by rw[show((j:Int)+1 - 1).6=j by lk,Ρ,hd];rfl)) ?_);show cu (Qc.k (k:=.inr "fate") h4 (by show 4 < _;decide)) (q _ (ϛ.upd ∅ (cP h4)) (hD.fin hd h1 hx (ϛ.upd ∅ (cP h4)) aa))
local macro_rules | `(tactic| walk_at "rd")=>rdM "vF vG sY sZ vH vI xI tj tm xS"
def nF:T.pG.O P w mg base 1 tm:=by
 walk_at "x ok pG dY 9";(revert h;show L6 λk t ds xs rws r=>QS λra wl f μ hk hD hrl=>Qy λVl hT hwl hdd q=>?_;subst μ)
 show(Λ _ (ae (aG 3 dY (aU cX))
   (ae (bE Ϛ rfl (bb (ak K hr (ak K hr Ϯ ai) ϶)) (cg rfl (aH (aE (i:=4) dY.nd rfl (ϵ rfl)) (aH (aE (i:=5) dY.nd rfl (ϵ rfl)) (aH (aE (i:=6) dY.nd rfl (ϵ rfl)) (aH (aE (i:=7) dY.nd rfl (ϵ rfl)) b9))))) (af (aQ (PW.pt (gQ (aw dU (pv 4) wv (ϧ _)) (fj (PW.pt (qx (aw (bp (hU hr)) (pv 7) ah (ϧ _)) (k7 (aw (eA (hU hr)) (ak K hr (ak K hr (ak K hr Ϯ ai) (aM nJ (pv 7) ah)) ai) ai (ϧ _)))))))) (af (av (bM PySem.F.plainAttrs_list PySem.F.slot_list_append PySem.F.type_list_append br MN (am (bf (aj (pv 4) (eC (pv 5) (pv 6)))))))) au)))
   (af (ao MN)))) ?_)
 lia;show⟨"!",λD hD0=>?_⟩;let s1:Ω H (upd H D (.lst [])):=Ω.upd hD0;let eD:upd H D (.lst []) D=!.lst []:=aa;generalize upd H D (.lst [])=H1 at s1 eD ⊢;show ay (dg (s1 _ _ hk) (kn k t)) (bx (.inl (.inl (s1 _ _ hrl))) (bj () (by rw[Ϝ,Ρ,Vl];rfl)) ?_);(show ϱ hT.ZC λts sq tl' tg=>?_);let sq1:G' K H1 ra (ts.map V.ref):=.inl (.inl (s1 _ _ sq));show bS sq1 (bY (λi σ H'=>(∃v4 v5 v6 v7,σ=[!V.ref k.kd,!V.int r,!V.int f,!V.ref D,v4,v5,v6,v7])/\Ω H H'/\ϲ H' D (part5 ds wl f i)) ⟨(Yt none none none none rfl),s1,(Λ ([]) eD (.nil))⟩ (λi σ H' _ z=>.inl (.inl (z.2.1 _ _ sq))) ?_ ?_)
 ·rintro i x σ H' hx ⟨⟨v4,v5,v6,v7,rfl⟩,s',tD⟩
  (show Nm (tg i x hx) λtt row μ hr' ht=>?_;subst μ);(show ι (Ii hr') λl hl μ=>?_;subst μ);lia;show(Fk _ _ rfl (.inl (.inl (s' _ _ ht))) rfl (cr _ _ rfl (cr _ _ rfl (cr _ _ rfl (ϕ _ _ rfl rfl ?_)))));let Qw:=(Α.mp hl).1;let zl:5000<=sizeLine:=by decide
  let app:(i:Int) < f->IR ds l.2.2=false->∀p,H' p=none->∃x,upd H' p (.tup [.int i,.str (S l.1),wV l.2.1]) D=!.lst x/\x.4 < sizeLine/\Ω H (upd (upd H' p (.tup [.int i,.str (S l.1),wV l.2.1])) D (.lst (x++[.ref p])))/\ϲ (upd (upd H' p (.tup [.int i,.str (S l.1),wV l.2.1])) D (.lst (x++[.ref p]))) D (part5 ds wl f (i+1)):=λhif hnd p hp=>by
   (revert tD;show ϭ λts0 e0 t0=>?_);let sp:=Ω.upd (o:=.tup [.int i,.str (S l.1),wV l.2.1]) hp;let hlen:ts0.4<=i:=by
    let h1:=t0.4;let h2:(part5 ds wl f i).4<=i:=by
     have:=List.length_filterMap_le (λ(p:Nat)=>if p < f then P4 ds wl p else none) (Ϟ i);rw[rc] at this;show this
    lk
   show(MD (ts0.map V.ref) (sp _ _ e0) (by rw[Θ];lk) (Ω.wr (s'.trans sp) hD0) ?_);let ht5:(if i < f then P4 ds wl i else none)=some [.int i,.str (S l.1),wV l.2.1]:=by
    rw[γ hif];unfold P4;rw[hl];show(if _ then _ else _)=_;rw[Φ (by rw[hnd];simp)]
   rw[rH,ht5];show ϲ.push (sp _ _ e0) (t0.im (A:=[]) (ϛ.of_same sp)) aa
  let sk:(¬(i:Int) < f\/IR ds l.2.2=true)->part5 ds wl f (i+1)=part5 ds wl f i:=λhn=>by
   have:(if i < f then P4 ds wl i else none)=none:=by
    by_cases c:(i:Int) < f
    ·rw[γ c]
     unfold P4;rw[hl];show(if _ then _ else _)=_;rw[γ (hn.resolve_left λz=>z c)]
    ·rw[Φ c]
   rw[rH,this];show Ix _
  let sqD:∃xs,G' K H' D xs:=by
   (revert tD;show ϭ λts0 e0 t0=>?_);show⟨_,.inl (.inl e0)⟩
  obtain⟨d0,d1⟩:=hdd i l hl;lia
  by_cases c1:(i:Int) < f
  ·rw[γ (ϝ c1)]
   lia
   by_cases c2:l.2.2=0
   ·rw[γ (ϝ c2),γ rfl]
    show⟨.inl ⟨rfl,sqD⟩,"!",λp hp=>(λ⟨x,h1,h2,h3,h4⟩=>⟨D,x,_,rfl,rfl,h1,h2,⟨_,_,_,_,rfl⟩,h3,h4⟩) (app c1 ?_ p hp)⟩;unfold IR;rw[c2];cases ds[((0:Int) - 1).6]?<;>simp
   ·rw[Φ (λz=>c2 (f7 z))]
    obtain⟨j,hj⟩:∃j:Nat,l.2.2=(j:Int)+1:=⟨(l.2.2 - 1).6,()⟩
    let YF:=hD.l1;let hkj:k.ds[j]?=!k.ds[j]'():=Ε ();generalize k.ds[j]'()=dj at hkj;(show Vu (hD.get hkj) λsp x e h1 h2 h3 h4=>?_);show ay (dg (s' _ _ hk) (dF k t)) (bx (.inl (.inl (s' _ _ hD.28))) (bj () (by rw[show(l.2.2 - 1).6=j by lk,Ρ,hkj];rfl)) ?_);show ay (dg (s' _ _ h4) (iL x sp)) ?_;lia;let hdr:IR ds l.2.2=decide (x.2.2=wT):=by
     unfold IR;rw[show(l.2.2 - 1).6=j by lk,h2];simp;lk
    by_cases c3:x.2.2="dropped"
    ·rw[Φ (by simp[c3])]
     show⟨(Yt _ _ _ _ rfl),s',by rw[sk (.inr (by rw[hdr];show ϝ c3))];show tD⟩
    ·rw[γ (by simp[c3])]
     show⟨.inl ⟨rfl,sqD⟩,"!",λp hp=>(λ⟨x,h1,h2,h3,h4⟩=>⟨D,x,_,rfl,rfl,h1,h2,⟨_,_,_,_,rfl⟩,h3,h4⟩) (app c1 (by rw[hdr];show Ϫ c3) p hp)⟩
  ·rw[Φ (λz=>c1 (f7 z)),Φ ρ]
   show⟨(Yt _ _ _ _ rfl),s',by rw[sk (.inl c1)];show tD⟩
 ·rintro σ H' ⟨⟨v4,v5,v6,v7,rfl⟩,s',tD⟩
  lia;have:part5 ds wl f (ts.map V.ref).4=ZH ds wl f:=by
   rw[Θ,tl',jy];rfl
  rw[this] at tD;show q D H' hD0 s' tD
local macro_rules | `(tactic| walk_at "rd")=>rdM "vF vG sY sZ vH vI xI tj xS"
def nG:T.oE.O P w mg base 1 xS:=by
 walk_at "x ok oE ck 10";(revert h;show L6 λk rws t m W lv=>N9 λnb F0 F fa μ=>RY λhK hfa hS PX hl=>QT λhW hF hno q=>?_;subst μ)
 show(Λ _ (ae (aG 2 ck cS)
   (ae (bE Ϛ rfl (bb (ak K hr Ϯ ai)) (aE (i:=3) ck.nd rfl (ϵ rfl)) (ae (FA (i:=4) ["_law_kept","_law_fronts_now","_law_opened","_law_deed","_law_beneath","_law_ends"] ["_law_kept","_law_fronts_now","_law_opened","_law_deed","_law_beneath","_law_ends"] (Ο dm) ["_law_row","_law_place"] (by show⟨rfl,s!"d",s!"d",s!"d",s!"d",s!"d",s!"d"⟩) (bb (ak K hr MN ai)) (λC₁ s₁ H₁ f₁=>(cg (n:=2) rfl (aH (aE (i:=0) (show Nx (α:=Str) ["_law_row","_law_place","_law_kept","_law_fronts_now","_law_opened","_law_deed","_law_beneath","_law_ends"] by decide +kernel) rfl (ϵ rfl) (Vm rfl)) (aH (aE (i:=1) (show Nx (α:=Str) ["_law_row","_law_place","_law_kept","_law_fronts_now","_law_opened","_law_deed","_law_beneath","_law_ends"] by decide +kernel) rfl (ϵ rfl) (Vm rfl)) b9)))) (λC₁ s₁ H₁ f₁=>(cq dU ϶ (ak K hr MN Ϯ) (ϧ _))) ck.nd)
   (ae (aQ (PW.pt (gQ (aw (bp (K:=K) (hU hr)) (ak K hr MN ai) ai (ϧ _)) (fj (aw (lh (R0 hr)) cS (pv 4) (by rfl))))) (af (ao cS)) au)
   (ae (aQ (PW.pt (gQ (aw (bp (hU hr)) (ak K hr MN ai) ai (ϧ _)) (gQ (aw (lh (R0 hr)) cS (pv 4) (by rfl)) (fj (aw (lh (R0 hr)) cS (pv 4) (by rfl)))))) (af (ao cS)) au)
   (af (aG 2 ck (IJ wv (fG (cq (bp (K:=K) (hU hr)) (ak K hr MN ai) ai (ϧ _))))))))))
   (ae (qk (i:=5) ["_law_kept","_law_fronts_now","_law_opened","_law_deed","_law_beneath","_law_ends"] ["_law_kept","_law_fronts_now","_law_opened","_law_deed","_law_beneath","_law_ends"] (Ο dm) (s!"c") (bb (ak K hr Ϯ ai)) (λC₁ s₁ H₁ f₁=>(aF (a9) (by rfl) T.dz zn (am Ϯ))) ck.nd)
   (af (ao (IJ wv (fG (cq (bp (hU hr)) ϶ (pv 5) (ϧ _))))))))) ?_)
 show Zw λRz hRz=>?_;walk1;show ay (dg hK.kd (dF k t)) ?_;let sq:G' K H k.dl (k.ds.map V.ref):=.inl (.inl hK.OH.28);show bS sq (bY (λi σ H'=>(∃op v3 v4,σ=[!V.ref k.kd,!V.ref fa,!V.bl op,v3,v4,none]/\(op=false->∀j x,j < i->m.63[j]?=!x->x.2.2≠ii))/\Ω H H') ⟨(SU false none none rfl (λ_ j x h=>absurd h ())),Ω.refl _⟩ (λi σ H' _ z=>z.2.seq sq) ?_ ?_)
 ·rintro i y σ H' hy ⟨⟨op,v3,v4,rfl,hop⟩,s'⟩
  rw[Ρ] at hy;(show ι (ξ.mp hy) λd hd μ=>?_;subst μ);(show Vu (hK.OH.get hd) λsp x e h1 h2 h3 h4=>?_);show OQ λRa hRa=>?_;lia;show ay (dg (s' _ _ h4) (rD x sp)) ?_;rw[Ρ] at h3;(show ι (ξ.mp h3) λe0 he0 μ=>?_;subst μ);obtain⟨hle,hin⟩:=PX i e0 he0;let hSP:=hS i x e0 h2 he0;let tp:=(hK.OH.sp i sp e0.1 h1 (by rw[Ρ,he0];rfl)).same s';(show ι (id tp) λts Sh _=>?_);show bS (.inl (.inl Sh)) (o6 tp (by rw[Θ];lk) (λys hys=>by (show ι (ω.mp hys) λs _ μ=>?_;subst μ);rfl) (λ_=>true) (aoY F) ?_ ?_ ?_ ?_)
  ·rintro t ys H2 o R hys s2 ht Zf r
   (show ι (ω.mp hys) λy hy μ=>?_;subst μ);obtain⟨o1,o2,rfl⟩:∃o1 o2,o=[o1,o2]:=by
    match o,Zf with
    | [o1,o2],_=>show(Ny o1 o2 rfl)
   show(Fk t _ rfl (.inl (.inl ht)) rfl ?_);show(cr _ _ rfl (ϕ _ _ rfl rfl r))
  ·intro ys H2 hys s2 Qt qt
   show qt H2 (Ω.refl _)
  ·rintro ys H2 hys - s2 Qe qe
   (show ι (ω.mp hys) λy hy μ=>?_;subst μ);obtain⟨b1,b2⟩:=hin y hy;let hg:F[y.1.6]?=!F.getD y.1.6 0:=by rw[ε,Ε ()];rfl
   show bx (.inl (.inl (s2 _ _ (s' _ _ hfa)))) (bj () (by rw[Ρ,hg];rfl)) ?_;rw[yT];show qe H2 (Ω.refl _)
  ·intro D H2 hD s2 Xl
   rw[dh,ϣ] at Xl;let XC:H2 D=!.lst ((e0.1.map (L2.Q2 F)).map V.bl):=by rw[Xl,ϣ];rfl
   let VL:=s2 _ _ (s' _ _ h4);let s3:=s'.trans s2;let inn:∀b Q',Q' (.bl (decide (b∈e0.1.map (L2.Q2 F)))) H2->aaW K (.bl b) (.ref D) H2 Q':=λb Q' hq=>yU (.inl (.inl (.inl XC))) rfl (Ij _) (by rw[KG];show hq);let ap5:decide (x.2.2="open")=false->∀j y,j < i+1->m.63[j]?=!y->op=false->y.2.2≠ii:=λhz j y hj hyy hf=>by
    by_cases c:j < i
    ·show hop hf j y c hyy
    ·have:j=i:=by lk
     subst this;rw[h2] at hyy;cases hyy;show of_decide_eq_false hz
   rw[hRa];clear hRa;show OQ λRb hRb=>?_;let age:∀D',D'.nx=(λσ H'=>(∃op v3 v4,σ=[!V.ref k.kd,!V.ref fa,!V.bl op,v3,v4,none]/\(op=false->∀j x,j < i+1->m.63[j]?=!x->x.2.2≠ii))/\Ω H H')->Rb D' [!V.ref k.kd,!V.ref fa,!V.bl op,!V.ref d,!V.ref D,none] H2:=λD' eD=>by
    rw[hRb];show OQ λRc hRc=>?_;let fin:Rc D' [!V.ref k.kd,!V.ref fa,!V.bl op,!V.ref d,!V.ref D,none] H2:=by
     rw[hRc];lia;show(Λ _ rfl ?_);cases op with
     | true=>
      rw[γ rfl,eD];show⟨(SU _ _ _ rfl (λz=>by cases z)),s3⟩
     | false=>
      rw[Φ "!"];show ay (dg VL (iL x sp)) ?_;lia;rw[eD];show⟨(SU _ _ _ rfl (λhz j y hj hy=>ap5 hz j y hj hy rfl)),s3⟩
    lia;show ay (dg VL (iL x sp)) ?_;lia
    by_cases cc:x.2.2="closed"
    ·rw[γ (ϝ cc)]
     show inn true _ ?_;lia;rcases hSP.2 cc with al | no
     ·by_cases em:true∈e0.1.map (L2.Q2 F)
      ·rw[γ (ϝ em)]
       show inn false _ ?_;lia
       rw[Φ (λz=>by
        (show ι (ω.mp (f7 z)) λs h1 h2=>?_)
        rw[al s h1] at h2;cases h2)]
       show fin
      ·rw[Φ (λz=>em (f7 z)),Φ ρ]
       show fin
     ·rw[Φ (λz=>by
       (show ι (ω.mp (f7 z)) λs h1 h2=>?_)
       rw[no s h1] at h2;cases h2),Φ ρ]
      show fin
    ·rw[Φ (λz=>cc (f7 z)),Φ ρ]
     show fin
   lia;show ay (dg VL (iL x sp)) ?_;lia
   by_cases co:x.2.2="open"
   ·rw[γ (ϝ co)]
    show inn true _ ?_;lia
    rw[Φ (λz=>by
     (show ι (ω.mp (f7 z)) λs h1 h2=>?_)
     rw[hSP.1 co s h1] at h2;cases h2)]
    show age _ rfl
   ·rw[Φ (λz=>co (f7 z)),Φ ρ]
    show age _ rfl
 ·rintro σ H' ⟨⟨op,v3,v4,rfl,hop⟩,s'⟩
  rw[hRz];walk1;let sqr:G' K H' k.rl (rws.map V.ref):=.inl (.inl (s' _ _ hK.rl));let hlr:=hK.lr;show ay (dg (s' _ _ hK.kd) (kn k t)) (bS sqr (gq (ο (show(rws.map V.ref).4<=100 by rw[Θ];lk) "!") (λD i ys H2=>H' D=none/\Ω H' H2/\H2 D=!.lst ys/\ys=(W.take i).map λw=>V.int w.4) (λD hD=>⟨hD,Ω.upd hD,aa,rfl⟩) (λD i ys H2 hi ⟨_,s,e,hy⟩=>⟨e,by rw[hy,Θ,eF];lk,s.seq sqr⟩) (λD i ys H2 v hD hv ⟨_,s,e,hy⟩ Qe qe=>?_) (λD ys H2 hD ⟨_,s,e,hy⟩=>?_)))
  ·rw[Ρ] at hv
   (show ι (ξ.mp hv) λra Vl μ=>?_;subst μ);let Qw:=(Α.mp Vl).1;let hw:W[i]?=!W[i]'():=Ε ();generalize W[i]'()=wl at hw;(show ϱ ((hK.rw i ra wl Vl hw).ZC) λts sqw tl' _=>?_);walk1;show cO (.inl (.inl (s _ _ (s' _ _ sqw)))) (qe _ _ e ⟨hD,Ω.wr s hD,aa,?_⟩);rw[hy,Ϲ,hw,ϐ,Θ,tl',jy];rfl
  ·rw[Θ,hlr,bv] at hy
   let s2:=s'.trans s;cases op with
   | true=>show q H2 s2
   | false=>
    let e':H2 D=!.lst (F.map V.int):=by rw[e,hy,hno λj x hx=>hop rfl j x (by rw[Θ,hK.70];show(Α.mp hx).1) hx,ϣ];rfl
    show nV (wR (.inl (.inl (s2 _ _ hfa)))) (wR (.inl (.inl e'))) (HI _) rfl (q H2 s2)
local macro_rules | `(tactic| walk_at "rd")=>rdM "vF vG sY sZ vH vI xI tj"
def yz:T.Az.O P w mg base 8 (vS (N7 a) a.ϖ):=by
 walk_at "x ok Az jV 10";(revert h;show L6 λA0 d Z X r rws=>N9 λW F nm s μ=>N8 λhL hs q=>?_;subst μ)
 show(Λ _ (ae (qk (i:=2) ["_law_cellar","_law_kept","_law_fronts_now","_law_row","_law_front"] ["_law_cellar","_law_kept","_law_fronts_now","","_law_front"] (Ο lK) (s!"c") (d9 rfl T.fu (am (aF (a9 (K:=K)) (by rfl) T.dz zn (am (ak K hr ϶ ai))))) (λC₁ s₁ H₁ f₁=>(aZ ϶ T.aD T.ng (l8 T) hr ν (am Ϯ))) jV.nd)
   (ae (bE Ϛ rfl (fk rfl T.cm (am wv)) (cg rfl (aH (aE (i:=3) jV.nd rfl (ϵ rfl)) (aH (aE (i:=4) jV.nd rfl (ϵ rfl)) b9))) (af (aQ (PW.pt (qx (aw dU (pv 4) (ak K hr (ak K hr ϶ ai) MN) (ϧ _)) (k7 (aw la (pv 4) (aF (a9) (by rfl) T.dz zn (am (ak K hr (ak K hr ϶ ai) MN))) (ϧ _))))) (af (ao cS)) au)))
   (ae (cz wv (cM ϶ ai (bL (R0 hr))))
   (af (ao (ar T.oE (nG T) hr ν (eC ϶ wv))))))) ?_)
 show OQ λRz hRz=>?_;lia;let hK:=hL.93;let bd:=hL.94;(show UP hL.rl λl1 l2 l3 l4 l5 l6=>?_);show ay (dg hK.kd (kn r _)) (cO (.inl (.inl hK.rl)) ?_);rw[Θ];show(MD _ rfl () () ?_);rw[Ϝ];show iE (ο l5 "!") (λD i ys H2=>H D=none/\Ω H H2/\H2 D=!.lst ys/\∃e,(1<=i->Ol (Qj X.m) (FB X.M) e/\∀j,0<=e.getD j 0)/\ys=((Ϟ i).map λj=>e.getD j 0).map V.int) (λD hD=>⟨hD,Ω.upd hD,aa,(Λ ([]) (λz=>absurd z "!") rfl)⟩) ?_ ?_ ?_
 ·rintro D i ys H' - ⟨_,_,h3,e,_,rfl⟩
  show⟨h3,∅⟩
 ·rintro D i ys H' hD hi ⟨_,s',h3,e,he,rfl⟩ Qe qe
  rw[Int.zero_add];lia;let C':=hL.ob.ce.same s';obtain⟨dx,hc⟩:=C'.QL;show(ϕ dx _ hc rfl (Wq A0 d Z X i rfl C' ⟨(),hL.pw.wd.fr (by have:=bd.cn;lk) (by have:=bd.ds;lk),λe' H2 s2 fe f0=>?_⟩));let ee:∀j,j < i->e.getD j 0=e'.getD j 0:=λj hj=>by rw[(he ()).1.uniq fe]
  show qe _ _ (s2 _ _ h3) ⟨hD,Ω.wr (s'.trans s2) hD,aa,(Λ e' (λ_=>⟨fe,f0⟩) ?_)⟩;rw[AT,ϐ,ϐ];congr 2;show NL λj hj=>ee j (Ow.mp hj)
 ·rintro D ys H1 hD ⟨_,s1,h1,e,he,rfl⟩
  obtain⟨fe,f0⟩:=he l4;let el:=fe.le.1.trans l6;let ee:(Ϟ rws.4).map (λj=>e.getD j 0)=e:=Qv λj=>by
   rw[Ρ]
   by_cases c:j < rws.4
   ·rw[aal c,Ε ()]
    change some (e.getD j 0)=_;rw[ε,Ε ()];rfl
   ·rw[sK (by rw[rc];lk),sK ()]
    rfl
  rw[ee] at h1;clear ee he;let K1:=hK.same s1;rw[hRz];clear hRz;show OQ λRz hRz=>?_;lia;let sq:G' K H1 D (e.map V.int):=.inl (.inl h1);show(ϕ _ _ rfl sq (ki (λi σ H'=>(∃v3 v4,σ=[!V.ref A0.c,!V.ref r.kd,!V.ref D,v3,v4])/\Ω H1 H') ⟨(Ny none none rfl),Ω.refl _⟩ (λi σ H' _ z=>z.2.seq sq) ?_ ?_))
  ·rintro i y U σ H' hy hU ⟨⟨v3,v4,rfl⟩,s'⟩
   rw[Ρ] at hy;(show ι (ξ.mp hy) λf hf μ=>?_;subst μ);let hi:=(Α.mp hf).1;let sU:=s'.trans (Ω.upd (o:=.tup [.int i,.int f]) hU);let eU:upd H' U (.tup [.int i,.int f]) U=!.tup [.int i,.int f]:=aa;generalize upd H' U (.tup [.int i,.int f])=H2 at sU eU ⊢;let K2:=K1.same sU;let hFl:=hL.pw.ZI.1.trans l6;let hF:F[i]?=!F.getD i 0:=by rw[ε,Ε ()];rfl
   let Vl:rws[i]?=!rws[i]'():=Ε ();let hw:W[i]?=!W[i]'():=Ε ();generalize rws[i]'()=ra at Vl;generalize W[i]'()=wl at hw;(show ϱ ((K2.rw i ra wl Vl hw).ZC) λts sqw tl' _=>?_);let b1:=(Gg fe hL.pw.85 hL.pw.ZI).2 i;let b2:=fe.le.2 i;rw[Bv hL.pw.wd hw] at b2;let hf':e.getD i 0=f:=by rw[ε,hf];rfl
   rw[hf'] at b1 b2;lia;show(Fk _ _ rfl (.inl (.inl eU)) rfl (cr _ _ rfl (ϕ _ _ rfl rfl (ay (dg K2.kd (ur r _)) (bx (.inl (.inl K2.ft)) (bj () (by rw[Ϝ,Ρ];change F[i]?.map _=_;rw[hF];rfl)) ?_)))));lia;rw[Φ (λz=>by have:=f7 z;lk)];show ay (dg K2.kd (kn r _)) (bx (.inl (.inl K2.rl)) (bj () (by rw[Ϝ,Ρ,Vl];rfl)) (cO (.inl (.inl sqw)) ?_));lia;rw[Θ,tl',jy,Φ (by simp;lk)];show⟨(Ny _ _ rfl),sU⟩
  ·rintro σ H2 ⟨⟨v3,v4,rfl⟩,s2⟩
   rw[hRz];lia;let K2:=K1.same s2;let nD:D∉r.all rws:=λz=>by
    obtain⟨o,eo⟩:=hK.here D z;rw[hD] at eo;cases eo
   show cu (Qc.k (k:=.inr "fronts") K2.kd (by show 6 < _;decide)) ?_;let c3:ϛ [r.kd] H2 (upd H2 r.kd (.dK (putK (NX r (Rn X W F).t) (.inr "fronts") (.ref D)))):=ϛ.upd ∅ (cP K2.kd);let e3:upd H2 r.kd (.dK (putK (NX r (Rn X W F).t) (.inr "fronts") (.ref D))) r.kd=!(.dK (NX { r with ft:=D } (Rn X W F).t)):=by rw[aa,Il]
   generalize upd H2 r.kd (.dK (putK (NX r (Rn X W F).t) (.inr "fronts") (.ref D)))=H3 at c3 e3 ⊢;let eD:=c3.keep _ _ (s2 _ _ h1) (λz=>nD (Ζ.mp z▸Η _ (mi 0 rfl)));let K3:=K2.ao0 c3 e3 eD nD;let c:=(ϛ.of_same (s1.trans s2)).trans c3;show(Da ({ r with ft:=D }) rws X.t X.m W _ (SV _ _ e D rfl K3 eD (mN.mp fe.85) ⟨λj x hx=>⟨?_,λy hy=>?_⟩,by have:=bd.ds;lk,(),(),⟨λhno=>?_,λH4 s4=>?_⟩⟩))
   ·have:=qq hx
    have:=bd.cn;lk
   ·have:=hL.pw.wd.zY hx hy
    lk
   ·rw[<-KH hL.pw.wd]
    show zU fe hL.pw.wd.Q2 hno
   ·let O:=hL.ob.ahG (m':=Rn X W e) c (λb hb=>Ζ.mp hb▸Η _ (mi 0 rfl)) (λb hb=>.inr λxs z=>by rw[Ζ.mp hb,hK.kd] at z;cases z) K3 (λb hb=>akP hD hb) (λb hb=>.inl hb) (λb hb=>⟨_,Ζ.mp hb▸e3⟩)
    show q H4 _ { r with ft:=D } e (c.trans (ϛ.of_same s4)) (λb hb=>akP hD hb) rfl ⟨O.same s4,hL.pw.ahH fe f0⟩ fe
local macro_rules | `(tactic| walk_at "rd")=>rdM "vF vG sY sZ vH vI xI tj zT uu tm xS"
def sR:T.uV.O P w mg base 9 (xV (N7 a) a.ϖ):=by
 walk_at "x ok uV iN 10";(revert h;show L6 λA0 d Z X r rws=>N9 λW F nm s μ=>QT λhL hs fe q=>?_;subst μ)
 show(Λ _ (ae (bE Ϛ rfl (jt rfl T.cm (ak K hr ϶ ai)) (cg rfl (aH (aE (i:=2) iN.nd rfl (ϵ rfl)) (aH (aE (i:=3) iN.nd rfl (ϵ rfl)) b9))) (af (aQ (aw (eA (hU hr)) (aZ Ϯ T.aD T.oC (nE T) hr ν (am wv)) (ak K hr MN ai) (ϧ _)) (af (ao cS)) au)))
   (ae (bE Ϛ rfl (fk rfl T.cm (am (ak K hr ϶ ai))) (cg rfl (aH (aE (i:=4) iN.nd rfl (ϵ rfl)) (aH (aE (i:=5) iN.nd rfl (ϵ rfl)) b9))) (ae (aQ (aw (eA (K:=K) (hU hr)) (iA Ϯ T.aD T.kT (kc T) (hr.mono "!") T.sr T.su ν (aj (pv 4) (eC ah ah))) (ar T.pG (nF T) hr ν (aj ϶ (eC (pv 4) (ak K hr (ak K hr ϶ ai) (pv 4))))) (ϧ _)) (af (ao cS)) au)
   (af (aQ (aw (eA (hU hr)) (iA Ϯ T.aD T.kT (kc T) (hr.mono "!") T.tG .nil ν (aj (pv 4) (aj ah (eC ah cS)))) (ar T.pG (nF T) hr ν (aj ϶ (eC (pv 4) (aF (a9) (by rfl) T.dz zn (am (pv 5)))))) (ϧ _)) (af (ao cS)) au))))
   (af (ao cS)))) ?_)
 show OQ λRz hRz=>?_;lia;let hK:=hL.93;let bd:=hL.94;(show UP hL.rl λl1 l2 l3 l4 l5 l6=>?_);let fr:=hL.pw.wd.fr (by have:=bd.cn;lk) (by have:=bd.ds;lk);let sq:G' K H r.dl (r.ds.map V.ref):=.inl (.inl hK.OH.28);show ay (dg hK.kd (dF r _)) (ϕ _ _ rfl sq (fM (λi σ H'=>(∃v2 v3 v4 v5,σ=[!V.ref A0.c,!V.ref r.kd,v2,v3,v4,v5])/\Ω H H') ⟨(Yt none none none none rfl),Ω.refl _⟩ (λi σ H' _ z=>z.2.seq sq) ?_ ?_))
 ·rintro i y U σ H' hy hU ⟨⟨v2,v3,v4,v5,rfl⟩,s'⟩
  rw[Ρ] at hy;(show ι (ξ.mp hy) λda hd μ=>?_;subst μ);let sU:=s'.trans (Ω.upd (o:=.tup [.int (i+1),.ref da]) hU);let eU:upd H' U (.tup [.int (i+1),.ref da]) U=!.tup [.int (i+1),.ref da]:=aa;generalize upd H' U (.tup [.int (i+1),.ref da])=H2 at sU eU ⊢;(show Vu (hK.OH.get hd) λsp x e h1 h2 h3 h4=>?_);let hi:=(Α.mp h2).1;lia;show(Fk _ _ rfl (.inl (.inl eU)) rfl (cr _ _ rfl (ϕ _ _ rfl rfl ?_)));let C':=hL.ob.ce.same sU;obtain⟨dx,hc⟩:=C'.QL;show(ϕ dx _ hc rfl (Da A0 d Z X i x ⟨rfl,C',by have:=bd.ds;have:X.m.M.ds.4=_:=rfl;let hi:i < X.m.M.ds.4:=hi;lk,h2,λH3 s3=>ay (dg (s3 _ _ (sU _ _ h4)) (iL x sp)) ?_⟩));lia;rw[Φ ∅];show⟨(Yt _ _ _ _ rfl),sU.trans s3⟩
 ·rintro σ H1 ⟨⟨v2,v3,v4,v5,rfl⟩,s1⟩
  change Rz { nx:=λx H'=>Q V.k4 H',rt:=Q } _ _;rw[hRz];clear hRz;show OQ λRz hRz=>?_;lia;let sqr:G' K H1 r.rl (rws.map V.ref):=.inl (.inl (s1 _ _ hK.rl));show ay (dg (s1 _ _ hK.kd) (kn r _)) ?_;show(ϕ _ _ rfl sqr (ki (xs:=rws.map V.ref) (λi σ H'=>(∃v2 v3 v4 v5,σ=[!V.ref A0.c,!V.ref r.kd,v2,v3,v4,v5])/\Ω H H') ⟨(Yt _ _ _ _ rfl),s1⟩ (λi σ H' _ z=>.inl (.inl (z.2 _ _ hK.rl))) ?_ ?_))
  ·rintro i y U σ H' hy hU ⟨⟨v2,v3,v4,v5,rfl⟩,s'⟩
   rw[Ρ] at hy;(show ι (ξ.mp hy) λra Vl μ=>?_;subst μ);let hi:=(Α.mp Vl).1;let sU:=s'.trans (Ω.upd (o:=.tup [.int i,.ref ra]) hU);let eU:upd H' U (.tup [.int i,.ref ra]) U=!.tup [.int i,.ref ra]:=aa;generalize upd H' U (.tup [.int i,.ref ra])=H2 at sU eU ⊢;lia;let hw:W[i]?=!W[i]'():=Ε ();let hm:X.35[i]?=!X.35[i]'():=Ε ();generalize W[i]'()=wl at hw;generalize X.35[i]'()=mr at hm;let R5:=hL.pw.wd.row i wl mr hw hm;let wb:=bd.wl i wl hw;let okl:=hL.pw.lt wl (Δ hw);let ml:mr.19 < 100:=by rw[R5.19];lk
   let hFl:=hL.pw.ZI.1.trans l6;let hF:F[i]?=!F.getD i 0:=by rw[ε,Ε ()];rfl
   let ddw:=λp l hp=>hL.pw.wd.dd i wl p l hw hp;show(Fk _ _ rfl (.inl (.inl eU)) rfl (cr _ _ rfl (ϕ _ _ rfl rfl ?_)));let C2:=hL.ob.ce.same sU;obtain⟨dx,hc⟩:=C2.QL;show(ϕ dx _ hc rfl (Da A0 d Z X i true (TW mr rfl C2 fr hm R5.56 ⟨ml,λ_ e' fe' _ D H3 hD s3 t3=>?_,λz=>by cases z⟩)));let s23:=sU.trans s3;let K3:=hK.same s23;show ay (dg K3.kd (ur r _)) (bx (.inl (.inl K3.ft)) (bj () (by rw[Ϝ,Ρ];change F[i]?.map _=_;rw[hF];rfl)) ?_);show(Da r _ _ _ rws i (Vt ra wl _ rfl K3.kd K3.OH K3.rl Vl (K3.rw i ra wl Vl hw) ⟨(),ddw,λD2 H4 hD2 s4 t4=>af6 okl (((af5 R5 (hL.pw.f0 i) ((Bv hL.pw.wd hw)▸hL.pw.ZI.2 i))▸(fe.uniq fe'▸t3:ϲ H3 D ((mr.Mu 0 (F.getD i 0).6).map mr.UU))).same s4) t4 ?_⟩));lia;let s24:=s23.trans s4;let C4:=hL.ob.ce.same s24;obtain⟨dx4,hc4⟩:=C4.QL;show(ϕ dx4 _ hc4 rfl (Da A0 d Z X i false (TW mr rfl C4 fr hm R5.56 ⟨ml,(λz=>by cases z),λ_ D5 H5 hD5 s5 t5=>?_⟩)));let s25:=s24.trans s5;let K5:=hK.same s25;(show ϱ ((K5.rw i ra wl Vl hw).ZC) λts sqw tl' _=>?_);show cO (.inl (.inl sqw)) ?_;rw[Θ,tl',jy];show(Da r _ _ _ rws i (Vt ra wl _ rfl K5.kd K5.OH K5.rl Vl (K5.rw i ra wl Vl hw) ⟨(),ddw,λD6 H6 hD6 s6 t6=>(af6 okl (((af5 R5 () (Oe _))▸(R5.19▸t5:ϲ H5 D5 ((mr.Mu 0 ((wl.4:Int)).6).map mr.UU))).same s6) t6 ?_)⟩));show⟨(Yt _ _ _ _ rfl),s25.trans s6⟩
  ·rintro σ H' ⟨⟨v2,v3,v4,v5,rfl⟩,s'⟩
   rw[hRz];show q _ s'
def AM:T.Ei.O P w mg base 9 (xW (N7 a) a.ϖ):=by
 walk_at "x ok Ei dJ 12";(revert h;show L6 λA0 d Z X r rws=>L6 λW F nm s i tu=>RY λμ hL hs i2 i5=>N8 λt1 t10 q=>?_;subst μ)
 show(Λ _ (ae (aG 4 dJ (ar T.nh (ko T) hr ν (eC ϶ wv)))
   (ae (aG 5 dJ jh)
   (ae (aG 6 dJ jh)
   (ae (FH (af (aQ (aw (bp (hU hr)) MN ah (ϧ _)) (af (aG 5 dJ (iA Ϯ T.aD T.d4 (dH T) (hr.mono "!") T.i8 T.i9 VD (eC wv (ak K hr (ak K hr ϶ ai) wv))))) (af (aG 5 dJ (iA Ϯ T.aD T.d4 (dH T) (hr.mono "!") T.j3 .nil VD (aj wv (eC (ak K hr (ak K hr ϶ ai) wv) MN)))))))
   (km (Jb (aw (bp (hU hr)) MN ah (ϧ _)) (km (vv (ql Ϯ T.aD T.d4 (dH T) (hr.mono "!") T.i8 T.i9 (eC wv (ak K hr (ak K hr ϶ ai) wv))))) (km (vv (ql Ϯ T.aD T.d4 (dH T) (hr.mono "!") T.j3 .nil (aj wv (eC (ak K hr (ak K hr ϶ ai) wv) MN)))))))
   (Jc (i:=7) rfl T.BE dJ.nd rfl rfl (λea=>(af (aG 6 dJ (xb (pv 7) rfl))))
   FG))
   (ae (aQ (aw la (pv 4) ah (ϧ _)) (af (ao (cq (bp (hU hr)) (pv 6) (pv 4) (ϧ _)))) au)
   (ae (aQ (k6 (kf (pv 6))) (af (ao cS)) au)
   (ae (av (bM PySem.F.plainAttrs_list PySem.F.slot_list_append PySem.F.type_list_append br (ak K hr ϶ ai) (am (vi (dD ai wv (dD ai (aM (aX) (ak K hr ϶ ai) MN) (dD ai ai (dD ai (aU cX) vh)))) rfl rfl ∅ "!"))))
   (af (ao (cq (bp (hU hr)) (pv 5) (aF (a9) (by rfl) T.dz zn (am (ak K hr ϶ ai))) (ϧ _))))))))))) ?_)
 show ahh λRz hRz=>?_;lia;let bd:=hL.94;let b1:=bd.ds;let b2:=bd.sz;(show ι bd.tu λt et lt=>?_);show(QA r _ X.77 _ _ rfl hL.ob.57 hL.66 hL.67 () (λH1 s1=>?_));let L1:=hL.same s1;(show ι (L1.call hs i2 i5) λlife call _=>?_);obtain⟨dx,hc⟩:=L1.ob.75;let K1:=L1.93;cases hB:X.m.M.B (S (nm i)) with
 | none=>
  let fin:∀H2 d' Z' O8,ϛ (A0.fx++fD A0 d) H1 H2->(∀b∈fD A0 d',b∈fD A0 d\/H1 b=none)->(∀b∈Z,b∈Z')->WC (N7 a) a.ϖ X.t H2 A0 d' Z' { X.M with ls:=O8 } (X.m.begin (S (nm i)) ((t+tu:Nat)))->O8.4=X.M.ls.4+1->Rz { nx:=λx H'=>Q V.k4 H',rt:=Q } [!V.ref A0.c,!V.ref r.kd,!V.str (S (nm i)),!V.int ↑tu,!V.int 0,!V.int (X.m.M.ds.4+1),!V.k4,none] H2:=λH2 d' Z' O8 c2 Vf hz C2 hl=>by
   rw[hRz];lia;let O2:=L1.ob.QL (X':=⟨X.t,{ X.M with ls:=O8 },X.m.begin (S (nm i)) ((t+tu:Nat))⟩) c2 Vf hz C2;let K2:=O2.kp;rw[Φ "!"];show(Λ _ rfl ?_);rw[Φ ∅];show ay (dg K2.kd (dF r _)) ⟨.inl ⟨rfl,(N' _ (.inl (.inl K2.OH.28)))⟩,λdn hdn=>ay (dg ((Ω.upd hdn) _ _ K2.kd) (qp r _)) ?_⟩;lia;rw[show(Rn X W F).t+(tu:Int)=((t+tu):Int) by show X.t+_=_;lk];show⟨"!",λsn hsn=>⟨(ag (λz=>by rw[z,aa] at hsn;cases hsn)).trans aa,(ϡ (XM (S (nm i),((t+tu:Nat)),ii) sn) rfl (show 4<=15 by decide) (UL r.dl (r.ds.map V.ref) _ rfl rfl ?_))⟩⟩;generalize hH6:upd (upd (upd H2 dn _) sn _) dn _=H6;(show aaM (mk5 hdn hsn hH6) λs6 ed6 es6 n6 afm=>?_);let K6:=K2.same s6;let l1:=K2.70;show⟨K6.OH.28,by rw[Θ,l1];change X.m.M.ds.4 < _;show ό (show X.m.M.ds.4<=100 by lk) "!",?_⟩;let e7:upd H6 r.dl (.lst (r.ds.map V.ref++[V.ref dn])) r.dl=!.lst ((r.ds++[dn]).map V.ref):=by rw[aa,ϐ];rfl
   let c7:ϛ [r.dl] H6 (upd H6 r.dl (.lst (r.ds.map V.ref++[V.ref dn]))):=ϛ.upd ∅ (cv K6.OH.28);generalize upd H6 r.dl (.lst (r.ds.map V.ref++[V.ref dn]))=H7 at e7 c7 ⊢;let ndn:=qr K2 hdn;let nsn:=qr K2 afm;let o1:∀{b:Ι},b∉r.all rws->b∉[r.dl]:=λhb z=>hb (Ζ.mp z▸Η _ (mi 1 rfl));let K7:=K6.ao1 c7 e7 (c7.keep _ _ ed6 (o1 ndn)) (c7.keep _ _ es6 (o1 nsn)) ndn nsn n6;let K8:KpM H7 { r with ds:=r.ds++[dn],ss:=r.ss++[sn] } rws (Rn ⟨X.t,{ X.M with ls:=O8 },X.m.begin (S (nm i)) ((t+tu:Nat))⟩ W F):=by
    change Db H7 _ rws X.t (X.13++[_]) ((X.47++[([],[])]).map (λe:-M4×-OV=>e.1)) W _ _ F;rw[ϐ];show K7
   let O7:=O2.ahG ((ϛ.of_same s6).trans c7) (λb hb=>Ζ.mp hb▸Η _ (mi 1 rfl)) (λb hb=>.inl (Ζ.mp hb▸ϳ)) K8 (λb hb=>newD hdn afm hb) (λb hb=>ao4 afm hb) (λb hb=>⟨_,Ζ.mp hb▸e7⟩);show ay (dg K7.kd (dF _ _)) (cO (.inl (.inl e7)) ?_);rw[A9,ϝ (by rw[Θ,Χ,l1];rfl)];let cH:ϛ (RF A0 d r rws) H H7:=(ϛ.of_same s1).trans ((c2.mono λb hb=>kH hb).trans ((ϛ.of_same s6).trans (c7.mono λb hb=>d7 (Ζ.mp hb▸Η _ (mi 1 rfl)))));show q H7 d' _ _ _ W cH (λb o hb n=>YL n Vf (s1 _ _ hb) (λb hb=>newD hdn afm hb) (c2.keep _ _ (s1 _ _ hb) λz=>n (kH z))) rfl ⟨O7,hL.pw.begin hB hl⟩
  show .inl (S8 (λc=>?_) (λ_=>?_))
  ·show(ϕ dx _ hc rfl (K1.life call.lf (Da A0 d Z X (nm i) life (Ys tu t (by rw[f7 c]) call et t1 () () ⟨(),(),.inr ⟨hB,fin⟩⟩))))
  ·show(ϕ dx _ hc rfl (K1.life call.lf (Da A0 d Z X (nm i) life (Ys tu t rfl call et t1 () () ⟨(),(),.inr ⟨hB,fin⟩⟩))))
 | some z=>
  show .inr (Λ (Got H1 a.OI [("deed",.int z)]) (S8 (λc=>?_) (λ_=>?_)) (λC dy H' ea g he=>?_))
  ·show(ϰ _ dx _ rfl hc rfl (K1.life call.lf (Da A0 d Z X (nm i) life (Ys tu t (by rw[f7 c]) call et t1 () () ⟨(),(),.inl (Λ z hB (λH' s'=>iG s'))⟩))))
  ·show(ϰ _ dx _ rfl hc rfl (K1.life call.lf (Da A0 d Z X (nm i) life (Ys tu t rfl call et t1 () () ⟨(),(),.inl (Λ z hB (λH' s'=>iG s'))⟩))))
  ·(show PV (g.at he) λμ=>Xv λdy M0 sm ge gd=>?_;subst μ;subst M0)
   generalize upd H' ea (xh ea a.OI (!dy))=H2 at sm ge gd ⊢;show .inl ⟨T.wg,(QA _ _ dy _ _ rfl ge gd T.AA T.nq ⟨rfl,?_⟩)⟩;(show Rh (hL.pw.wd.inv.op.a _ z hB) λj e ez _=>?_);rw[hRz];lia;rw[γ (by show decide (0 < z)=true;simp;lk),show decide (z=(!z).getD 0)=true from ϝ rfl];show QE.same hL q (s1.trans sm)
def Et:T.GQ.O P w mg base 9 (zZ (N7 a) a.ϖ):=by
 walk_at "x ok GQ Ll 11";(revert h;show L6 λA0 d Z X r rws=>Vs λW F nm s i μ hL hs i2 i5 q=>?_;subst μ)
 show(Λ _ (ae (av (ar T.fq (eV T) hr ν (aj ϶ (eC (ar T.nh (ko T) hr ν (eC ϶ wv)) ai))))
   (ae (cz (aM (aX) (ak K hr (ak K hr ϶ ai) wv) ah) (cM (ak K hr ϶ ai) wv (bL (R0 hr))))
   (af (ao (cq (bp (hU hr)) (aZ Ϯ T.aD T.kS (j9 T) hr ν (am wv)) (bf (eC (ak K hr (ak K hr ϶ ai) wv) (ak K hr (ak K hr ϶ ai) wv))) (ϧ _)))))) ?_)
 show OQ λRz hRz=>?_;lia;let bd:=hL.94;let b1:=bd.ds;let b3:=bd.ls;let b4:=bd.ss;(show ϱ (hL.pw.nm.lv i i2 i5) λlife el l1 l2=>?_);(show ι (hL.pw.nm.nu i i2 i5) λnum en _=>?_);let rest:∀X1 H1 Z1,Qk X1 W F nm s->X1.M.S=X.M.S->X1.t=X.t->X1.M.ls=X.M.ls->Xm (N7 a) a.ϖ H1 A0 d Z1 X r rws (Rn X1 W F)->ϛ (RF A0 d r rws) H H1->(∀H2 Z2 Q',WC (N7 a) a.ϖ X.t H2 A0 d Z2 X.M X.m->(∀v n0,n0<=X.M.ls.4+2->UD (N7 a) a.ϖ H2 A0 d Z2 n0 ⟨X1.t,X1.M.GM (S (nm i)),X1.m⟩ (λH'=>H' v=!.tup [.int (life+1),.int num]->Q' (.ref v) H'))->o9 (N7 a) a.ϖ [.ref A0.c,.str (S (nm i))] H2 Q' E0)->Rz { nx:=λx H'=>Q V.k4 H',rt:=Q } [!V.ref A0.c,!V.ref r.kd,!V.str (S (nm i))] H1:=λX1 H1 Z1 Um eS et els O1 c1 hc=>by
  rw[hRz];lia;let K1:=O1.kp;let eL1:(Rn X1 W F).lv (S (nm i))=!life:=by show X1.M.S.L _=_;rw[eS];show el
  show K1.life eL1 ?_;rw[hV];show K1.akQ eL1 λH2 c2 e2 K2=>?_;let O2:=O1.one (m':={ Rn X1 W F with lv:=λz=>if z=S (nm i) then some (life+1) else X1.M.S.L z }) c2 (Η _ (mi 3 rfl)) (.inr K1.lv.nl) e2 K2;obtain⟨dx,hcc⟩:=O2.75;show(ϕ dx _ hcc rfl (hc H2 _ _ O2.ce λv n0 hn0 H3 d' Z' O8 c3 Vf hz C3 hl ev=>?_));let O3:=O2.QL (X':=⟨X1.t,{ (X1.M.GM (S (nm i))) with ls:=O8 },X1.m⟩) c3 Vf hz C3;let K3:=O3.kp;show K3.life (γ rfl) (K3.ahI (v:=(num:Int)) ?_ ⟨"!",λp hp=>?_⟩)
  ·show(X1.M.S.L (S (nm i))).map (λ_=>X1.M.S.T (S (nm i)))=_
   rw[eS,el,en];rfl
  let s4:=Ω.upd (o:=.tup [.int (life+1),.int num]) hp;show ahJ (s4 _ _ ev) aa rfl (ahK _ _) ?_;generalize upd H3 p (.tup [.int (life+1),.int num])=H4 at s4 ⊢;let em:Rn ⟨X1.t,{ (X1.M.GM (S (nm i))) with ls:=O8 },X1.m⟩ W F={ Rn X1 W F with lv:=λz=>if z=S (nm i) then some (life+1) else X1.M.S.L z }:=by
   show(⟨X1.t,X1.13,_,W,(X1.M.S.GM (S (nm i))).L,QZ (X1.M.S.GM (S (nm i))),F⟩:KM)=_;rw[KI eL1,DH eL1 ()];rfl
  let lvA:r.lv∈r.all rws:=Η _ (mi 3 rfl);let k2:∀{b:Ι} {o:HO},H b=!o->b∉RF A0 d r rws->H2 b=!o:=λhb n=>c2.keep _ _ (c1.keep _ _ hb n) (λz=>n (d7 (Ζ.mp z▸lvA)));show q H4 d' _ _ r W (c1.trans ((c2.mono λb hb=>d7 (Ζ.mp hb▸lvA)).trans ((c3.mono λb hb=>kH hb).trans (ϛ.of_same s4)))) (λb o hb n=>YL n Vf (k2 hb n) (λb hb=>.inl hb) hb) rfl ⟨em▸O3.same s4,Um.GM i2 i5 (by rw[els];lk)⟩
 show(QA r _ X.77 _ _ rfl hL.ob.57 hL.66 hL.67 () (λH1 s1=>?_));change uu _ _ _ _;let L1:=hL.same s1;cases hB:X.m.M.B (S (nm i)) with
 | none=>
  show(Da r _ _ _ 0 _ ⟨rfl,L1.ob.57,L1.66,.inl ⟨"!",rest X H1 Z hL.pw rfl rfl rfl L1.ob (ϛ.of_same s1) λH2 Z2 Q' C2 g=>?_⟩⟩);show(Da A0 d Z2 X (nm i) (life+1) ⟨rfl,C2,hL.pw.nm.ok i i5,by rw[el];rfl,⟨(),(),(),λv hv=>by rw[el] at hv;cases hv;lk,.inl ⟨hB,λv=>?_⟩⟩⟩);let eu:UE X (nm i) (life+1)=[.int (life+1),.int num]:=by unfold UE;rw[el,en];rfl
  rw[eu];show g v _ ()
 | some z=>
  (show Rh (hL.pw.wd.inv.op.a _ z hB) λj e ez hx=>?_);obtain⟨xe,he⟩:=hL.pw.wd.inv.vN hx;let hj:=(Α.mp hx).1;let l1':=L1.ob.kp.70;let UG:r.ds[j]?=!(r.ds[j]'(by rw[l1'];show hj)):=Ε _;generalize r.ds[j]'(by rw[l1'];show hj)=da at UG;let mda:da∈r.all rws:=Β _ (Η _ (Δ UG));show(Da r _ _ _ z _ ⟨rfl,L1.ob.57,L1.66,.inr (ϰ j _ da ez hx UG (λH2 c2 D2=>?_))⟩);let eqD:=jx hx he;let O2:=L1.ob.one (m':=Rn (Wm X j) W F) c2 mda (.inr (L1.ob.kp.OH.nl UG)) (D2.ex UG) (by rw[eqD];show (L1.ob.kp.ac4 c2 (λb hb=>Η _ (Ζ.mp hb▸Δ UG)) D2));let ho:(Wm X j).M.S=X.M.S/\(Wm X j).t=X.t/\(Wm X j).M.ls=X.M.ls:=by rw[eqD];show⟨rfl,rfl,rfl⟩
  change Rz _ _ _;show rest (Wm X j) H2 _ (hL.pw.Wm hx rfl) ho.1 ho.2.1 ho.2.2 O2 ((ϛ.of_same s1).trans (c2.mono λb hb=>d7 (Ζ.mp hb▸mda))) λH3 Z3 Q' C3 g=>?_;rw[eqD] at g;show(Da A0 d Z3 X (nm i) (life+1) ⟨rfl,C3,hL.pw.nm.ok i i5,by rw[el];rfl,⟨(),(),(),λv hv=>by rw[el] at hv;cases hv;lk,.inr (Vt j _ xe (by rw[hB,ez]) () rfl hx he (hL.pw.wd.inv.sp xe (Δ he)) (λv=>?_))⟩⟩);let eu:UE X (nm i) (life+1)=[.int (life+1),.int num]:=by unfold UE;rw[el,en];rfl
  rw[eu];show g v _ (δ _)
def AN:T.Ej.O P w mg base 9 (xX (N7 a) a.ϖ):=by
 walk_at "x ok Ej rZ 11";(revert h;show L6 λA0 d Z X r rws=>Vs λW F nm s tu μ hL hs t1 t10 q=>?_;subst μ)
 show(Λ _ (ae (cz (aM (aX) (ak K hr ϶ ai) wv) (cM ϶ ai (bL (R0 hr))))
   (ae (bE Ϛ rfl (jt rfl T.cm (ak K hr ϶ ai)) (cg rfl (aH (aE (i:=3) rZ.nd rfl (ϵ rfl)) (aH (aE (i:=4) rZ.nd rfl (ϵ rfl)) b9))) (af (aQ (PW.pt (gQ (aw (bp (hU hr)) (ak K hr (pv 4) ai) ai (ϧ _)) (fj (aw fJ (ak K hr (pv 4) ai) (ak K hr ϶ ai) (ϧ _))))) (af (av (ar T.fq (eV T) hr ν (aj ϶ (eC MN ai))))) au)))
   (af (ao (cq (bp (hU hr)) (aZ Ϯ T.aD T.ku (ka T) hr ν (am wv)) (ak K hr ϶ ai) (ϧ _)))))) ?_)
 show Zw λRz hRz=>?_;lia;let bd:=hL.94;let b1:=bd.ds;let b3:=bd.ls;(show ι bd.tu λt et lt=>?_);let hK:=hL.93;show ay (dg hK.kd (qp r _)) ?_;rw[hV,show(Rn X W F).t+(tu:Int)=((t+tu:Nat):Int) by show X.t+_=_;lk];show cu (Qc.k (k:=.inr "turn") hK.kd (by show 6 < _;decide)) ?_;let c1:ϛ [r.kd] H (upd H r.kd (.dK (putK (NX r (Rn X W F).t) (.inr "turn") (.int ((t+tu:Nat):Int))))):=ϛ.upd ∅ (cP hK.kd);let e1:upd H r.kd (.dK (putK (NX r (Rn X W F).t) (.inr "turn") (.int ((t+tu:Nat):Int)))) r.kd=!(.dK (NX r ((t+tu:Nat)))):=by rw[aa,Ik]
 generalize upd H r.kd (.dK (putK (NX r (Rn X W F).t) (.inr "turn") (.int ((t+tu:Nat)))))=H1 at c1 e1 ⊢;let kdA:r.kd∈r.all rws:=Η _ (mi 0 rfl);generalize hX1:(⟨((t+tu:Nat)),X.M,X.m⟩:S5)=X1;let O1:=hL.ob.one (m':=Rn X1 W F) c1 kdA (.inr λxs z=>by rw[hK.kd] at z;cases z) ⟨_,e1⟩ (by rw[<-hX1];show (hK.aoZ c1 e1));let p1:Qk X1 W F nm (s+1):=by
  have:=hL.pw.turn (ls:=X.M.ls) et t10 ();rw[<-hX1];show this
 let opX:∀i j,j∈VM X.77 ((t+tu:Nat)) i->∃x,X1.13[j]?=!x/\x.2.2=ii:=λi j hj=>by rw[<-hX1];show Io hj
 let sq:G' K H1 r.dl (r.ds.map V.ref):=.inl (.inl O1.kp.OH.28);show ay (dg O1.57 (dF r _)) (ϕ _ _ rfl sq (fM (λi σ H'=>(∃v3 v4,σ=[!V.ref A0.c,!V.ref r.kd,!V.int tu,v3,v4])/\(∃Z',Xm (N7 a) a.ϖ H' A0 d Z' X r rws (Rn (Pw X1 (VM X.77 ((t+tu:Nat)) i)) W F))/\ϛ (RF A0 d r rws) H H') ⟨(Ny none none rfl),⟨_,O1⟩,c1.mono λb hb=>d7 (Ζ.mp hb▸kdA)⟩ (λi σ H' _ z=>by (revert z;show N8 λ_ μ _=>?_;obtain ⟨_,o⟩:=μ);show .inl (.inl o.kp.OH.28)) ?_ ?_))
 ·rintro i y U σ H' hy hU ⟨⟨v3,v4,rfl⟩,⟨Z',O'⟩,c'⟩
  rw[Ρ] at hy;(show ι (ξ.mp hy) λda hd μ=>?_;subst μ);let sU:=Ω.upd (o:=.tup [.int (i+1),.ref da]) hU;let eU:upd H' U (.tup [.int (i+1),.ref da]) U=!.tup [.int (i+1),.ref da]:=aa;generalize upd H' U (.tup [.int (i+1),.ref da])=H2 at sU eU ⊢;let O2:=O'.same sU;let c2:=c'.trans (ϛ.of_same sU);(show Vu (O2.kp.OH.get hd) λsp x e h1 h2 h3 h4=>?_);let hx:X.13[i]?=!x:=by
   have:=Im p1.wd.inv (vU X.77 ((t+tu:Nat)) i) (opX i) (Gn _ _ i);rw[show X.77=X1.77 by rw[<-hX1]];show this.symm.trans h2
  let odx:odd X.77 ((t+tu:Nat):Int) i=(decide (x.2.2=ii) && decide (x.2.1<=((t+tu:Nat):Int))):=by unfold odd;rw[hx]
  let mda:da∈r.all rws:=Β _ (Η _ (Δ hd));lia;show(Fk _ _ rfl (.inl (.inl eU)) rfl (cr _ _ rfl (ϕ _ _ rfl rfl (ay (dg h4 (iL x sp)) ?_))));lia;let Qa:odd X.77 ((t+tu:Nat):Int) i=false->(∃Z',Xm (N7 a) a.ϖ H2 A0 d Z' X r rws (Rn (Pw X1 (VM X.77 ((t+tu:Nat):Int) (i+1))) W F))/\ϛ (RF A0 d r rws) H H2:=λho=>by
   rw[uz,ho,Φ "!",Ix];show⟨⟨_,O2⟩,c2⟩
  by_cases co:x.2.2="open"
  ·rw[γ (ϝ co)]
   show ay (dg h4 (KD x sp)) (ay (dg O2.57 (qp r _)) ?_);lia;let eT:(Rn (Pw X1 (VM X.77 ((t+tu:Nat):Int) i)) W F).t=((t+tu:Nat):Int):=by show(Pw _ _).t=_;rw[Gm,<-hX1]
   rw[eT]
   by_cases ce:x.2.1<=((t+tu:Nat):Int)
   ·rw[γ (ϝ ce)]
    obtain⟨xe,he⟩:=((p1.Pw (vU X.77 ((t+tu:Nat):Int) i) (opX i)).wd.inv).vN h2;show(Da r _ _ _ ((i:Int)+1) _ ⟨rfl,O2.57,O2.kp.OH,.inr (ϰ i x da rfl h2 hd (λH3 c3 D3=>?_))⟩);rw[uz,show odd X.77 ((t+tu:Nat):Int) i=true by rw[odx];show Bool.and_eq_true_iff.mpr ⟨ϝ co,ϝ ce⟩,γ rfl,DI];show⟨(Ny _ _ rfl),⟨_,O2.one (m':=Rn (Wm (Pw X1 (VM X.77 ((t+tu:Nat):Int) i)) i) W F) c3 mda (.inr (O2.kp.OH.nl hd)) (D3.ex hd) (by rw[jx h2 he];show (O2.kp.ac4 c3 (λb hb=>Η _ (Ζ.mp hb▸Δ hd)) D3))⟩,c2.trans (c3.mono λb hb=>d7 (Ζ.mp hb▸mda))⟩
   ·rw[Φ (λz=>ce (f7 z))]
    show⟨(Ny _ _ rfl),Qa (by rw[odx];show OL.mpr (.inr (Ϫ ce)))⟩
  ·rw[Φ (λz=>co (f7 z)),Φ ρ]
   show⟨(Ny _ _ rfl),Qa (by rw[odx];show OL.mpr (.inl (Ϫ co)))⟩
 ·rintro σ H2 ⟨⟨v3,v4,rfl⟩,⟨Z2,O2⟩,c2⟩
  change Rz { nx:=λx H'=>Q V.k4 H',rt:=Q } _ _;rw[hRz];lia;let O2:Xm (N7 a) a.ϖ H2 A0 d Z2 X r rws (Rn (Pw X1 (Tc X (t+tu))) W F):=by
   rw[Θ,hK.70] at O2;show O2
  obtain⟨dx,hc⟩:=O2.75;show(ϕ dx _ hc rfl (Da A0 d Z2 X tu t (TW (aaC X (t+tu)) rfl O2.ce et t1 () ⟨(),(),(),rfl,⟨zS hL.pw.wd.inv t tu,?_⟩⟩)));rw[DD,uq,hX1];intro H3 d' Z' O8 c3 Vf hz C3 hl;let O3:=O2.QL (X':=(Pw X1 (Tc X (t+tu))).wl O8) c3 Vf hz C3;let eT:(Rn (Pw X1 (Tc X (t+tu))) W F).t=((t+tu:Nat):Int):=by show(Pw _ _).t=_;rw[Gm,<-hX1]
  show ay (dg O3.57 (qp r _)) ?_;rw[A9,ϝ eT.17];let lj:(Tc X (t+tu)).4<=X.m.M.ds.4:=by
   have:=sB (odd X.77 ((t+tu:Nat):Int)) (Ϟ X.m.M.ds.4);rw[rc] at this;show this
  show q H3 d' Z' _ r W (c2.trans (c3.mono λb hb=>kH hb)) (λb o hb n=>YL n Vf (c2.keep _ _ hb n) (λb hb=>.inl hb) hb) rfl ⟨O3,(p1.Pw (vU X.77 ((t+tu:Nat):Int) X.m.M.ds.4) (opX X.m.M.ds.4)).ao5 ()⟩
def yA:T.Ay.O P w mg base 9 (vT (N7 a) a.ϖ):=by
 walk_at "x ok Ay cK 12";(revert h;show L6 λA0 d Z X r rws=>L6 λW F nm s i cl=>RY λμ hL hs i2 i5 q=>?_;subst μ)
 show(Λ _ (ae (aG 4 cK (ar T.nh (ko T) hr ν (eC ϶ wv)))
   (ae (aG 5 cK jh)
   (ae (aG 6 cK jh)
   (ae (FH (af (aQ (bg MN (by intro _;rfl)) (af (aG 5 cK (aZ Ϯ T.aD T.fX (jd T) hr VD (eC wv (ak K hr (ak K hr ϶ ai) wv))))) (af (aG 5 cK (aZ Ϯ T.aD T.gX (j8 T) hr VD (eC wv (ak K hr (ak K hr ϶ ai) wv)))))))
   (km (Jb (bg MN (by intro _;rfl)) (km (vv (ql Ϯ T.aD T.fX.m (jd T) (hr.mono "!") T.fX.b .nil (eC wv (ak K hr (ak K hr ϶ ai) wv))))) (km (vv (ql Ϯ T.aD T.gX.m (j8 T) (hr.mono "!") T.gX.b .nil (eC wv (ak K hr (ak K hr ϶ ai) wv)))))))
   (Jc (i:=7) rfl T.uQ cK.nd rfl rfl (λea=>(af (aG 6 cK (xb (K:=K) (pv 7) rfl))))
   FG))
   (ae (aQ (aw (bp (hU hr)) (pv 4) ah (ϧ _)) (af (ao (cq (bp (hU hr)) (pv 6) wv (ϧ _)))) au)
   (ae (aQ (k6 (kf (pv 6))) (af (ao cS)) au)
   (ae (aQ (bg MN (by intro _;rfl)) (ae (av (ar T.fq (eV T) hr ν (aj ϶ (eC (pv 4) ai))))
   (ae (aG 8 cK (fH (aF (bF (K:=K)) (by rfl) T.cR Nw (eC (pv 5) (iy (v:=.ty "list") rfl T.gb N0 rfl))) (fG (cq (bp (hU hr)) (pv 5) (ak K hr (ak K hr (ak K hr ϶ ai) (aM nJ (pv 4) ah)) ai) (ϧ _)))))
   (ae (aQ (bg (pv 8) (by intro _;rfl)) (af (av (HG PySem.F.plainAttrs_list PySem.F.slot_list_clear PySem.F.type_list_clear E8 (pv 5)))) au)
   (af (ao (pv 8)))))) au)
   (ae (av (ar T.fq (eV T) hr ν (aj ϶ (eC (pv 4) ai))))
   (af (ao (cq (bp (hU hr)) (pv 5) (pv 4) (ϧ _)))))))))))) ?_)
 show ahh λRz hRz=>?_;lia;let b1:=hL.pw.bd.ds;show(QA r _ X.77 _ _ rfl hL.ob.57 hL.66 hL.67 () (λH1 s1=>?_));let L1:=hL.same s1;(show ι (L1.call hs i2 i5) λlife call _=>?_);obtain⟨dx,hc⟩:=L1.ob.75;let K1:=L1.93;cases hB:X.m.M.B (S (nm i)) with
 | none=>
  show .inr (Λ (Got H1 a.Mw [("name",.str (S (nm i)))]) (Λ _ rfl (S8 (λ_=>(ϰ _ dx _ rfl hc rfl (K1.life call.lf (Da A0 d Z X (nm i) life ⟨rfl,call,.inr ⟨hB,λH' s'=>iG s'⟩⟩)))) (λ_=>(ϰ _ dx _ rfl hc rfl (K1.life call.lf (Da A0 d Z X (nm i) life ⟨rfl,call,.inr ⟨hB,λH' s'=>iG s'⟩⟩)))))) (λC dy H' ea g he=>?_));(show PV (g.at he) λμ=>Xv λdy M0 sm ge gd=>?_;subst μ;subst M0);generalize upd H' ea (xh ea a.Mw (!dy))=H2 at sm ge gd ⊢;show .inl ⟨T.oG,(QA _ _ dy _ _ rfl ge gd T.sC T.j4 ⟨rfl,?_⟩)⟩;rw[hRz];lia;rw[γ (show decide ((none:Option Int).getD 0=0)=true from rfl)];rw[ϝ rfl];show QE.same hL q (s1.trans sm)
 | some z=>
  (show Rh (hL.pw.wd.inv.op.a _ z hB) λj e ez hx=>?_);obtain⟨xe,he⟩:=hL.pw.wd.inv.vN hx;let hj:=(Α.mp hx).1;let UG:r.ds[j]?=!(r.ds[j]'(by rw[K1.70];show hj)):=Ε _;generalize r.ds[j]'(by rw[K1.70];show hj)=da at UG;let mda:da∈r.all rws:=Β _ (Η _ (Δ UG));show .inl (Λ _ rfl (S8 (λRS=>?_) (λRS=>?_)))
  ·subst RS
   show(ϕ dx _ hc rfl (K1.life call.lf (Da A0 d Z X (nm i) life ⟨rfl,call,.inl (Vt j _ xe (by rw[hB,ez]) () rfl hx he (hL.pw.wd.pl xe (Δ he)) (λL H2 d' Z' O8 hLn c2 hdL hz C2 hl tl=>?_))⟩)));let Vf:=λb hb=>(hdL b hb).imp id (·.1);let O2:=L1.ob.QL (X':=⟨X.t,{ X.M with ls:=O8 },X.m.finish j (S (nm i),e,ii) M5⟩) c2 Vf (λb hb=>hz b (θ _ hb)) C2;rw[hRz];lia;rw[Φ (by show ¬decide (z=0)=true;simp;lk)];show(Λ _ rfl ?_);rw[Φ ∅];show(Λ _ rfl ?_);show(Da r _ _ _ z _ ⟨rfl,O2.57,O2.kp.OH,.inr (ϰ j _ da ez hx UG (λH3 c3 D3=>?_))⟩);let O3:=O2.one (m':=Rn ⟨X.t,{ X.M with ls:=O8 },X.m.finish j (S (nm i),e,ii) M5⟩ W F) c3 mda (.inr (O2.kp.OH.nl UG)) (D3.ex UG) (O2.kp.ac4 c3 (λb hb=>Η _ (Ζ.mp hb▸Δ UG)) D3);let nLr:=qr K1 hLn;let nLA:L∉A0.fx++fD A0 d:=L1.ob.ce.RD hLn;let tl3:=tl.im c3 (λz=>nLr (Ζ.mp z▸mda));(show ι (id tl3) λts Sh _=>?_);(show Vu (O3.kp.OH.get UG) λsp x3 e3 g1 g2 g3 g4=>?_);let he3:e3=xe.1:=by
    have:(X.m.xs.map (·.1))[j]?=!e3:=g3;rw[Ρ,he] at this;cases this;rfl
   let tsp:=O3.kp.OH.sp j sp e3 g1 g3;rw[he3] at tsp;let fl:∀y∈xe.1.map Tb,y.all N1=true:=λy hy=>by (show ι (ω.mp hy) λu _ μ=>?_;subst μ);rfl
   let okl:∀y∈xe.1.map Tb,∀v∈y,YC v:=λy hy=>by (show ι (ω.mp hy) λu _ μ=>?_;subst μ);show ahK _ _
   show(mv Sh).mpr (Λ _ rfl ?_);rw[γ rfl];show ay (dg O3.57 (dF r _)) (bx (.inl (.inl O3.kp.OH.28)) (bj (by show 0<=z - 1;lk) (by rw[show((!z).getD 0 - 1).6=j by show(z - 1).6=j;lk,Ρ,UG];rfl)) (ay (dg g4 (rD x3 sp)) ?_));show nV (tl3.den fl) (tsp.den fl) (Bd okl) rfl (Λ true (by simp[Wt]) ?_);rw[γ rfl];show⟨.inl ⟨rfl,(N' _ (.inl (.inl Sh)))⟩,(Fk L _ rfl rfl Sh ?_)⟩;change Q (.bl true) _;let c4:ϛ [L] H3 (upd H3 L (.lst [])):=ϛ.upd ∅ (cv Sh);let e4:upd H3 L (.lst []) L=!.lst []:=aa;generalize upd H3 L (.lst [])=H4 at c4 e4 ⊢;let o4:∀b∈[L],b=L:=λb hb=>Ζ.mp hb;let O4:Xm (N7 a) a.ϖ H4 A0 d' (r.zl rws++Z') _ r rws _:=⟨O3.ce.im c4 (λb hb z=>nLA (Η _ (o4 b hb▸z))) (λb hb z=>(hdL L (o4 b hb▸z)).elim (λy=>nLA (Β _ y)) λy=>y.2 rfl) (λb hb=>.inl (o4 b hb▸Β _ (hz L ϳ))) (λb hb=>⟨_,o4 b hb▸e4⟩),O3.kp.im c4 (λb hb=>o4 b hb▸nLr),O3.sep,O3.Sz⟩
   let cH:=(ϛ.of_same s1).trans ((c2.mono λb hb=>kH hb).trans (c3.mono λb hb=>d7 (Ζ.mp hb▸mda)));show q H4 d' _ _ r W ⟨λb o hb n=>c4.keep _ _ (cH.keep _ _ hb n) (λz=>by rw[o4 b z,aP s1 hLn] at hb;cases hb),λb xs hb=>c4.tup _ _ (cH.tup _ _ hb)⟩ (λb o hb n=>YL n Vf (s1 _ _ hb) (λb hb=>.inl hb) hb) rfl ⟨O4,hL.pw.close hx rfl hl⟩
  ·show(ϕ dx _ hc rfl (K1.life call.lf (Da A0 d Z X (nm i) life ⟨rfl,call,.inl (Vt j _ xe (by rw[hB,ez]) () rfl hx he (hL.pw.wd.inv.sp xe (Δ he)) (λH2 d' Z' O8 c2 Vf hz C2 hl=>?_))⟩)))
   let O2:=L1.ob.QL (X':=⟨X.t,{ X.M with Ms:=O0 X.35 xe.1,ls:=O8 },X.m.finish j (S (nm i),e,ii) wT⟩) c2 Vf hz C2;let RS:cl=false:=by cases cl<;>simp at RS ⊢
   subst RS;rw[hRz];lia;rw[Φ (by show ¬decide (z=0)=true;simp;lk)];show(Λ _ rfl ?_);rw[Φ ∅];show(Λ _ rfl ?_);show(Da r _ _ _ z _ ⟨rfl,O2.57,O2.kp.OH,.inr (ϰ j _ da ez hx UG (λH3 c3 D3=>?_))⟩);let O3:=O2.one (m':=Rn ⟨X.t,{ X.M with Ms:=O0 X.35 xe.1,ls:=O8 },X.m.finish j (S (nm i),e,ii) wT⟩ W F) c3 mda (.inr (O2.kp.OH.nl UG)) (D3.ex UG) (O2.kp.ac4 c3 (λb hb=>Η _ (Ζ.mp hb▸Δ UG)) D3);rw[show decide (j+1=(!z).getD 0)=true from ϝ (by show _=z;lk)];show q H3 d' _ _ r W ((ϛ.of_same s1).trans ((c2.mono λb hb=>kH hb).trans (c3.mono λb hb=>d7 (Ζ.mp hb▸mda)))) (λb o hb n=>YL n Vf (s1 _ _ hb) (λb hb=>.inl hb) hb) rfl ⟨O3,hL.pw.drop hx he rfl hl⟩
def GV:T.IF.O P w mg base 9 (ux (N7 a) a.ϖ):=by
 walk_at "x ok IF rX 16";(revert h;show L6 λA0 d Z X r rws=>L6 λW F nm s i q0=>N9 λdd key wo lt μ=>RY λhL hs i2 i5 hq0=>RY λOM aep hwo hwl hwS=>Nl λhop q=>?_;subst μ)
 show(Λ _ (ae (cz (aM (aX) (ak K hr (ak K hr ϶ ai) wv) ah) (cM (ak K hr ϶ ai) wv (bL (R0 hr))))
   (ae (aG 5 rX (ak K hr (ak K hr ϶ ai) wv))
   (ae (cz (iA Ϯ T.aD T.wa (tK T) (hr.mono "!") T.wc .nil ν (aj wv (aj (pv 5) (aj (ak K hr (ak K hr ϶ ai) wv) (aj (ak K hr (pv 4) ah) (aj (ak K hr (pv 4) ah) (eC (ak K hr (pv 4) ah) MN))))))) (cg rfl (aH (aE (i:=6) rX.nd rfl (ϵ rfl)) (aH (aE (i:=7) rX.nd rfl (ϵ rfl)) b9))))
   (ae (aQ (aw (eA (hU hr)) (pv 7) (aF (a9) (by rfl) T.dz zn (am (ak K hr (ak K hr ϶ ai) (pv 6)))) (ϧ _)) (af (ao cS)) au)
   (ae (av (bM PySem.F.plainAttrs_list PySem.F.slot_list_append PySem.F.type_list_append br (ak K hr (ak K hr ϶ ai) (pv 6)) (am (bf (aj (pv 7) (aj (ak K hr (pv 4) ah) (eC (ak K hr (pv 4) ah) MN)))))))
   (ae (aQ (aw la MN ah (ϧ _)) (af (av (bM PySem.F.plainAttrs_list PySem.F.slot_list_append PySem.F.type_list_append br (ak K hr (ak K hr (ak K hr ϶ ai) (aM nJ MN ah)) ai) (am (bf (eC (pv 6) (pv 7))))))) au)
   (af (ao cS)))))))) ?_)
 show Zw λRz hRz=>?_;lia;let bd:=hL.94;let b1:=bd.ds;let b3:=bd.ls;let b4:=bd.ss;(show ι (hL.call hs i2 i5) λlife call asu=>?_);(show ι (hL.pw.nm.nu i i2 i5) λnum en alg=>?_);let hK:=hL.93;let en0:(Rn X W F).nb (S (nm i))=!(num:Int):=by
  show(X.M.S.L (S (nm i))).map (λ_=>X.M.S.T (S (nm i)))=_;rw[call.lf,en];rfl
 show hK.ahI en0 ?_;rw[hV,show((num:Int)+1)=((num+1:Nat):Int) from rfl];show hK.akR en0 λH1 c1 e1 K1=>?_;let nbA:r.nb∈r.all rws:=Η _ (mi 4 rfl);let O1:=hL.ob.one (m':={ Rn X W F with nb:=λz=>if z=S (nm i) then some ((num+1:Nat):Int) else QZ X.M.S z }) c1 nbA (.inr hK.nb.nl) e1 K1;show K1.life call.lf ?_;rw[hRz];clear hRz;show OQ λRz hRz=>?_;lia;(show ϱ (hL.pw.nm.row hq0 key) λx hxs hxn hri=>?_);generalize aqb:Uw X.74 q0 x key=ri at hri;let hlw:=hL.pw.wd.25;let hlr:rws.4=W.4:=hK.lr;let hw:W[ri]?=!W[ri]'():=Ε ();let hm:X.35[ri]?=!X.35[ri]'():=Ε ();let Vl:rws[ri]?=!rws[ri]'():=Ε ();generalize W[ri]'()=wl at hw;generalize X.35[ri]'()=mr at hm;generalize rws[ri]'()=ra at Vl;let wb:=bd.wl ri wl hw;let hla:=(hL.pw.wd.row ri wl mr hw hm).19;let lt1:=c1.tup _ _ OM;obtain⟨dx,hc⟩:=O1.75;show(ϕ dx _ hc rfl (K1.ahI (v:=((num+1:Nat):Int)) (γ rfl) (bc (.inl (.inl lt1)) rfl (bc (.inl (.inl lt1)) rfl (bc (.inl (.inl lt1)) rfl ?_)))));obtain⟨M',hM⟩:∃M',X.M.put ri mr (key,!wo,(dd:Int)) (S (nm i)) ((num+1:Nat):Int)=M':=⟨_,rfl⟩
 let cas:∃m',OC (.put (nm i) (num+1) dd ri wl.4 key (!wo)) X ⟨X.t,M',m'⟩/\((dd=0/\m'=X.m)\/∃j x e,dd=j+1/\X.13[j]?=!x/\x.2.2=ii/\X.47[j]?=!e/\m'=X.m.hold j e ((ri:Int),mr.19)):=by
  let h2:mr.19<=10000:=by lk
  let h5:((num+1:Nat):Int)=X.M.S.T (S (nm i))+1:=by rw[en];rfl
  rcases hop with rfl | hB
  ·show(Λ X.m (TW mr hm h2 () (by rw[call.lf];rfl) h5 (.inl ⟨rfl,by rw[<-hM];rfl⟩)) (.inl ⟨rfl,rfl⟩))
  ·(show Rh (hL.pw.wd.inv.op.a _ _ hB) λj e ez hx=>?_)
   obtain⟨xe,he⟩:=hL.pw.wd.inv.vN hx;let UG:dd=j+1:=by lk
   have:=qq he;have:=bd.cn;show(Λ _ (TW mr hm h2 () (by rw[call.lf];rfl) h5 (.inr (Fk j xe UG he () (by rw[<-hM])))) (.inr (IB j _ xe UG hx rfl he rfl)))
 (revert cas;show ϭ λm' MZ aqc=>?_);let P5:aa4 (N7 a) a.ϖ X.t H1 A0 d (r.zl rws++Z) X.M X.m (nm i) (nm q0) key (!wo) life (num+1) dd q0 ri wl.4 x mr:=⟨⟨O1.ce.st,hL.pw.nm.ok i i5,call.lo,call.hi,call.lf⟩,hL.pw.nm.ok q0 (),aep,hwo,λw hw=>by cases hw;show hwl,⟨(),()⟩,?_,hop,hxs,hxn,by rw[en];rfl,by rw[aqb],hm,hla,()⟩
 ·show(Da A0 d _ X ⟨X.t,M',m'⟩ (nm i) (Da (nm q0) key (!wo) life (num+1) dd (QA q0 ri wl.4 x mr rfl O1.ce () P5 MZ (λv H2 d' Z' O8 c2 Vf hz C2 hl ev=>?_))))
  show(Fk v _ rfl (.inl (.inl ev)) rfl (cr _ _ rfl (ϕ _ _ rfl rfl ?_)));let O2:=O1.QL (X':=⟨X.t,{ M' with ls:=O8 },m'⟩) c2 Vf hz C2;rw[hRz];clear hRz;show Zw λRz hRz=>?_;lia;let K2:=O2.kp;(show ι (K2.rw ri ra wl Vl hw) λts Sh tT=>?_);let tl:=tT.4;rw[jy] at tl;let mra:ra∈r.all rws:=Β _ (Β _ (Β _ (Δ Vl)));let ix:∀{Q':VK},Q' (.ref ra) H2->Rl K (.ref r.kd) (.str "rows") H2 (λx H1=>Rl K x (.int (ri:Int)) H1 Q'):=λh=>ay (dg K2.kd (kn r _)) (bx (v:=.ref ra) (.inl (.inl K2.rl)) (bj () (by rw[Ϝ,Ρ,Vl];rfl)) h);let lt2:H2 lt=!.tup [.str (S (nm q0)),.str (S key),.str (S wo)]:=c2.tup _ _ lt1;show ix (cO (.inl (.inl Sh)) ?_);lia;rw[Θ,tl,Φ ∅];show ix ⟨.inl ⟨rfl,(N' _ (.inl (.inl Sh)))⟩,bc (.inl (.inl lt2)) rfl (bc (.inl (.inl lt2)) rfl ⟨"!",λp hp=>(UL ra (ts.map V.ref) _ rfl rfl ?_)⟩)⟩;let s3:=Ω.upd (o:=.tup [.int (wl.4:Int),.str (S key),.str (S wo),.int (dd:Int)]) hp;show⟨s3 _ _ Sh,by rw[Θ,tl];show ό (show wl.4<=100 by lk) "!",?_⟩;let T4:=ϲ.push (r:=[.int (wl.4:Int),.str (S key),.str (S wo),.int (dd:Int)]) (s3 _ _ Sh) (tT.im (A:=[]) (ϛ.of_same s3)) aa;let c4:ϛ [ra] (upd H2 p (.tup [.int (wl.4:Int),.str (S key),.str (S wo),.int (dd:Int)])) (upd (upd H2 p (.tup [.int (wl.4:Int),.str (S key),.str (S wo),.int (dd:Int)])) ra (.lst (ts.map V.ref++[V.ref p]))):=ϛ.upd ∅ (cv (s3 _ _ Sh));let e4:∃o,upd (upd H2 p (.tup [.int (wl.4:Int),.str (S key),.str (S wo),.int (dd:Int)])) ra (.lst (ts.map V.ref++[V.ref p])) ra=!o:=⟨_,aa⟩
  generalize upd (upd H2 p (.tup [.int (wl.4:Int),.str (S key),.str (S wo),.int (dd:Int)])) ra (.lst (ts.map V.ref++[V.ref p]))=H4 at T4 c4 e4 ⊢;generalize upd H2 p (.tup [.int (wl.4:Int),.str (S key),.str (S wo),.int (dd:Int)])=H3 at s3 c4;let O3:=O2.same s3;let O4:=O3.one (m':=⟨X.t,X.13,X.m.xs.map (·.1),QD W ri wl (key,!wo,(dd:Int)),X.86,λz=>if z=S (nm i) then some ((num+1:Nat):Int) else QZ X.M.S z,F⟩) c4 mra (.inl (θ _ (Β _ (Δ Vl)))) e4 (O3.kp.ao2 (l:=(key,!wo,(dd:Int))) Vl hw c4 (by rw[DJ];show T4));let cH:ϛ (RF A0 d r rws) H H4:=(c1.mono λb hb=>d7 (Ζ.mp hb▸nbA)).trans ((c2.mono λb hb=>kH hb).trans ((ϛ.of_same s3).trans (c4.mono λb hb=>d7 (Ζ.mp hb▸mra))));let out:∀b o,H b=!o->b∉RF A0 d r rws->b∉RF A0 d' r rws:=λb o hb n=>YL n Vf (c1.keep _ _ hb λz=>n (d7 (Ζ.mp z▸nbA))) (λb hb=>.inl hb) hb;let okk:XE key/\YC (wV (!wo)):=⟨DK aep,Gk hwS⟩
  let hk:((num+1:Nat):Int)=X.M.S.T (S (nm i))+1:=by rw[en];rfl
  rw[hRz];clear hRz;lia;rcases aqc with⟨rfl,rfl⟩ | ⟨j,xd,xe,rfl,hx,ho,he,rfl⟩
  ·rw[Φ "!"]
   let em:Rn ⟨X.t,{ M' with ls:=O8 },X.m⟩ (QD W ri wl (key,!wo,((0:Nat):Int))) F=⟨X.t,X.13,X.m.xs.map (·.1),QD W ri wl (key,!wo,((0:Nat):Int)),X.86,λz=>if z=S (nm i) then some ((num+1:Nat):Int) else QZ X.M.S z,F⟩:=by
    subst hM;show(⟨X.t,X.13,_,_,X.86,QZ (X.M.S.note (S (nm i)) ((num+1:Nat):Int) _),F⟩:KM)=_;rw[uy call.lf]
   show q H4 d' _ _ r _ cH out rfl ⟨em▸O4,?_⟩;subst hM;show hL.pw.ahC i2 i5 hk hw hm okk hl
  ·rw[γ ∅]
   let hj:=(Α.mp hx).1;let UG:r.ds[j]?=!(r.ds[j]'(by rw[hK.70];show hj)):=Ε _;generalize r.ds[j]'(by rw[hK.70];show hj)=da at UG;(show Vu (O4.kp.OH.get UG) λsp x3 e3 g1 g2 g3 g4=>?_);let he3:e3=xe.1:=by
    have:(X.m.xs.map (·.1))[j]?=!e3:=g3;rw[Ρ,he] at this;cases this;rfl
   subst he3;let msp:sp∈r.ss:=Δ g1;let alt:sp∈r.all rws:=Β _ (Β _ (Η _ msp));(show ι (O4.kp.OH.sp j sp xe.1 g1 g3) λus hus uT=>?_);let ul:=uT.4;rw[Θ] at ul;let cn:=qq he;let bcn:=bd.cn;show ay (dg O4.57 (dF r _)) (bx (v:=.ref da) (.inl (.inl O4.kp.OH.28)) (bj () (by rw[show(((j+1:Nat):Int) - 1).6=j by lk,Ρ,UG];rfl)) (ay (dg g4 (rD x3 sp)) ⟨.inl ⟨rfl,(N' _ (.inl (.inl hus)))⟩,"!",λp5 hp5=>(UL sp (us.map V.ref) _ rfl rfl ?_)⟩));let s5:=Ω.upd (o:=.tup [.int (ri:Int),.int (wl.4:Int)]) hp5;show⟨s5 _ _ hus,by rw[Θ,ul];show ό (show xe.1.4<=100 by lk) "!",?_⟩;let T6:=ϲ.push (r:=[.int (ri:Int),.int (wl.4:Int)]) (s5 _ _ hus) (uT.im (A:=[]) (ϛ.of_same s5)) aa;let c6:ϛ [sp] (upd H4 p5 (.tup [.int ri,.int wl.4])) (upd (upd H4 p5 (.tup [.int ri,.int wl.4])) sp (.lst (us.map V.ref++[V.ref p5]))):=ϛ.upd ∅ (cv (s5 _ _ hus));let e6:∃o,upd (upd H4 p5 (.tup [.int ri,.int wl.4])) sp (.lst (us.map V.ref++[V.ref p5])) sp=!o:=⟨_,aa⟩
   generalize upd (upd H4 p5 (.tup [.int ri,.int wl.4])) sp (.lst (us.map V.ref++[V.ref p5]))=H6 at T6 c6 e6 ⊢;generalize upd H4 p5 (.tup [.int (ri:Int),.int (wl.4:Int)])=H5 at s5 c6;let O5:=O4.same s5;let K6:=O5.kp.ac4 c6 (λb hb=>Β _ (Ζ.mp hb▸msp)) (O5.kp.OH.ao3 (y:=((ri:Int),(wl.4:Int))) g1 g3 c6 (by rw[ϐ];show T6));let em:Rn ⟨X.t,{ M' with ls:=O8 },X.m.hold j xe ((ri:Int),mr.19)⟩ (QD W ri wl (key,!wo,((j+1:Nat):Int))) F=⟨X.t,X.13,(X.m.xs.map (·.1)).set j (xe.1++[((ri:Int),(wl.4:Int))]),QD W ri wl (key,!wo,((j+1:Nat):Int)),X.86,λz=>if z=S (nm i) then some ((num+1:Nat):Int) else QZ X.M.S z,F⟩:=by
    subst hM;show(⟨X.t,X.13,(X.m.xs.set j (xe.1++[((ri:Int),mr.19)],xe.2)).map (λe:-M4×-OV=>e.1),_,X.86,QZ (X.M.S.note (S (nm i)) ((num+1:Nat):Int) _),F⟩:KM)=_;rw[uy call.lf,TU,hla]
   let O6:=O5.one (m':=⟨X.t,X.13,(X.m.xs.map (·.1)).set j (xe.1++[((ri:Int),(wl.4:Int))]),QD W ri wl (key,!wo,((j+1:Nat):Int)),X.86,λz=>if z=S (nm i) then some ((num+1:Nat):Int) else QZ X.M.S z,F⟩) c6 alt (.inl (θ _ (Η _ msp))) e6 K6;show q H6 d' _ _ r _ (cH.trans ((ϛ.of_same s5).trans (c6.mono λb hb=>d7 (Ζ.mp hb▸alt)))) out rfl ⟨em▸O6,?_⟩;subst hM;show hL.pw.putD i2 i5 hk hw hm hx ho he okk hl
 ·rcases hop with rfl | hB
  ·show Ϡ _
  ·(show Rh (hL.pw.wd.inv.op.a _ _ hB) λj e ez hx=>?_)
   have:=(Α.mp hx).1;lk
def Paired.asA {α β:Type}{R:α->β->Prop}{xs:-α}{ys:-β}(r:PySem.Paired R xs ys)(n:Nat):PySem.Paired R (xs.take n) (ys.take n):=by
 induction r generalizing n with
 | nil=>cases n<;>show .nil
 | cons r t ih=>cases n with
  | zero=>show .nil
  | succ n=>show .cons r (ih n)
def AO:T.Eh.O P w mg base 2 Cz:=by
 walk_at "h ok Eh eM I c I z2";(revert h;show Xv λm μ h1 h2 q=>?_;subst μ)
 show(Λ _ (ae (aG 2 eM (aM (aX) ah (aM bX (ar T.bo (ba T) hr ν (eC Ϯ ah)) ah)))
   (ae (aG 3 eM (aM bX (ar T.bo (ba T) hr ν (eC Ϯ ah)) wv))
   (ae (qk (i:=4) ["_law_cell","_law_many","_law_size","_law_at","_law_base","_law_names_here","_law_k","_law_signs"] ["_law_cell","_law_many","_law_size","_law_at","_law_base","_law_names_here","","_law_signs"] (Ο oy) (s!"c") (d9 rfl T.fu (am wv)) (λC₁ s₁ H₁ f₁=>(ar T.sv (pJ T) hr ν (am (ar T.bo (ba T) hr ν (eC ϶ (aM (aX) ah Ϯ)))))) eM.nd)
   (ae (aG 5 eM (aU cX))
   (ae (bE Ϛ rfl (d9 rfl T.fu (am ϶)) (aE (i:=6) eM.nd rfl (ϵ rfl)) (ae (aG 7 eM (bI (di) rfl T.gb N0 (am (pv 4))))
   (ae (cz (ar T.sv (pJ T) hr ν (am (aM (aX) (aM bX (ar T.bo (ba T) hr ν (eC Ϯ ah)) ah) (pv 6)))) (cM (pv 7) MN (bL (R0 hr))))
   (af (av (bM PySem.F.plainAttrs_list PySem.F.slot_list_append PySem.F.type_list_append br (pv 5) (am (bM PySem.F.plainAttrs_str PySem.F.slot_str_join PySem.F.type_str_join (mw) ai (am (pv 7))))))))))
   (af (ao (pv 5)))))))) ?_)
 lia;obtain⟨sz,afn⟩:∃sz,1+wn c 61 % 12=sz:=⟨_,rfl⟩
 obtain⟨Xn,abJ⟩:∃Xn,wn c 62 % sz=Xn:=⟨_,rfl⟩
 let W5:1<=sz/\sz<=12:=by lk
 let hat:0<=Xn/\Xn < sz:=by rw[<-abJ];show⟨A' _ (),Nb _ ()⟩
 let gnm:MH c=λ(k:Nat)=>(((Ϟ sz.6).map λ(k:Nat)=>N4 (wn c (70+(0+(k:Int)))))).set Xn.6 (N4 (wn c 63 % 36+(0+(k:Int)))):=by
  funext k;unfold MH nb5 sz5 at5;rw[afn,abJ]
 rw[afn,abJ];show⟨(),(),(MD _ rfl () () (oU (ο (show sz.6<=12 by lk) "!") (λk=>.str (S [N4 (wn c (70+(0+(k:Int))))])) ?_ ?_))⟩
 ·intro i H' hi s Qe qe
  lia;show qe H' (Ω.refl _)
 ·intro D H1 hD s1 h1
  let eb:((Ϟ sz.6).map λ(k:Nat)=>V.str (S [N4 (wn c (70+(0+(k:Int))))]))=(((Ϟ sz.6).map λ(k:Nat)=>N4 (wn c (70+(0+(k:Int))))).map λk=>[k]).map λl=>V.str (S l):=by
   rw[ϣ,ϣ];rfl
  rw[eb] at h1;let hbl:((Ϟ sz.6).map λ(k:Nat)=>N4 (wn c (70+(0+(k:Int))))).4=sz.6:=by simp
  let hba:((Ϟ sz.6).map λ(k:Nat)=>N4 (wn c (70+(0+(k:Int))))).all inN=true:=by
   rw[OO];intro y hy;(show ι (ω.mp hy) λk _ μ=>?_;subst μ);show qN _
  generalize ((Ϟ sz.6).map λ(k:Nat)=>N4 (wn c (70+(0+(k:Int)))))=b at h1 hbl hba gnm;show⟨Ϡ _,λp hp=>(MD _ rfl () () ?_)⟩;let hDp:D≠p:=λz=>by rw[<-z,h1] at hp;cases hp
  let hD1:upd H1 p (.lst []) D=!(.lst ((b.map λk=>[k]).map λl=>V.str (S l))):=(ag hDp).trans h1;generalize hg:(λ(k:Nat)=>b.set Xn.6 (N4 (wn c 63 % 36+(0+(k:Int)))))=g;show lg (λi σ H'=>ϛ [p] (upd H1 p (.lst [])) H'/\H' p=!(.lst (((Ϟ i).map g).map λl=>V.str (S l)))/\∃v1 v2,σ=[!V.int c,!V.int m,!V.int sz,!V.int Xn,!V.ref D,!V.ref p,v1,v2]) ⟨ϛ.refl _,aa,(Ny none none rfl)⟩ ?_ ?_
  ·rintro i σ H' hi ⟨c',hl,v1,v2,rfl⟩
   show OQ λRy Ul=>?_;lia;show(ϕ D _ rfl (.inl (.inl (.inl (c'.keep _ _ hD1 (by simp[hDp]))))) (λl hlf=>?_));rw[Ul];clear Ul;show OQ λRy Ul=>?_;lia;let hlp:l≠p:=λz=>by rw[z,hl] at hlf;cases hlf
   show⟨"!",vm (j:=Xn.6) aa ?_ ?_⟩
   ·show yZ hat.1 (by simp;lk)
   let ah8:(PP (λl=>V.str (S l)) (PP (λk=>[k]) b)).set Xn.6 (V.str (S [N4 (wn c 63 % 36+(0+(i:Int)))]))=(((g i).map λk=>[k]).map λl=>V.str (S l)):=by
    rw[<-hg];simp only[TU]
   let hgl:(g i).4<=12:=by rw[<-hg];simp only[ϗ];lk
   rw[ah8,AQ,Ul];clear Ul;lia;let s2:Ω H' (upd H' l (.lst (((g i).map λk=>[k]).map λl=>V.str (S l)))):=Ω.upd hlf;show⟨.inl ⟨rfl,(N' _ (.inl (.inl (s2 _ _ hl))))⟩,rfl,(IB ([]) _ _ rfl rfl (.inl (.inl aa)) ?_ ?_)⟩
   ·rw[t7,Θ]
    show ο (show(g i).4+_<=100 by simp;lk) "!"
   ·rw[qK]
    show(Vt _ _ _ rfl rfl (s2 _ _ hl) (ό (show _<=36 by simp;lk) "!") ?_ (aa.trans ?_) (Ny _ _ rfl))
    ·show c'.trans ((ϛ.of_same s2).trans (ϛ.upd ∅ (cv (s2 _ _ hl))))
    ·rw[AT,ϐ,ϐ]
     rfl
  ·rintro σ H' ⟨c',hl,v1,v2,rfl⟩
   lia;show q p H' (s1.free hp) (λb0 o hb=>?_) ?_
   ·let hb1:=s1 _ _ hb
    show c'.keep _ _ ((Ω.upd hp) _ _ hb1) (by simp;show aq hb1 hp)
   ·rw[hl]
    unfold names5;rw[gnm,hg];simp
def Eu:T.GP.O P w mg base 2 DL:=by
 walk_at "x ok GP fE 2";(revert h;show MM λc m μ h2 q=>?_;subst μ)
 show(Λ _ (ae (aG 2 fE (aM (aX) ah (aM bX (ar T.bo (ba T) hr ν (eC Ϯ ah)) ah)))
   (ae (qk (i:=3) ["_law_cell","_law_many","_law_size","_law_base","_law_at","_law_keys_here","_law_k","_law_signs"] ["_law_cell","_law_many","_law_size","_law_base","_law_at","_law_keys_here","","_law_signs"] (Ο rW) (s!"c") (d9 rfl T.fu (am wv)) (λC₁ s₁ H₁ f₁=>(ar T.yn (uX T) hr ν (eC (ar T.bo (ba T) hr ν (eC ϶ (aM (aX) ah Ϯ))) ah))) fE.nd)
   (ae (aG 4 fE (aM bX (ar T.bo (ba T) hr ν (eC Ϯ ah)) wv))
   (ae (aG 5 fE (aU cX))
   (ae (bE Ϛ rfl (d9 rfl T.fu (am ϶)) (aE (i:=6) fE.nd rfl (ϵ rfl)) (ae (aG 7 fE (bI (di) rfl T.gb N0 (am MN)))
   (ae (cz (ar T.yn (uX T) hr ν (eC (aM (aX) (aM bX (ar T.bo (ba T) hr ν (eC Ϯ ah)) ah) (aM kj ah (pv 6))) ah)) (cM (pv 7) (pv 4) (bL (R0 hr))))
   (af (av (bM PySem.F.plainAttrs_list PySem.F.slot_list_append PySem.F.type_list_append br (pv 5) (am (bM PySem.F.plainAttrs_str PySem.F.slot_str_join PySem.F.type_str_join (mw) ai (am (pv 7))))))))))
   (af (ao (pv 5)))))))) ?_)
 lia;obtain⟨sz,afn⟩:∃sz,1+wn c 101 % 24=sz:=⟨_,rfl⟩
 obtain⟨Xn,abJ⟩:∃Xn,wn c 102 % sz=Xn:=⟨_,rfl⟩
 let W5:1<=sz/\sz<=24:=by lk
 let hat:0<=Xn/\Xn < sz:=by rw[<-abJ];show⟨A' _ (),Nb _ ()⟩
 rw[afn,abJ];show⟨(),(MD _ rfl () () (oU (ο (show sz.6<=24 by lk) "!") (λk=>.str (S [sgn (wn c (110+(0+(k:Int)))) 94])) ?_ ?_))⟩
 ·intro i H' hi s Qe qe
  show⟨"!","!",qe H' (Ω.refl _)⟩
 ·intro D H1 hD s1 h1
  let eb:((Ϟ sz.6).map λ(k:Nat)=>V.str (S [sgn (wn c (110+(0+(k:Int)))) 94]))=(((Ϟ sz.6).map λ(k:Nat)=>sgn (wn c (110+(0+(k:Int)))) 94).map λk=>[k]).map λl=>V.str (S l):=by
   rw[ϣ,ϣ];rfl
  rw[eb] at h1;let hbl:((Ϟ sz.6).map λ(k:Nat)=>sgn (wn c (110+(0+(k:Int)))) 94).4=sz.6:=by simp
  let hba:∀y∈((Ϟ sz.6).map λ(k:Nat)=>sgn (wn c (110+(0+(k:Int)))) 94),Oi y=true:=by
   intro y hy;(show ι (ω.mp hy) λk _ μ=>?_;subst μ);show Fv _
  generalize ((Ϟ sz.6).map λ(k:Nat)=>sgn (wn c (110+(0+(k:Int)))) 94)=b at h1 hbl hba;show⟨(),Ϡ _,λp hp=>(MD _ rfl () () ?_)⟩;let hDp:D≠p:=λz=>by rw[<-z,h1] at hp;cases hp
  let hD1:upd H1 p (.lst []) D=!(.lst ((b.map λk=>[k]).map λl=>V.str (S l))):=(ag hDp).trans h1;generalize hg:(λ(k:Nat)=>b.set Xn.6 (sgn (wn c 103 % 94+7 * (0+(k:Int))) 94))=g;show lg (λi σ H'=>ϛ [p] (upd H1 p (.lst [])) H'/\H' p=!(.lst (((Ϟ i).map g).map λl=>V.str (S l)))/\∃v1 v2,σ=[!V.int c,!V.int m,!V.int sz,!V.ref D,!V.int Xn,!V.ref p,v1,v2]) ⟨ϛ.refl _,aa,(Ny none none rfl)⟩ ?_ ?_
  ·rintro i σ H' hi ⟨c',hl,v1,v2,rfl⟩
   show OQ λRy Ul=>?_;lia;show(ϕ D _ rfl (.inl (.inl (.inl (c'.keep _ _ hD1 (by simp[hDp]))))) (λl hlf=>?_));rw[Ul];clear Ul;show OQ λRy Ul=>?_;lia;let hlp:l≠p:=λz=>by rw[z,hl] at hlf;cases hlf
   show⟨"!",.inl ⟨"!","!"⟩,"!","!",vm (j:=Xn.6) aa ?_ ?_⟩
   ·show yZ hat.1 (by simp;lk)
   let ah8:(PP (λl=>V.str (S l)) (PP (λk=>[k]) b)).set Xn.6 (V.str (S [sgn (wn c 103 % 94+7 * (0+(i:Int))) 94]))=(((g i).map λk=>[k]).map λl=>V.str (S l)):=by
    rw[<-hg];simp only[TU]
   let hgl:(g i).4<=24:=by rw[<-hg];simp only[ϗ];lk
   rw[ah8,AQ,Ul];clear Ul;lia;let s2:Ω H' (upd H' l (.lst (((g i).map λk=>[k]).map λl=>V.str (S l)))):=Ω.upd hlf;show⟨.inl ⟨rfl,(N' _ (.inl (.inl (s2 _ _ hl))))⟩,rfl,(IB ([]) _ _ rfl rfl (.inl (.inl aa)) ?_ ?_)⟩
   ·rw[t7,Θ]
    show ο (show(g i).4+_<=100 by simp;lk) "!"
   ·rw[qK]
    show(Vt _ _ _ rfl rfl (s2 _ _ hl) (ό (show _<=36 by simp;lk) "!") ?_ (aa.trans ?_) (Ny _ _ rfl))
    ·show c'.trans ((ϛ.of_same s2).trans (ϛ.upd ∅ (cv (s2 _ _ hl))))
    ·rw[AT,ϐ,ϐ]
     rfl
  ·rintro σ H' ⟨c',hl,v1,v2,rfl⟩
   lia;show q p H' ((Ϟ m).map g) (s1.free hp) (λb0 o hb=>?_) ?_ ∅ ?_
   ·let hb1:=s1 _ _ hb
    show c'.keep _ _ ((Ω.upd hp) _ _ hb1) (n1 (aq hb1 hp))
   ·rw[hl]
    unfold tx;simp
   ·intro l hl
    (show ι (ω.mp hl) λk _ μ=>?_;subst μ);rw[<-hg];show Go () () hba (Fv _)
def m4 (x:Int):x % 4=0\/x % 4=1\/x % 4=2\/x % 4=3:=by lk
def Ew:T.GR.O P w mg base 10 (z9 (N7 a) a.ϖ):=by
 walk_at "x ok GR iq 14";(revert h;show L6 λA0 d Z X r rws=>L6 λW F nm s nl kl=>Qz λks c μ hL hs hnl=>QT λhkl hks hko q=>?_;subst μ)
 show(Λ _ (ae (aG 5 iq (aM bX (ar T.bo (ba T) hr ν (eC (pv 4) ah)) ah))
   (ae (aG 6 iq (ak K hr ϶ (aM (aX) ah (aM bX (ar T.bo (ba T) hr ν (eC (pv 4) ah)) ah))))
   (ae (aQ (aw dU (pv 5) ah (ϧ _)) (af (ao (ar T.Ei (AM T) hr ν (aj Ϯ (aj MN (eC (pv 6) (ak K hr (aU (aj ah (aj ah (eC ah ah)))) (aM bX (ar T.bo (ba T) hr ν (eC (pv 4) ah)) ah)))))))) au)
   (ae (aQ (aw dU (pv 5) ah (ϧ _)) (ae (aG 7 iq (ar T.nh (ko T) hr ν (eC MN (pv 6))))
   (ae (aQ (aw (bp (hU hr)) (pv 5) ah (ϧ _)) (af (aG 7 iq ah)) au)
   (ae (aG 8 iq (bf (aj (ak K hr ϶ (aM bX (ar T.bo (ba T) hr ν (eC (pv 4) ah)) ah)) (eC (ak K hr wv (aM bX (ar T.bo (ba T) hr ν (eC (pv 4) ah)) ah)) (bI (fC (K:=K)) rfl T.pH RP (am (ar T.bo (ba T) hr ν (eC (pv 4) ah))))))))
   (af (ao (ar T.IF (GV T) hr ν (aj Ϯ (aj MN (aj (pv 6) (eC (pv 7) (pv 8))))))))))) au)
   (ae (aQ (aw dU (pv 5) ah (ϧ _)) (af (ao (ar T.Ay (yA T) hr ν (aj Ϯ (aj MN (eC (pv 6) (cq dU (pv 5) ah (ϧ _)))))))) au)
   (ae (aQ (aw (bp (hU hr)) (aM bX (ar T.bo (ba T) hr ν (eC (pv 4) ah)) ah) ah (ϧ _)) (af (ao (ar T.GQ (Et T) hr ν (aj Ϯ (eC MN (pv 6)))))) au)
   (af (ao (ar T.Ej (AN T) hr ν (aj Ϯ (eC MN (ak K hr (aU (aj ah (aj ah (eC ah ah)))) (aM bX (ar T.bo (ba T) hr ν (eC (pv 4) ah)) ah))))))))))))) ?_)
 show Zw λRz hRz=>?_;lia;obtain⟨i,i2,i5,hat⟩:∃i,2<=i/\i < 5/\Za [V.str (S (nm 0)),.str (S (nm 1)),.str (S (nm 2)),.str (S (nm 3)),.str (S (nm 4))] (2+wn c 2 % 3)=!V.str (S (nm i)):=by
  have:wn c 2 % 3=0\/wn c 2 % 3=1\/wn c 2 % 3=2:=by lk
  rcases this with h | h | h<;>rw[h]
  ·show(ϡ 2 "!" "!" rfl)
  ·show(ϡ 3 "!" "!" rfl)
  ·show(ϡ 4 "!" "!" rfl)
 show⟨"!","!",bx (.inl (.inl hnl)) hat ?_⟩
 rw[hRz];show OQ λRz hRz=>?_;lia;show S8 (λc1=>?_) (λc1=>?_)
 ·show⟨"!",λp hp=>?_⟩
  let sp:=Ω.upd (o:=.lst [.int 10,.int 1,.int 2,.int 6]) hp;obtain⟨tu,t1,t10,ha⟩:∃tu:Nat,1<=tu/\tu<=10/\Za [V.int 10,.int 1,.int 2,.int 6] (wn c 3 % 4)=!V.int tu:=by
   have:=m4 (wn c 3)
   rcases this with h | h | h | h<;>rw[h]
   ·show(ϡ 10 "!" "!" rfl)
   ·show(ϡ 1 "!" "!" rfl)
   ·show(ϡ 2 "!" "!" rfl)
   ·show(ϡ 6 "!" "!" rfl)
  show⟨"!",bx (.inl (.inl aa)) ha (Da A0 d Z X r rws (Da W F nm s i tu ⟨rfl,hL.same sp,hs,i2,⟨i5,t1,t10,q.on sp⟩⟩))⟩
 ·change Rz { nx:=λx H'=>Q V.k4 H',rt:=Q } _ _
  rw[hRz];clear hRz;show OQ λRz hRz=>?_;lia;show S8 (λc2=>?_) (λc2=>?_)
  ·let b1:=hL.pw.bd.ds
   show(QA r _ X.77 _ _ rfl hL.ob.57 hL.66 hL.67 () (λH1 s1=>?_));let nl1:=s1 _ _ hnl;let kl1:=s1 _ _ hkl;(show sw (ahL c) λw1 w2 w3=>?_);let bm:=Bb c 6;let hkx:(wn c 5 % 6).6 < ks.4:=by lk
   let ah9:Za (tx ks) (wn c 5 % 6)=!V.str (S ks[(wn c 5 % 6).6]):=bj () (by unfold tx;rw[Ρ,Ε hkx];rfl);let hkk:=hko _ (ON hkx);generalize ks[(wn c 5 % 6).6]=key at ah9 hkk;obtain⟨q0,hq0,alx⟩:∃q0,q0 < 2/\Za [V.str (S (nm 0)),.str (S (nm 1)),.str (S (nm 2)),.str (S (nm 3)),.str (S (nm 4))] (wn c 4 % 2)=!V.str (S (nm q0)):=by
    have:wn c 4 % 2=0\/wn c 4 % 2=1:=by lk
    rcases this with h | h<;>rw[h]
    ·show(Λ 0 "!" rfl)
    ·show(Λ 1 "!" rfl)
   let put:∀(dd:Nat),(dd=0\/X.m.M.B (S (nm i))=!(dd:Int))->∀p,H1 p=none->ux (N7 a) a.ϖ [V.ref A0.c,V.ref r.kd,V.str (S (nm i)),V.int dd,V.ref p] (upd H1 p (HO.tup [V.str (S (nm q0)),V.str (S key),V.str (S (MO (wn c 6)))])) Q E0:=λdd hdd p hp=>by
    let s2:=s1.trans (Ω.upd (o:=.tup [V.str (S (nm q0)),V.str (S key),V.str (S (MO (wn c 6)))]) hp);show(Da A0 d Z X r rws (Da W F nm s i q0 (SV dd key (MO (wn c 6)) p rfl (hL.same s2) hs i2 ⟨i5,hq0,aa,hkk,⟨w1,(),w3,hdd,q.on s2⟩⟩)))
   show S8 (λ_=>?_) (λ_=>?_)
   ·show⟨"!",bx (.inl (.inl nl1)) alx ⟨"!",bx (.inl (.inl kl1)) ah9 (MD _ rfl (eE () ()) "!" (put 0 (.inl rfl)))⟩⟩
   ·show⟨"!",bx (.inl (.inl nl1)) alx ⟨"!",bx (.inl (.inl kl1)) ah9 (MD _ rfl (eE () ()) "!" ?_)⟩⟩
    cases hB:X.m.M.B (S (nm i)) with
    | none=>show put 0 (.inl rfl)
    | some z=>
     (show Rh (hL.pw.wd.inv.op.a _ z hB) λj e ez _=>?_);let hz:z=((j+1:Nat):Int):=by lk
     have:=put (j+1) (.inr (by rw[hB,hz]));rw[hz];show this
  ·change Rz { nx:=λx H'=>Q V.k4 H',rt:=Q } _ _
   rw[hRz];clear hRz;lia;show S8 (λ_=>(Da A0 d Z X r rws (Da W F nm s i _ ⟨rfl,hL,hs,i2,⟨i5,q⟩⟩))) (λ_=>⟨"!",S8 (λ_=>(Da A0 d Z X r rws (QA W F nm s i rfl hL hs i2 i5 q))) (λ_=>⟨"!",λp hp=>?_⟩)⟩);let sp:=Ω.upd (o:=.lst [.int 1,.int 2,.int 3,.int 10]) hp;obtain⟨tu,t1,t10,ha⟩:∃tu:Nat,1<=tu/\tu<=10/\Za [V.int 1,.int 2,.int 3,.int 10] (wn c 8 % 4)=!V.int tu:=by
    have:=m4 (wn c 8)
    rcases this with h | h | h | h<;>rw[h]
    ·show(ϡ 1 "!" "!" rfl)
    ·show(ϡ 2 "!" "!" rfl)
    ·show(ϡ 3 "!" "!" rfl)
    ·show(ϡ 10 "!" "!" rfl)
   show⟨"!",bx (.inl (.inl aa)) ha (Da A0 d Z X r rws (QA W F nm s tu rfl (hL.same sp) hs t1 t10 (q.on sp)))⟩
def K9:T.LS.O P w mg base 11 (yY K):=by
 walk_at "x ok LS iO 2";(revert h;show P9 λp ns μ hS hlen q=>?_;subst μ)
 show(Λ _ (ae (aG 1 iO (ar T.pF (ny T) hr ν (eC Ϯ ah)))
   (ae (aG 2 iO (ar T.Eh (AO T) hr ν (eC ϶ ah)))
   (ae (aG 3 iO (aU (eC (aM (aX) ah (aM bX (ar T.bo (ba T) hr ν (eC ϶ ah)) ah)) (aM (aX) ah (aM bX (ar T.bo (ba T) hr ν (eC ϶ ah)) ah)))))
   (ae (aG 4 iO (qh T.GC (lZ T) (hr.mono "!") rfl T.DW T.na.b .nil ν (am (aU (eC (bf (aj (ak K hr wv ah) (eC (ak K hr MN ah) ai))) (bf (aj (ak K hr wv ah) (eC (ak K hr MN ah) ai))))))))
   (ae (aG 5 iO (ar T.GP (Eu T) hr ν (eC (ar T.pF (ny T) hr ν (eC Ϯ ah)) ah)))
   (ae (aG 6 iO (vi (dD ai (aU cX) (dD ai (cZ ["_law_script","_law_cell","_law_names_here","_law_sizes","_law_cellar","_law_keys_here","_law_kept","_law_sender","_law_at","_law_each"] ["_law_script","_law_cell","_law_names_here","_law_sizes","_law_cellar","_law_keys_here","_law_kept","_law_sender","_law_at","_law_each"] (Ο Gz) (s!"c") (d9 rfl T.fu (am (aF (nR) (by rfl) T.GU al1 (am MN)))) (λC₁ s₁ H₁ f₁=>(aU cX))) (dD ai dC (dD ai dC (dD ai ah vh))))) rfl rfl ∅ "!"))
   (ae (cz (aM Ip (aU (am ah)) (aF (nR) (by rfl) T.GU al1 (am MN))) (cM (pv 6) ai (bL (R0 hr))))
   (ae (bE Ϛ rfl (bb (qC (vn (K:=K)) wv (qi ah) A4)) (aE (i:=7) iO.nd rfl (ϵ rfl)) (ae (cz ah (cM (ak K hr (pv 6) ai) (pv 7) (bL (R0 hr))))
   (ae (cz ah (cM (ak K hr (pv 6) ai) (pv 7) (bL (R0 hr))))
   (af (aQ (aw (eA (K:=K) (hU hr)) (aZ (pv 4) T.aD T.kS (j9 T) hr ν (am (pv 7))) (bf (eC ah ah)) (ϧ _)) (af (ao cS)) au)))))
   (ae (bE Ϛ rfl (fk rfl T.cm (am (qC (vn) Ϯ (qi ah) (qi ah)))) (cg rfl (aH (aE (i:=8) iO.nd rfl (ϵ rfl)) (aH (aE (i:=9) iO.nd rfl (ϵ rfl)) b9))) (ae (aQ (PW.pt (qx (d8 (bg (K:=K) (ar T.GR (Ew T) hr ν (aj (pv 4) (aj wv (aj (pv 5) (eC (pv 6) (pv 9)))))) (by intro _;rfl))) (k7 (d8 (bg (K:=K) (ar T.Az (yz T) hr ν (eC (pv 4) (pv 6))) (by intro _;rfl)))))) (af (ao cS)) au)
   (af (aQ (PW.pt (gQ (aw (bp (K:=K) (hU hr)) (aM bX (pv 8) ah) ah (ϧ _)) (fj (d8 (bg (K:=K) (ar T.uV (sR T) hr ν (eC (pv 4) (pv 6))) (by intro _;rfl)))))) (af (ao cS)) au))))
   (af (ao (ar T.uV (sR T) hr ν (eC (pv 4) (pv 6)))))))))))))) ?_)
 show ahg λRz hRz=>?_;lia;show(ϡ ns hS "!" (MD 5 rfl "!" "!" (λnl H1 hnl s1 e1=>?_)));generalize hcc:ns.getD (Int.toNat 0) 0=c at e1 ⊢;let en:(names5 c 5).map (λl=>V.str (S l))=[.str (S (MH c 0)),.str (S (MH c 1)),.str (S (MH c 2)),.str (S (MH c 3)),.str (S (MH c 4))]:=rfl;rw[en] at e1;let tw:∀x:Int,∃n:Nat,1+x % 2=(n:Int)/\1<=n/\n<=2:=λx=>(ϡ ((1+x % 2).6) () () ());obtain⟨n1,hn1,a1,a2⟩:=tw (wn c 1)
 obtain⟨n2,hn2,b1,b2⟩:=tw (wn c 2);clear tw
 lia;rw[hn1,hn2];show⟨"!","!","!",λsz W5=>?_⟩;let u2:=Ω.upd (o:=.lst [.int n1,.int n2]) W5;let esz:upd H1 sz (.lst [.int n1,.int n2]) sz=!.lst [.int n1,.int n2]:=aa;generalize upd H1 sz (.lst [.int n1,.int n2])=H2 at u2 esz ⊢;let e2:=u2 _ _ e1;let s2:=s1.trans u2;rw[hRz];clear hRz;show OQ λRz hRz=>?_;lia;show bx (.inl (.inl e2)) rfl (bx (.inl (.inl esz)) rfl ⟨"!",λp1 Um=>?_⟩);let u3:=Ω.upd (o:=.tup [.str (S (MH c 0)),.int n1,.str "table"]) Um;let ep1:upd H2 p1 (.tup [.str (S (MH c 0)),.int n1,.str "table"]) p1=!.tup [.str (S (MH c 0)),.int n1,.str "table"]:=aa;generalize upd H2 p1 (.tup [.str (S (MH c 0)),.int n1,.str "table"])=H3 at u3 ep1 ⊢;show bx (.inl (.inl (u3 _ _ e2))) rfl (bx (.inl (.inl (u3 _ _ esz))) rfl ⟨"!",λp2 W6=>⟨"!",λp3 hp3=>?_⟩⟩);let u4:=Ω.upd (o:=.tup [.str (S (MH c 1)),.int (n2:Int),.str "stream"]) W6;let ep2:upd H3 p2 (.tup [.str (S (MH c 1)),.int (n2:Int),.str "stream"]) p2=!(.tup [.str (S (MH c 1)),.int (n2:Int),.str "stream"]):=aa;generalize upd H3 p2 (.tup [.str (S (MH c 1)),.int (n2:Int),.str "stream"])=H4 at u4 ep2 hp3 ⊢;let u5:=Ω.upd (o:=.lst [.ref p1,.ref p2]) hp3;let ep3:upd H4 p3 (.lst [.ref p1,.ref p2]) p3=!.lst [.ref p1,.ref p2]:=aa;generalize upd H4 p3 (.lst [.ref p1,.ref p2])=H5 at u5 ep3 ⊢;let s25:=u3.trans (u4.trans u5);let hL5:ϲ H5 p3 [[.str (S (MH c 0)),.int (n1:Int),.str "table"],[.str (S (MH c 1)),.int (n2:Int),.str "stream"]]:=(Λ ([p1,p2]) ep3 (.cons (u5 _ _ (u4 _ _ ep1)) (.cons (u5 _ _ ep2) .nil)))
 let e5:=s25 _ _ e2;let aqi:=s25 _ _ esz;let s5:=s2.trans s25;clear u2 u3 u4 u5 ep1 ep2 ep3 Um W6 hp3 s25 e1 e2 esz s1 s2
 let VH:NV [⟨MH c 0,n1,Zx⟩,⟨MH c 1,n2,Zy⟩]:=⟨by show 1<=2;decide,by show 2<=6;decide,λx hx=>by
  simp only[Κ,Μ,χ] at hx;rcases hx with rfl | rfl
  ·show⟨zr c 0,⟨a1,by show n1<=9;lk⟩,.inl rfl⟩
  ·show⟨zr c 1,⟨b1,by show n2<=9;lk⟩,.inr rfl⟩,by
  show[MH c 0,MH c 1].14;show ϊ.mpr ⟨λz=>?_,∅⟩
  show absurd (Bl (c:=c) "!" "!" (Ζ.mp z)) "!"⟩
 show λcl Uo RS alz aqj=>(TV Uo _ aa (hL5.same ((Ω.upd alz).trans (Ω.upd (by rw[ag (ψ aqj)];show RS)))) VH (by show 2<=3;decide) (λA0 Z0 H6 ls hA0 TC c6 C6 hls=>⟨rfl,?_⟩))
 let fr5:∀b∈A0.fix,H5 b=none:=λb hb=>by
  rcases TC b hb with h | h
  ·rw[h];show RS
  ·show(bR h).1
 let s6:Ω H5 H6:=dQ RS alz c6;let MZ:Ϩ [(⟨MH c 0,n1,Zx⟩:PN),⟨MH c 1,n2,Zy⟩] 2=n1+n2:=by simp[Ϩ]
 rw[show([(⟨MH c 0,n1,Zx⟩:PN),⟨MH c 1,n2,Zy⟩]).4=2 from rfl,MZ] at C6;subst hA0;rw[hRz];clear hRz;show OQ λRz hRz=>?_;lia;show(ϡ ns ((s5.trans s6).seq hS) "!" (ϕ _ 6 rfl "!" (λkl H7 ks hkl s7 ekl aql aqm=>?_)));let C7:=C6.same s7;let s57:=s6.trans s7;let e7:=s57 _ _ e5;let alB:=s57 _ _ aqi;rw[hRz];clear hRz;show OQ λRz hRz=>?_;lia;intro kd hkd;show⟨"!",λdl Yg=>?_⟩;let n8:Ω H7 (upd (upd H7 kd (.dK [])) dl (.lst [])):=(Ω.upd hkd).trans (Ω.upd Yg);let e8k:upd (upd H7 kd (.dK [])) dl (.lst []) kd=!.dK []:=(Ω.upd Yg) _ _ aa;let e8d:upd (upd H7 kd (.dK [])) dl (.lst []) dl=!.lst []:=aa;let F8:L2.Fr H7 (upd (upd H7 kd (.dK [])) dl (.lst [])) [dl,kd]:=(L2.Fr.nil.add (QX.refl _) hkd (Ω.upd hkd).NT ⟨_,aa⟩).add (Ω.upd hkd).NT Yg (Ω.upd Yg).NT ⟨_,aa⟩;generalize upd (upd H7 kd (.dK [])) dl (.lst [])=H8 at n8 e8k e8d F8 ⊢;show Fq (ns:=[(n1:Int),(n2:Int)]) (.inl (.inl (n8 _ _ alB))) (MD _ rfl (by simp;lk) (by simp;lk) ?_);rw[show([(n1:Int),(n2:Int)].76).6=n1+n2 from rfl];show iE (ο (show n1+n2<=4 from afA a2 b2) "!") (λD i ys H'=>H8 D=none/\Ω H8 H'/\H' D=!.lst ys/\∃rws,ys=rws.map V.ref/\rws.4=i/\L2.Fr H8 H' (D::rws)/\∀b∈rws,H' b=!.lst []) (λD hD=>⟨hD,Ω.upd hD,aa,(MD ([]) rfl rfl (L2.Fr.nil.add (QX.refl _) hD (Ω.upd hD).NT ⟨_,aa⟩) (λ_ z=>nomatch z))⟩) ?_ ?_ ?_
 ·rintro D i ys H' _ ⟨_,_,h3,rws,rfl,rfl,_,_⟩
  show⟨h3,by rw[Θ];show δ _⟩
 ·rintro D i ys H' hD hi ⟨_,s',h3,rws,rfl,rfl,fr,hb⟩ Qe qe
  lia;show⟨"!",λp4 hp4=>?_⟩;let sp4:=Ω.upd (o:=.lst []) hp4;let nD:D∉rws:=(ϊ.mp fr.nd).1;let nD4:p4≠D:=λz=>by rw[z,h3] at hp4;cases hp4
  show qe _ _ (sp4 _ _ h3) ⟨hD,Ω.wr (s'.trans sp4) hD,aa,(MD (rws++[p4]) (by rw[ϐ];rfl) (by rw[Χ];rfl) ?_ (λb hbb=>?_))⟩
  ·let f1:L2.Fr H8 (upd (upd H' p4 (.lst [])) D (.lst (rws.map V.ref++[.ref p4]))) (p4::D::rws):=fr.add s'.NT hp4 (sp4.NT.trans QX.wr) ⟨.lst [],by rw[ag nD4];show aa⟩
   show f1.perm (ju λb=>?_);simp only[GT,ML,MV,Rs];ac_rfl
  ·rcases Ξ.mp hbb with z | z
   ·let nb:b≠D:=λq=>nD (q▸z)
    rw[ag nb];show sp4 _ _ (hb b z)
   ·rw[Ζ.mp z,ag nD4]
    show aa
 ·rintro rl ys H9 hrl ⟨_,n9,e9r,rws,rfl,aqo,F9,e9w⟩
  intro lv hlv nb hnb;let u1:=Ω.upd (o:=.dK []) hlv;let u2:=Ω.upd (o:=.dK []) hnb;let n10:Ω H9 (upd (upd H9 lv (.dK [])) nb (.dK [])):=u1.trans u2;let aia:upd (upd H9 lv (.dK [])) nb (.dK []) lv=!.dK []:=u2 _ _ aa;let aib:upd (upd H9 lv (.dK [])) nb (.dK []) nb=!.dK []:=aa;let F10:L2.Fr H7 (upd (upd H9 lv (.dK [])) nb (.dK [])) (nb::lv::((rl::rws)++[dl,kd])):=((F8.adds _ n8.NT F9.nd F9.no n9.NT F9.yes).add (n8.trans n9).NT hlv u1.NT ⟨_,aa⟩).add ((n8.trans n9).trans u1).NT hnb u2.NT ⟨_,aa⟩;generalize upd (upd H9 lv (.dK [])) nb (.dK [])=H10 at n10 aia aib F10 ⊢;show⟨n10 _ _ (n9 _ _ e8k),(ϡ ([(.inr "deeds",.ref dl),(.inr "rows",.ref rl),(.inr "lives",.ref lv),(.inr "numbers",.ref nb),(.inr "turn",.int 0)]) rfl (show 5<=15 by decide) ?_)⟩;let c11:ϛ [kd] H10 (upd H10 kd (.dK (Pp [] [(.inr "deeds",.ref dl),(.inr "rows",.ref rl),(.inr "lives",.ref lv),(.inr "numbers",.ref nb),(.inr "turn",.int 0)]))):=ϛ.upd ∅ (cP (n10 _ _ (n9 _ _ e8k)));let alC:upd H10 kd (.dK (Pp [] [(.inr "deeds",.ref dl),(.inr "rows",.ref rl),(.inr "lives",.ref lv),(.inr "numbers",.ref nb),(.inr "turn",.int 0)])) kd=!.dK [(.inr "deeds",.ref dl),(.inr "rows",.ref rl),(.inr "lives",.ref lv),(.inr "numbers",.ref nb),(.inr "turn",.int 0)]:=aa.trans rfl;let Uz:Ω H7 (upd H10 kd (.dK (Pp [] [(.inr "deeds",.ref dl),(.inr "rows",.ref rl),(.inr "lives",.ref lv),(.inr "numbers",.ref nb),(.inr "turn",.int 0)]))):=Ω.wr ((n8.trans n9).trans n10) hkd;let F11:=F10.NT (QX.wr (b:=kd) (o:=.dK (Pp [] [(.inr "deeds",.ref dl),(.inr "rows",.ref rl),(.inr "lives",.ref lv),(.inr "numbers",.ref nb),(.inr "turn",.int 0)])));generalize upd H10 kd (.dK (Pp [] [(.inr "deeds",.ref dl),(.inr "rows",.ref rl),(.inr "lives",.ref lv),(.inr "numbers",.ref nb),(.inr "turn",.int 0)]))=H11 at c11 alC Uz F11 ⊢;rw[hRz];clear hRz;show OQ λRz hRz=>?_;lia;show⟨"!",λz0 hz0=>?_⟩;let u3:=Ω.upd (o:=.lst [.int 0]) hz0;let ez0:upd H11 z0 (.lst [.int 0]) z0=!.lst [.int 0]:=aa;generalize upd H11 z0 (.lst [.int 0])=H12 at u3 ez0 ⊢;show Fq (ns:=[(n1:Int),(n2:Int)]) (.inl (.inl (u3 _ _ (Uz _ _ alB)))) (.inr (Vt z0 _ _ rfl rfl ez0 (by simp;lk) (by simp;lk) ?_ (λft hft=>?_)))
  ·rw[show([(n1:Int),(n2:Int)].76).6=n1+n2 from rfl]
   show ο (show 1 * (n1+n2)<=4 by rw[Nat.one_mul];show afA a2 b2) "!"
  rw[show([(n1:Int),(n2:Int)].76).6=n1+n2 from rfl,show(τ (n1+n2) [V.int 0]).55=(τ (n1+n2) (0:Int)).map V.int by rw[aaL];simp] at *;let u4:=Ω.upd (o:=.lst ((τ (n1+n2) (0:Int)).map V.int)) hft;let eft:upd H12 ft (.lst ((τ (n1+n2) (0:Int)).map V.int)) ft=!(.lst ((τ (n1+n2) (0:Int)).map V.int)):=aa;let F13:=(F11.NT u3.NT).add (Uz.trans u3).NT hft u4.NT ⟨_,aa⟩;generalize upd H12 ft (.lst ((τ (n1+n2) (0:Int)).map V.int))=H13 at u4 eft F13 ⊢;let alD:=u4 _ _ (u3 _ _ alC);show cu (Qc.k (k:=.inr "fronts") alD (by show 5 < _;decide)) ?_
  letI r0:KA:=⟨kd,dl,rl,lv,nb,ft,[],[]⟩
  let c14:ϛ [kd] H13 (upd H13 kd (.dK (NX r0 0))):=ϛ.upd ∅ (cP alD);let alE:upd H13 kd (.dK (NX r0 0)) kd=!.dK (NX r0 0):=aa;let s14:Ω H7 (upd H13 kd (.dK (NX r0 0))):=Ω.wr ((Uz.trans u3).trans u4) hkd
  let F14:L2.Fr H7 (upd H13 kd (.dK (NX r0 0))) (r0.all rws):=(F13.NT QX.wr).perm (ju λb=>by
   change _=List.count b ([kd,dl,rl,lv,nb,ft]++([]++([]++rws)));simp only[GT,ML,MV,u8,NZ,Rs]
   ac_rfl)
  change Rz { nx:=λx H'=>Q V.k4 H',rt:=Q } _ (upd H13 kd (.dK (NX r0 0)));generalize upd H13 kd (.dK (NX r0 0))=H14 at c14 alE s14 F14 ⊢;let nk:∀{b:Ι},b∈[dl,rl,lv,nb,ft]++rws->b∉[kd]:=λhb z=>(ϊ.mp (show(kd::([dl,rl,lv,nb,ft]++rws)).14 from F14.nd)).1 (Ζ.mp z▸hb);let g14:∀{b:Ι} {o:HO},b∈[dl,rl,lv,nb,ft]++rws->H10 b=!o->H14 b=!o:=λhb e=>c14.keep _ _ (u4 _ _ (u3 _ _ (c11.keep _ _ e (nk hb)))) (nk hb);let f5:∀{b:Ι},b∈[dl,rl,lv,nb,ft]->b∈[dl,rl,lv,nb,ft]++rws:=λhb=>Η _ hb;let K14:Db H14 r0 rws 0 [] [] (τ (n1+n2) []) (λ_=>none) (λ_=>none) (τ (n1+n2) 0):=by
   show⟨alE,⟨g14 (f5 (mi 0 rfl)) (n10 _ _ (n9 _ _ e8d)),rfl,rfl,rfl,λi d s x h=>by simp[r0] at h,λi s e h=>by simp[r0] at h,?_⟩,g14 (f5 (mi 1 rfl)) (n10 _ _ e9r),by rw[jp];show aqo,λi b w h1 h2=>?_,(ϡ ([]) (g14 (f5 (mi 2 rfl)) aia) "!" (λz=>rfl)),(ϡ ([]) (g14 (f5 (mi 3 rfl)) aib) "!" (λz=>rfl)),c14.keep _ _ eft (nk (f5 (mi 4 rfl))),F14.nd⟩
   ·show Xt (Xu [kd,dl] ([rl,lv,nb,ft]++rws)) F14.nd
   ·let hw:w=[]:=(M8.mp (Δ h2)).2
    subst hw;let hb:=Δ h1;show(Λ ([]) (g14 (Β _ hb) (n10 _ _ (e9w b hb))) (.nil))
  let C14:=(C7.same s14).aoP (λ_=>rfl) (dl::rws) (λb hb=>F14.yes b (by
   rcases Κ.mp hb with rfl | hb
   ·show Η _ (mi 1 rfl)
   ·show Β [kd,dl,rl,lv,nb,ft] hb))
  letI X0:S5:=⟨0,⟨[⟨MH c 0,n1,Zx⟩,⟨MH c 1,n2,Zy⟩],τ (n1+n2) XF,YH,ls⟩,dm0⟩
  let O14:Xm (N7 a) a.ϖ H14 A0 ZG ((dl::rws)++Z0) X0 r0 rws (Rn X0 (τ (n1+n2) []) (τ (n1+n2) 0)):=⟨C14.toD,K14,λb hb=>(C7.toD (CD:=a.ϖ)).RD (F14.no b hb),λb hb=>Η _ hb⟩
  rw[hRz];clear hRz;show OQ λRz hRz=>?_;lia;let s04:Ω H H14:=s5.trans (s57.trans s14);show(Λ _ rfl (yV (.inl (.inl (s14 _ _ e7))) λsl hsl=>?_));let h5w:∀b∈RF A0 ZG r0 rws,H5 b=none:=λb hb=>by
   rcases Ξ.mp hb with h | h
   ·show fr5 b ((Bt A0).mem_iff.mpr h)
   ·show aP s57 (F14.no b h)
  let sE:∀{b:Ι} {o:HO},H5 b=!o->b∉RF A0 ZG r0 rws:=λe z=>by rw[h5w _ z] at e;cases e
  let nkl:kl∉RF A0 ZG r0 rws:=λz=>by
   rcases Ξ.mp z with h | h
   ·show(C6.toD (CD:=a.ϖ)).RD hkl h
   ·rw[F14.no _ h] at ekl;cases ekl
  let nsl:sl∉RF A0 ZG r0 rws:=λz=>by
   rcases Ξ.mp z with h | h
   ·show O14.ce.RD hsl h
   ·obtain⟨o,e⟩:=F14.yes _ h
    rw[hsl] at e;cases e
  let s15:=Ω.upd (o:=.lst (S0 [V.str (S (MH c 0)),V.str (S (MH c 1)),V.str (S (MH c 2)),V.str (S (MH c 3)),V.str (S (MH c 4))] (some 2) none)) hsl;let esl:upd H14 sl (.lst (S0 [V.str (S (MH c 0)),V.str (S (MH c 1)),V.str (S (MH c 2)),V.str (S (MH c 3)),V.str (S (MH c 4))] (some 2) none)) sl=!.lst [.str (S (MH c 2)),.str (S (MH c 3)),.str (S (MH c 4))]:=aa.trans rfl;generalize upd H14 sl (.lst (S0 [V.str (S (MH c 0)),V.str (S (MH c 1)),V.str (S (MH c 2)),V.str (S (MH c 3)),V.str (S (MH c 4))] (some 2) none))=H15 at s15 esl ⊢;let aqq:Ex5 K H15 (RF A0 ZG r0 rws) p nl kl ns ks (MH c):=⟨(Scr.of hS (λb hb=>aP s5 (h5w b hb))).im (ϛ.of_same (s04.trans s15)),⟨s15 _ _ (s14 _ _ e7),sE e5⟩,⟨s15 _ _ (s14 _ _ ekl),nkl⟩⟩
  let inj:∀i j,i < 5->j < 5->MH c i=MH c j->i=j:=λi j hi hj h=>Bl () () h;let I0:Ini X0 [⟨MH c 0,n1,Zx⟩,⟨MH c 1,n2,Zy⟩] (n1+n2) (MH c) 0:=⟨rfl,rfl,rfl,rfl,δ _,by show ls.4<=1;lk,λj hj=>absurd hj (),λj _ _=>rfl⟩
  show bS (.inl (.inl esl)) (bY (xs:=[.str (S (MH c 2)),.str (S (MH c 3)),.str (S (MH c 4))]) (λi σ H'=>(∃v7,σ=[!V.ref p,!V.int c,!V.ref nl,!V.ref sz,!V.ref A0.c,!V.ref kl,!V.ref kd,v7,none,none])/\∃X d Z,Xm (N7 a) a.ϖ H' A0 d Z X r0 rws (Rn X (τ (n1+n2) []) (τ (n1+n2) 0))/\Ini X [⟨MH c 0,n1,Zx⟩,⟨MH c 1,n2,Zy⟩] (n1+n2) (MH c) i/\Few H' lv i/\Few H' nb i/\Ex5 K H' (RF A0 d r0 rws) p nl kl ns ks (MH c)/\Ot H' (RF A0 d r0 rws) sl (.lst [.str (S (MH c 2)),.str (S (MH c 3)),.str (S (MH c 4))])) ⟨⟨none,rfl⟩,(Vt X0 ZG _ (O14.same s15) I0 (Λ ([]) (s15 _ _ (g14 (f5 (mi 2 rfl)) aia)) (δ _)) (Λ ([]) (s15 _ _ (g14 (f5 (mi 3 rfl)) aib)) (δ _)) aqq esl nsl)⟩ (λi σ H' _ z=>by (revert z;show Nl λ_=>QS λX d Z _ _ _ _=>Nl λ_ o=>?_);show .inl (.inl o.1)) ?_ ?_)
  ·rintro i y σ H' hy ⟨⟨v7,rfl⟩,X,d,Z,O,I,f1,f2,Ex,os⟩
   let hi:i < 3:=(Α.mp hy).1;let hy:y=.str (S (MH c (2+i))):=by
    match i,hi,hy with
    | 0,_,hy=>cases hy;rfl
    | 1,_,hy=>cases hy;rfl
    | 2,_,hy=>cases hy;rfl
   subst hy;lia;let n6:=O.kp.ap.1;let nbA:nb∈r0.all rws:=Η _ (mi 4 rfl);let lvA:lv∈r0.all rws:=Η _ (mi 3 rfl);let nln:lv∉[nb]:=az n6 3 [4] rfl rfl "!";let nnl:nb∉[lv]:=az n6 4 [3] rfl rfl "!";let eL:=I.no i (δ _) hi;let Ils:=I.ls;let Isz:=I.sz;show O.kp.akU f2 () λH1 c1 g1 K1=>?_;let x1:∃o,H1 nb=!o:=by (revert g1;show ϭ λ_ e _=>?_);show⟨_,e⟩
   let O1:=O.one (m':={ Rn X (τ (n1+n2) []) (τ (n1+n2) 0) with nb:=λz=>if z=S (MH c (2+i)) then some 0 else QZ X.M.S z }) c1 nbA (.inr O.kp.nb.nl) x1 K1;show K1.akT (f1.keep c1 nln) () λH2 c2 g2 K2=>?_;let x2:∃o,H2 lv=!o:=by (revert g2;show ϭ λ_ e _=>?_);show⟨_,e⟩
   let O2:=O1.one (m':={ Rn X (τ (n1+n2) []) (τ (n1+n2) 0) with nb:=λz=>if z=S (MH c (2+i)) then some 0 else QZ X.M.S z,lv:=λz=>if z=S (MH c (2+i)) then some 1 else X.M.S.L z }) c2 lvA (.inr K1.lv.nl) x2 K2;obtain⟨dx,hc⟩:=O2.75;show(ϕ dx _ hc rfl (Da A0 d _ X (MH c (2+i)) 1 ⟨rfl,O2.ce,uA c _,by rw[eL];rfl,⟨"!",(),(),(λv hv=>by rw[eL] at hv;cases hv),.inl ⟨by rw[I.m];rfl,λv H3 d' Z' O8 c3 Vf hz C3 hl ev=>⟨"!",λp5 hp5=>?_⟩⟩⟩⟩));let eu:UE X (MH c (2+i)) 1=[.int 1,.int 0]:=by unfold UE;rw[eL];rfl
   rw[eu] at ev;let s6:=Ω.upd (o:=.tup [.int 1,.int 0]) hp5;show ahM (t:=[.int 1,.int 0]) (s6 _ _ ev) aa rfl (ahK _ _) ?_;lia;generalize upd H3 p5 (.tup [.int 1,.int 0])=H4 at s6 ⊢;let em:Rn ⟨X.t,{ (X.M.GM (S (MH c (2+i)))) with ls:=O8 },X.m⟩ (τ (n1+n2) []) (τ (n1+n2) 0)={ Rn X (τ (n1+n2) []) (τ (n1+n2) 0) with nb:=λz=>if z=S (MH c (2+i)) then some 0 else QZ X.M.S z,lv:=λz=>if z=S (MH c (2+i)) then some 1 else X.M.S.L z }:=by
    show(⟨X.t,X.13,_,_,(X.M.S.GM (S (MH c (2+i)))).L,QZ (X.M.S.GM (S (MH c (2+i)))),_⟩:KM)=_;rw[qu eL,Aa eL];rfl
   let cc:ϛ (RF A0 d r0 rws) H' H4:=(c1.mono λb hb=>d7 (Ζ.mp hb▸nbA)).trans ((c2.mono λb hb=>d7 (Ζ.mp hb▸lvA)).trans ((c3.mono λb hb=>kH hb).trans (ϛ.of_same s6)));let out:∀b o,H' b=!o->b∉RF A0 d r0 rws->b∉RF A0 d' r0 rws:=λb o hb n=>YL n Vf (c2.keep _ _ (c1.keep _ _ hb λz=>n (d7 (Ζ.mp z▸nbA))) λz=>n (d7 (Ζ.mp z▸lvA))) (λb hb=>.inl hb) hb;show⟨⟨_,rfl⟩,(UN _ d' _ (em▸(O2.QL (X':=⟨X.t,{ (X.M.GM (S (MH c (2+i)))) with ls:=O8 },X.m⟩) c3 Vf hz C3).same s6) (I.GM inj hi hl) ((g2.keep c3 (O.sep lv lvA)).keep (B:=[]) (ϛ.of_same s6) (λz=>nomatch z)) (((g1.keep c2 nnl).keep c3 (O.sep nb nbA)).keep (B:=[]) (ϛ.of_same s6) (λz=>nomatch z)) (Ex.step cc out) (os.step cc out))⟩
  ·rintro σ H16 ⟨⟨v7,rfl⟩,X,d,Z,O,I,f1,f2,Ex,os⟩
   obtain⟨pw,fr⟩:=Ini.pw I (λi=>uA c i) inj a1 b1;change Rz { nx:=λx H'=>Q V.k4 H',rt:=Q } _ _;rw[hRz];clear hRz;lia;show(Λ _ rfl (Λ _ rfl (yV Ex.sc.sq λp6 hp6=>?_)));generalize hcs:S0 (ns.map V.int) (some 2) (some 58)=cs;let awb:cs.4<=56:=by
    rw[<-hcs,show(!(2:Int))=!((2:Nat):Int) from rfl,show(!(58:Int))=!((2+56:Nat):Int) from rfl,FC,eF];lk
   let hci:∀x∈cs,∃c,x=V.int c:=λx hx=>by
    rw[<-hcs] at hx;(show ι (ω.mp (List.mem_of_mem_drop (RX hx))) λc _ μ=>?_;subst μ);show⟨c,rfl⟩
   let s17:=Ω.upd (o:=.lst cs) hp6;let ep6:upd H16 p6 (.lst cs) p6=!.lst cs:=aa;generalize upd H16 p6 (.lst cs)=H17 at s17 ep6 ⊢;let np6:p6∉RF A0 d r0 rws:=λz=>by
    rcases Ξ.mp z with h | h
    ·show O.ce.RD hp6 h
    ·show qr O.kp hp6 h
   show(ϕ _ _ rfl (.inl (.inl ep6)) (ki (xs:=cs) (λi σ H'=>(∃v8 v9,σ=[!V.ref p,!V.int c,!V.ref nl,!V.ref sz,!V.ref A0.c,!V.ref kl,!V.ref kd,v7,v8,v9])/\∃X d Z r W F,r.kd=kd/\XN (N7 a) a.ϖ H' A0 d Z X r rws W F (MH c) i/\Ol (Qj X.m) (FB X.M) F/\Ex5 K H' (RF A0 d r rws) p nl kl ns ks (MH c)/\Ot H' (RF A0 d r rws) p6 (.lst cs)) ⟨(Ny none none rfl),(Da X d Z r0 _ _ ⟨rfl,⟨O.same s17,pw⟩,fr,Ex.step (ϛ.of_same s17) (λ_ _ _ n=>n),⟨ep6,np6⟩⟩)⟩ (λi σ H' _ z=>by (revert z;show Nl λ_=>L6 λX d Z r W F=>Qy λ_ _ _ _ o=>?_);show .inl (.inl o.1)) ?_ ?_))
   ·rintro i y U σ H' hy hU ⟨⟨v8,v9,rfl⟩,X,d,Z,r,W,F,hkd,L,fr,Ex,op⟩
    let hi:=(Α.mp hy).1;obtain⟨each,rfl⟩:=hci y (Δ hy);lia;let sU:=Ω.upd (o:=.tup [.int (i:Nat),.int each]) hU;let eU:upd H' U (.tup [.int i,.int each]) U=!.tup [.int i,.int each]:=aa;generalize upd H' U (.tup [.int i,.int each])=H2 at sU eU ⊢;let idw:∀{H:Hp} b o,H b=!o->b∉RF A0 d r rws->b∉RF A0 d r rws:=λ_ _ _ n=>n;let Ex2:=Ex.step (ϛ.of_same sU) idw;show(Fk _ _ rfl (.inl (.inl eU)) rfl (cr _ _ rfl (ϕ _ _ rfl rfl ?_)));show(Da A0 d Z X r rws (Da W F (MH c) i nl kl (Ys ks each (by rw[hkd]) (L.same sU) () Ex2.on.1 Ex2.ok.1 aql ⟨aqm,λH3 d3 Z3 X3 r3 W3 c3 o3 hk3 L3=>(Λ true (by simp[Wt]) ?_)⟩)));rw[Φ "!"];show(Da A0 d3 Z3 X3 r3 rws (UO W3 F (MH c) (i+1) (by rw[hk3,hkd]) L3 () (λH4 Z4 r4 F4 c4 n4 hk4 L4 fr4=>(Λ true (by simp[Wt]) ?_))));rw[Φ "!"];let cc4:ϛ (RF A0 d3 r3 rws) H3 H4:=c4.mono λb hb=>d7 (Ζ.mp hb▸Η _ (mi 0 rfl));let alF:∀b o,H3 b=!o->b∉RF A0 d3 r3 rws->b∉RF A0 d3 r4 rws:=λb o hb n=>YL n (λb hb=>.inl hb) hb n4 hb;let Ex4:=(Ex2.step c3 o3).step cc4 alF;let op4:=((op.step (ϛ.of_same sU) idw).step c3 o3).step cc4 alF;let hk:r4.kd=kd:=by rw[hk4,hk3,hkd]
    show⟨"!",S8 (λ_=>?_) (λ_=>⟨(Ny _ _ rfl),(Da X3 d3 Z4 r4 W3 F4 ⟨hk,L4,fr4,Ex4,op4⟩)⟩)⟩;show(Da A0 d3 Z4 X3 r4 rws (SV W3 F4 (MH c) (i+1) (by rw[hk]) L4 () fr4 (λH5 s5=>(Λ true (by simp[Wt]) ?_))));rw[Φ "!"];let alG:∀{H:Hp} b o,H b=!o->b∉RF A0 d3 r4 rws->b∉RF A0 d3 r4 rws:=λ_ _ _ n=>n;show⟨(Ny _ _ rfl),(Da X3 d3 Z4 r4 W3 F4 ⟨hk,L4.same s5,fr4,Ex4.step (ϛ.of_same s5) alG,op4.step (ϛ.of_same s5) alG⟩)⟩
   ·rintro σ H' ⟨⟨v8,v9,rfl⟩,X,d,Z,r,W,F,hkd,L,fr,Ex,op⟩
    lia;show(Da A0 d Z X r rws (SV W F (MH c) cs.4 (by rw[hkd]) L () fr (λH2 _=>q H2)))
end
def walk {l:as7}{K:awi->Ψ}(hn:l.most=some 63)(hdf:d.71=[])
  (hY:∀(w:J') (h:be),YP w h->(K w.42).In h)
  (F:∀(w:J') (mg:Str->Option Υ) (fa:Ι) (h:be),(K w.42).In h->h.Ns mainGlobals mg->mg d.59=!.ref fa->
   ∃fd:Mx,(∀(s:η) (u:Υ),Yj s fd ⟨[u],[]⟩ [("_law_script",u)])/\∀base:be,(K w.42).In base->base.Ns mainGlobals mg->OZ l.24 w (K w.42) mg base Yx 11 fa fd ["_law_script"] (yY (K w.42))) :
  ax5 q loose XP YP l.88 d [] (λf vs=>PySem.call f vs):=
 L2.Hh hn "!" hdf ⟨rfl,"!","!"⟩ hY F (λ_ _ a ns hl _ hS=>(Fk a ns rfl hS hl (λ_=>rfl))) λ_ _ _ _ _ z=>z
end K75
end Lake
end
















open PySem PySem.W PyProof.Rows Lake
open Lean in
local macro_rules | `(tactic| refine' $s:str $xs*)=>do
 let mut n:=0
 let mut q:=0
 let mut o:Array (TSyntax `term):=#[]
 let mut l:=s.getString.toList
 let K:=mkIdent `KX
 let G:=mkIdent `G
 while l≠[] do
  let c:=l.headD 'x'
  l:=l.drop 1
  let d:=l.headD 'x'
  let e<-match d with
  | '1'=>`(L2.el1 λ_=>rfl)
  | '2'=>`(L2.el2 λ_ _=>rfl)
  | '3'=>`(L2.el3 λ_ _ _=>rfl)
  | '4'=>`(L2.el4 λ_ _ _ _=>rfl)
  | '5'=>`(L2.el5 λ_ _ _ _ _=>rfl)
  | _=>`(L2.el7 λ_ _ _ _ _ _ _=>rfl)
  let H:=(Ϟ 6).map λi=>(⟨mkNode `Lean.Parser.Term.syntheticHole #[mkAtom "?",mkIdent (.mkSimple s!"g{n+i}")]⟩:TSyntax `term)
  n:=n+6
  let h (i:Nat):=H.getD i K
  if "abj".toList.contains c then l:=l.drop 1
  o:=o.push (<-match c with
  | 'h'=>pure (h 0)
  | 'q'=>`(⟨$(h 0),$(h 1),$(h 2),$(h 3)⟩)
  | 's'=>`(⟨$(h 0),$(h 1),$(h 2),$(h 3),$(h 4),$(h 5)⟩)
  | 'n'=>`(W.mg_none_of $K $G $(h 0))
  | 'm'=>`(Vd $K $G $(h 0))
  | 'B'=>`(L2.jB (Vd $K $G $(h 0)))
  | 'a'=>`(L2.aW $K $G $(h 0) $(h 1) $(h 2) $(h 3) (λ_ _ _ _ _ _=>$e))
  | 'b'=>`(L2.bC $(h 0) $(h 1) $(h 2) $(h 3) $(h 4) (λ_ _ _ _ _ _=>$e))
  | 'j'=>`(L2.jA $(h 0) $(h 1) $(h 2) (λ_ _ _ _ _ _=>$e))
  | _=>pure (xs.getD q K))
  if c='@' then q:=q+1
 let t<-`(⟨.mk,⟨$o,*⟩⟩)
 let mut c:Array (TSyntax `tactic):=#[]
 let mut S:=#[]
 for x in t.raw.topDown do
  if x.isOfKind `Lean.Parser.Term.syntheticHole then
   let y:=x[1].getId
   let i:TSyntax `Lean.Parser.Tactic.caseArg:=⟨mkNode `Lean.Parser.Tactic.caseArg #[mkNode `Lean.binderIdent #[x[1]],mkNullNode]⟩
   unless S.contains y do
    S:=S.push y
    c:=c.push (<-match y.toString.front with
    | 'r'=>`(tactic| case $i=>(try dsimp only);show _=_;as_aux_lemma=>kernel_rfl)
    | 's'=>`(tactic| case $i=>repeat (first | exact L2.Pf.nil | refine L2.Pf.cons ?_))
    | 'e'=>`(tactic| case $i=>rfl)
    | _=>`(tactic| case $i=>(try dsimp only);show _=_;as_aux_lemma=>k_is))
 `(tactic| (refine' $t;$[$c];*))
set_option maxHeartbeats 0 in
theorem PySem.Challenge.cw_lettercell_k75_deeds_over_rows_holds : PySem.Challenge.rw_lettercell_k75_deeds_over_rows.Holds := by
 refine hdW.2 ?_
 dsimp only[hdW]
 k_fill
 refine K75.walk (l:=PySem.Challenge.rw_lettercell_k75_deeds_over_rows) rfl rfl (λw h Y=>W.kIn_of Y) ?F
 case F=>
  intro w mg fa h KX G hmg
  have T:∃t,K75.Txt w (L2.KOf KX) mg t:=by
   dsimp only[L2.KOf]
   refine' "mmmmmmmmmmmqqqqqqqqqhhhhj2j2a1a1a1a2a1a1a2a2a1a1a2a2a2a2a2a2a2a3a1a1a1a1a3a1a2a1a1a2a1a2a2a3a2a7a4a3a3a2a5j1b2j3j1b2b1b3b2b2b2b4b3b2b2b2b2b1a2a2a5a3a3a2j1@@@@@b2b4b2a1a1a1j2b1b1b2b2b2b3j1b2b2b3b3b5b2b2j1j2b2j2b2b2@@@@@@@@@@@@b3b3b2b2@@@@@@@b2a2a2a2a1a2a2a2a3a4a5a4a3a3a3a2a2a2a5a1qhqhhhqhhqhhhhhhhqhhqhqhhhhqhhqhhhhh@h@@h@nnnnnnnnnnnnnnnnB@B@BBB@BBBB@BB@@@@@@@" ⟨?h1,?h2,?h3⟩ (L2.df (items:=[L2.iT 0]) ?h4 ?h5 ?h3 ?h6) (L2.Qg.binds [] 4 rfl (L2.df (items:=[L2.iT 0]) ?h4 ?h5 ?h3 ?h6) (λ_ _ _ _ _ _ _=>(L2.el4 λ_ _ _ _=>⟨_,rfl,rfl⟩))) (L2.Qg.binds [L2.iT 0] 3 rfl (L2.df (items:=[L2.iT 0]) ?h4 ?h5 ?h3 ?h6) (λ_ _ _ _ _ _ _=>(L2.el3 λ_ _ _=>⟨_,rfl,rfl⟩))) (.cons L2.Oo .nil) ⟨?h7,?h8,?h9⟩ (L2.df (items:=[.none,L2.iT 0]) ?h10 ?h11 ?h9 ?h12) (L2.Qg.binds [] 8 rfl (L2.df (items:=[.none,L2.iT 0]) ?h10 ?h11 ?h9 ?h12) (λ_ _ _ _ _ _ _=>(L2.el8 λ_ _ _ _ _ _ _ _=>⟨_,rfl,rfl⟩))) (L2.Qg.binds [L2.iT 0] 7 rfl (L2.df (items:=[.none,L2.iT 0]) ?h10 ?h11 ?h9 ?h12) (λ_ _ _ _ _ _ _=>(L2.el7 λ_ _ _ _ _ _ _=>⟨_,rfl,rfl⟩))) (.cons L2.Oo .nil) (L2.Qg.binds [.none,L2.iT 0] 6 rfl (L2.df (items:=[.none,L2.iT 0]) ?h10 ?h11 ?h9 ?h12) (λ_ _ _ _ _ _ _=>(L2.el6 λ_ _ _ _ _ _=>⟨_,rfl,rfl⟩))) (.cons rfl (.cons L2.Oo .nil)) ⟨?h13,?h14,?h15⟩ (L2.df (items:=[L2.iT 10]) ?h16 ?h17 ?h15 ?h18) (L2.Qg.binds [] 4 rfl (L2.df (items:=[L2.iT 10]) ?h16 ?h17 ?h15 ?h18) (λ_ _ _ _ _ _ _=>(L2.el4 λ_ _ _ _=>⟨_,rfl,rfl⟩))) (L2.Qg.binds [L2.iT 10] 3 rfl (L2.df (items:=[L2.iT 10]) ?h16 ?h17 ?h15 ?h18) (λ_ _ _ _ _ _ _=>(L2.el3 λ_ _ _=>⟨_,rfl,rfl⟩))) (.cons L2.Oo .nil) ⟨?h19,?h20,?h21⟩ (L2.df (items:=[L2.iT 10,.bool true]) ?h22 ?h23 ?h21 ?h24) (L2.Qg.binds [] 5 rfl (L2.df (items:=[L2.iT 10,.bool true]) ?h22 ?h23 ?h21 ?h24) (λ_ _ _ _ _ _ _=>(L2.el5 λ_ _ _ _ _=>⟨_,rfl,rfl⟩))) (L2.Qg.binds [.bool true] 4 rfl (L2.df (items:=[L2.iT 10,.bool true]) ?h22 ?h23 ?h21 ?h24) (λ_ _ _ _ _ _ _=>(L2.el4 λ_ _ _ _=>⟨_,rfl,rfl⟩))) (.cons rfl .nil) (L2.Qg.binds [L2.iT 10,.bool true] 3 rfl (L2.df (items:=[L2.iT 10,.bool true]) ?h22 ?h23 ?h21 ?h24) (λ_ _ _ _ _ _ _=>(L2.el3 λ_ _ _=>⟨_,rfl,rfl⟩))) (.cons L2.Oo (.cons rfl .nil)) ⟨?r25,?h26,?h27,?h28,?h29,?h30⟩ (?r31) ⟨?r32,?h33,?h34,?h35,?h36,?h37⟩ (?r38) (L2.Jk (Vd KX G ?h40) ?h41 ?s42 (L2.bZ ?e43 rfl (L2.bZ ?e44 rfl (L2.bZ ?e45 rfl (L2.bZ ?e46 rfl (L2.bZ ?e47 rfl (L2.bZ ?e48 rfl L2.xt))))))) (L2.Jl (Vd KX G ?h50) (.cons L2.Oo (.cons L2.Oo .nil)) (show 2<=PySem.sizeLine by decide) ?h51) (L2.Jk (Vd KX G ?h55) ?h56 ?s57 (L2.bZ ?e58 rfl (L2.bZ ?e59 rfl (L2.bZ ?e60 rfl (L2.bZ ?e61 rfl (L2.bZ ?e62 rfl (L2.bZ ?e63 rfl L2.xt))))))) (L2.Jl (Vd KX G ?h68) (.cons L2.Oo (.cons L2.Oo (.cons L2.Oo (.cons L2.Oo (.cons L2.Oo (.cons L2.Oo .nil)))))) (show 6<=PySem.sizeLine by decide) ?h69) (λ_ _=>.of_eq rfl) (L2.lB (.cons L2.Oo .nil) (show 1<=PySem.sizeLine by decide) ?h72) (L2.lB (.cons L2.Oo .nil) (show 1<=PySem.sizeLine by decide) ?h73) (L2.lB (.cons L2.Oo .nil) (show 1<=PySem.sizeLine by decide) ?h74) (L2.lB (.cons L2.Oo (.cons L2.Oo (.cons L2.Oo .nil))) (show 3<=PySem.sizeLine by decide) ?h75) (L2.lB (.cons L2.Oo (.cons L2.Oo (.cons L2.Oo (.cons L2.Oo (.cons L2.Oo (.cons L2.Oo (.cons L2.Oo .nil))))))) (show 7<=PySem.sizeLine by decide) ?h76) (L2.lB (.cons L2.Oo (.cons L2.Oo .nil)) (show 2<=PySem.sizeLine by decide) ?h77)
  obtain⟨t,T⟩:=T
  have e0:=hmg.symm.trans T.LS.m
  cases e0
  exact⟨_,T.K0,λbase kb nb=>K75.K9 T⟩
#print axioms PySem.Challenge.cw_lettercell_k75_deeds_over_rows_holds
