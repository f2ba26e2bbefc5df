import PyProof.Rows.All
import OpenK.KLine
import Wide.FinOn
import KE.BitLaws
import KE.IntTextLaws
import KE.KDictList
import KE.KDictOf
import KE.KDictSum
import KE.KEqDict
import KE.KFromBytes
import KE.KIntText
import KE.KIsAll
import KE.KItem
import KE.KPairComp
import KE.KRevIter
import KE.KTryMore
import KE.KxBytes
import KE.LcSums
import OpenK.KRaise
import PyProof.EqAt
import PyProof.EqKinds
import PyProof.TupleCall
import PyProof.StationsW
import PyProof.ExcBaseAll.ValueError
import PyProof.ExcInit
import PyProof.InstStoreFacts
import PyProof.NsDelKeeps
import PyProof.StrLawsReplace
import PyProof.StrLawsTight
import PyProof.StrReplace2
import PyProof.Rows.StrIntSpec
import PyProof.EnumMake
import PyProof.Rows.CallKwBuiltin
import PyProof.TupleIter
import PyProof.P3Eq
import PySem.Challenge.RW_lettercell_k81_tales_of_deeds
set_option compiler.extract_closed false
open Lean in
local macro_rules (kind:=Lean.Parser.Command.declaration) | x=>do
 if x.getPos?.isNone then Macro.throwUnsupported
 return Id.run (x.rewriteBottomUpM λy=>pure (y.setInfo .none))
section
open PySem PySem.W PyProof.Rows
set_option Elab.async false
set_option linter.all false
set_option maxRecDepth 1000000
open Lean in
local macro_rules | `(command| #print $l:str)=>do
 let z::G:=l.getString.splitOn ";" | Macro.throwUnsupported
 let ["shut",n,p]:=z.splitOn " " | Macro.throwUnsupported
 let hs:=(`looseL).hash::((List.range n.toNat!).map λi=>((`hdW).str s!"o_{i}").hash)++(G.flatMap λg=>let w:=g.splitOn " ";w.tail.map λs=>((`hdW).str (w.headD ""++s)).hash)++["pw_","rw_"].map λs=>((`PySem.Challenge).str (s++p)).hash
 let ds<-hs.toArray.mapM λh=>`(Parser.Term.letRecDecl| $(mkIdent (.mkSimple s!"tw{h}")):ident:True:=trivial)
 `(command| theorem $(mkIdent `PySem.W.Fast) :True:=trivial where $[$ds:letRecDecl];*)
#print "shut 2749 lettercell_k81_tales_of_deeds;tree_ 47 70 85 107 129 151 166 188 210 232 247 269 291 306 328 350 365 387 409 431 477 535 558 582 667 760 804 807 879 955 1041 1121 1140 1245 1328 1354 1487 1571 1618 1752 1837 1842 1908 1929 1999 2000 2073 2074 2152 2175 2243 2244 2495 2576 2668 2748;heap_ 39 46 2749;sts_ 49 71 86 108 130 152 167 189 211 233 248 270 292 307 329 351 366 388 410 432 478 536 559 585 668 761 805 810 880 956 1042 1122 1141 1332 1355 1575 1619 1841 1843 1909 1930 2000 2002 2074 2076 2153 2176 2244 2246 2672;env_ 41;view_ 39"
open Lean in
local macro_rules | `(panic! $s:str)=>do
 let x<-(s.getString.splitOn " ").toArray.mapM λw=>`(Str.ofString $(quote w))
 `([$x,*])
noncomputable def qL:Program:={PySem.Challenge.pw_lettercell_k81_tales_of_deeds with main:={PySem.Challenge.pw_lettercell_k81_tales_of_deeds.main with body:=PySem.Challenge.pw_lettercell_k81_tales_of_deeds.main.body.drop (PySem.Challenge.pw_lettercell_k81_tales_of_deeds.main.body.length - 1)}}
def looseL:List Str:=panic! "_wall CellarError BadWord NoSuch Doubled Broken SenderError Fenced Gap TooOld LoanError Late Twice DeedError Busy NoDeed RowError WrongKind Needed Gone Beyond HEAD_SIGNS guarded unguarded joined parted sum_of line_of body_of Book signed_body good_bodies acts_of PARTS TEXTS word_text word_in owner_text owner_in text_of value_of event_of body_for event_in body_for_shelves hail_happens put_happens begin_happens pledge_happens close_happens drop_happens found_happens enter_happens leave_happens deal_happens aside_happens lend_happens answer_happens back_happens turn_happens attach_happens advance_happens detach_happens away_happens drawn_happens cut_happens HAPPENINGS happen events_of is_at put_at told_of_place told_of tale floor_by NAME_SIGNS NAME_MOST KEY_MOST WORD_MOST PER_CENT is_text is_sign is_name is_key is_word is_whole spread row_in GREATEST TURNS_MOST LETTERS_MOST TRIES_MOST WIDTH_MOST check_names check_wholes check_letter check_truth check_there check_group check_group_row check_kind asked_row asked_sender asked_reader hail_act put_act begin_act pledge_act close_act drop_act found_act dealt_act enter_act leave_act loan_act pass_act attach_act detach_act advance_act cut_act read_from rows_had shares rows_kept dealt moved Dealing Deed Deeds is_beneath row_not_beneath lower lower_once lowered fronts Lending KINDS SHELVES_MOST ROWS_MOST Row is_kind is_shelf are_shelves Shelves SPOTS_KEPT Senders Readers Group State Cellar _law_cell_at _law_mixed _law_names _law_shelves _law_alike _law_ended _law_put _law_begun _law_done _law_start"
theorem cq{α β γ:Type}{f:α->γ}{g:β->γ}{a:List α}{b:List β}(n:Nat)(h1:(a.take n).map f=(b.take n).map g)(h2:(a.drop n).map f=(b.drop n).map g):a.map f=b.map g:=by
 rw[<-List.take_append_drop n a,<-List.take_append_drop n b,List.map_append,List.map_append,h1,h2]
open Lean in
local macro_rules
 | `(tactic| refine $t:term)=>do
  let a:=t.raw
  unless a.getKind == ``Parser.Term.app do Macro.throwUnsupported
  let g:=a[1].getArgs
  let nO (x:Syntax):Option Name:=if x.getKind == ``Parser.Term.namedArgument then some x[1].getId.eraseMacroScopes else none
  let some i:=g.findIdx? (nO · == some `Yf) | Macro.throwUnsupported
  let some j:=g.findIdx? (nO · == some `Ya) | Macro.throwUnsupported
  let oB:Term:=⟨g[i]![3]⟩
  let H<-match oB with | `(Hook.obs ($f:ident $k $as $e))=>pure (some (k, as, e)) | `($p:ident ($f:ident $k $as $e))=>pure (some (k, as, e)) | _=>pure none
  let some (k, as, e):=H | Macro.throwUnsupported
  let rec mk (d:Nat) (lf:Term->MacroM Term) (x:Term):MacroM Term:=do
   match d with
   | 0=>lf x
   | d + 1 =>
    let n:=Syntax.mkNumLit (toString (16 * 2 ^ d))
    let l<-mk d lf (← `(List.take $n $x))
    let r<-mk d lf (← `(List.drop $n $x))
    `((Prod.mk $l $r))
  let rec pr (d:Nat) (h:Term):MacroM Term:=do
   match d with
   | 0=>pure h
   | d + 1 =>
    let n:=Syntax.mkNumLit (toString (16 * 2 ^ d))
    let l<-pr d (← `(congrArg Prod.fst $h))
    let r<-pr d (← `(congrArg Prod.snd $h))
    `((cq $n $l $r))
  let dep:=7
  let o<-mk dep (λx=>`(List.map (Shared.heap s).get? $x)) as
  let v<-mk dep (λx=>`(List.map (λp=>some (Prod.snd p)) $x)) (← `($k (World.params w)))
  let p<-pr dep (← `(y))
  let yf<-`(λ(s:Shared)=>$o)
  let ya<-`(λ(w:World)=>$v)
  let oT<-`((λw s y=>InK.of $e w s $p))
  let mut ot:=g
  ot:=ot.set! i ((g[i]!).setArg 3 yf)
  ot:=ot.set! j ((g[j]!).setArg 3 ya)
  let iO (x:Syntax):Bool:=match (⟨x⟩:Term) with | `(($p:ident $_h))=>p.getId.eraseMacroScopes.toString.endsWith "Hook.of" | `(($p:ident $_h $_b))=>false | _=>false
  let some iq:=g.findIdx? (nO · == some `q) | Macro.throwError "no q"
  let some il:=g.findIdx? (nO · == some `loose) | Macro.throwError "no loose"
  let qo:=g[iq]![3]
  let lo:=g[il]![3]
  let rp (x:Syntax):Syntax:=Id.run (x.replaceM λy=>pure (if y == qo then some (mkIdent `qL).raw else if y == lo then some (mkIdent `looseL).raw else none))
  ot:=ot.map rp
  let some m:=ot.findIdx? iO | Macro.throwError "no Hook.of"
  ot:=ot.set! m oT
  ot:=ot.set! (ot.size - 1) (mkIdent `hWalk).raw
  let t':Term:=⟨a.setArg 1 (a[1].setArgs ot)⟩
  `(tactic| refine $t')
set_option maxHeartbeats 0 in
noncomputable def hdW:PSigma fun P:Prop=>(P->PySem.Challenge.rw_lettercell_k81_tales_of_deeds.Holds):=⟨_,fun hWalk=>by
 w_on;o_law;k_head;(case hw=>w_witness2)⟩
end
set_option genSizeOf false
set_option bootstrap.genMatcherCode false
set_option Elab.async false
set_option linter.all false
set_option maxHeartbeats 4000000
set_option maxRecDepth 100000
open Lean in
local macro_rules | `(s!$x:interpolatedStr) => do
  let some t := x.raw[0].isInterpolatedStrLit? | Macro.throwUnsupported
  match t with
  | "d" => `(by decide +kernel)
  | "c"=>`(by exact⟨rfl,s!"d",s!"d",s!"d",s!"d",s!"d",s!"d",s!"d",s!"d"⟩)
  | "f" => `(⟨rfl, rfl, rfl, by decide +kernel, rfl, by decide +kernel, by decide +kernel⟩)
  | _ => Macro.throwUnsupported
open Lean in
local macro_rules | `(command| $m:declModifiers def $i:declId $s:optDeclSig $v:declVal) => do
  unless m.raw.getArgs.all (·.isNone) do Macro.throwUnsupported
  let s := s.raw
  return mkNode `Lean.Parser.Command.declaration #[m, mkNode `Lean.Parser.Command.theorem #[mkAtom "theorem", i, mkNode `Lean.Parser.Command.declSig #[s[0], s[1][0]], v]]
open Lean in
local macro_rules | `(command| $m:declModifiers abbrev $i:declId $s:optDeclSig $v:declVal) => do
  unless m.raw.getArgs.all (·.isNone) do Macro.throwUnsupported
  `(command| noncomputable def $i:declId $s:optDeclSig $v:declVal)
open List renaming getElem?_eq_some_iff->Α,mem_of_getElem?->Β,getElem?_eq_getElem->Ε,mem_singleton->Ζ,length_map->Η,mem_append_right->Θ,mem_cons->Ι,not_mem_nil->Μ,getElem?_map->Ξ,mem_append->Ο,length_append->Ρ,mem_append_left->Φ,mem_map->μ,mem_cons_of_mem->ψ,length_cons->ω,map_cons->ϒ,nodup_append->ϗ,getElem?_append_right->Ϙ,nodup_cons->Ϛ,getElem?_of_mem->ϛ,size_toArray->Ϟ,getElem?_append_left->ϟ,map_append->Ϣ,map_map->Ϥ,getD_eq_getElem?_getD->Ϩ,mem_cons_self->Ϭ,length_singleton->ϯ,take_length->ϴ,getElem?_zipWith->϶,length_take->af,lookup_cons->ag,getElem?_set_ne->ak,getElem?_set_self->ar,length_nil->aF,range->aU,length->be,ext_getElem?->bg,length_set->bq,pairwise_iff_getElem->bv,filter_cons_of_neg->bT,append_assoc->cg,getElem?_set->ck,length_filter_le->cw,sum_cons->cH,take_add_one->cR,filter_cons_of_pos->cS,mem_filter->cT,append_nil->cV,map_congr_left->df,cons_append->dA,replicate->dH,length_replicate->dI,find?_cons->d4,length_range->d5,zipWith->d8,getLast?_eq_some_getLast->fC,take_of_length_le->fE,nil_append->fJ,getElem?_eq_none->fQ,lookup->gs,Nodup->gu,nodup_nil->gw,length_drop->gG,length_zipWith->gM,count_cons->im,filter_append->ir,count_append->iX,count_nil->iY,filterMap_append->jm,filter_cons->jx,all_eq_true->jy,any_cons->jG,eq_nil_of_length_eq_zero->jK,dropLast_concat_getLast->kc,perm_iff_count->kr,getElem?_range->kt,zipWith_append->ku,nodup_iff_pairwise_ne->me,mem_or_eq_of_mem_set->mQ,foldl_append->nv,pairwise_map->ny,getElem?_take_of_lt->nz,filterMap_cons_none->nF,filterMap_cons_some->nH,getElem_mem->oG,getElem?_cons_succ->oH,getElem_map->oJ,filter_nil->qB,set_append_right->qD,map->so,filterMap_cons->ud,find?_eq_none->uX,map_nil->wt,flatMap_cons->wu,ext_getElem->yp,any_eq_true->yq,nodup_range->yu,drop->yv,of_mem_zip->zK,range_succ->zM,filter_map->zN,any_append->zP,mem_range->CC,mem_of_find?_eq_some->Dx,all_cons->EG,getElem?_replicate->Gk,range_succ_eq_map->Gu,drop_of_length_le->Gx,find?_cons_of_pos->Gy,take_append_drop->Jc,mem_of_mem_take->Jn,getElem?_modify->Jo,map_eq_nil_iff->L8,filter_eq_self->Mc,mem_filterMap->Nc,mem_replicate->Nh,find?_append->QR,mem_flatMap->Rh,foldl_cons->Uz,drop_zero->U6,take_succ->U8,foldl_map->U',map_set->Yz,all_map->YA
open PySem.Str renaming ofString->Κ,empty->ze,length->ae3,join->ajA
open PySem renaming Addr->Ν,Value->Ω,wpAny_bind->θ,Shared->ς,Stmt->ϩ,wpAny_pure->ϫ,Program->ah,Heap->a9,Expr->bS,wpAny_Call_Name_kw->bW,wpAny_truthy_bool->cv,boot_len->cY,wpAny_field->cZ,World->dX,NameKind->dZ,wpAny_pyIter_list->fg,FuncData->fF,wpAny_callSpecial?_slot->fH,wpAny_mono->fV,wpAny_seqItems->gW,codeAny_mono->ii,wpAny_holding->iU,tupleKind_room_in1->i4,PyData->i5,wpAny_setField_rec->i6,wpAny_call_entry->ko,IsPair->kq,wpAny_execs_nil->mj,wpAny_passesOwn->ml,Keyword->nj,typeIs_str->oB,sizeLine_eq->qm,wpAny_pyIter_enum->qo,Scope->rN,DictEntry->rO,Around->sY,call_meetsIn->tq,codeAny_builtin->ue,codeAny_call_builtin->wk,ExceptHandler->yt,call_meets->zj,wpAny_Call_method->Ct,wpAny_newObj_type->Cu,wpAny_execs_cons->Du,BindsTo->Gq,Builtin->Gv,wpAny_call->IY,wpAny_letOwnedTupleGo_enum->I0,ZipApart->I8,wpAny_standAt->LZ,wpAny_comprehension_free->L0,wpAny_attempt->Ma,wpAny_onRaise->Mb,IsZip->Nf,Result->QK,wpAny_Call_method_late->QM,IsEnum->QN,wpAny_isTrue_Compare1->Rc,wpAny_loadName_local->Us,seqIndex_of->Uu,lookup_relabel_local->Uw,Model->UA,GenState->UB,wpAny_updateSeq_pair->UC,wpAny_loadName_cell->U2,wpAny_Name->Xb,wpAny_pyIter_tuple->Xf,wpAny_rule->Xi,wpAny_Return_some->Yt,slot_list_getitem->Yw,OsState->Yy,wpAny_getItem_of->abf,wpAny_Dict_empty->abg,wpAny_isInstance->abk,wpAny_pyIter_zip->abl,wpAny_tests_nil->acb,codeAny_of_tree->ace,wpAny_Compare1->aeX,Operator->aeY,IsPart->ae1,sliceRange_one->ae4,Meets->ae9,isSubtype_stop->ae',wpAny_setField->afa,rangeSize_one->agd,intBits_le_64->age,call_list_seq->agw,IsRangeIter->alu,Drawn->alA,wpAny_of_eq->alC,wpAny_letGo->alD,PlainAttrs->aov,Params->aox,strKind_is->aoA,small_one->apO
open PySem.Heap renaming get?_push_of_some->Χ,lt_size->ύ,get?_push_size->ϑ,size_push->bp,SameBut->ql,get?_update_other->Gs,get?_update_self->IZ,IsList->abi,ExtBut->abj
open PySem.W renaming Frag->ζ,fnOf->gp,kia_one->gU,keepIn->ix,emptyDict->iW,findIn->jj,instObj->mP,codeIn->qy,callWith_K->zg,mg_of->zn,plainGet->Gj,plainGet_of->IV,lookIn->QH,hasDictIn->QI,kitOne->QJ,takerIn->Xc,cellsFrom_some->Xd,methodCall_KW->Yu,isFn->abb,callWith_K0->ab',codeRec_of->ae0,methodObj->agc,plainOver->agf,kitx_list->agg,kitx_dict->agh,handedIn->ajy,OpenLaw->ajz,makesIn->alw,OpenLaw->alz,pre_splitW->aow,WalkO->apT
open Nat renaming le_refl->ξ,lt_of_le_of_lt->υ,le_trans->ϊ,zero_le->Ϝ,lt_of_lt_of_le->Ϧ,ne_of_lt->Ϫ,mod_two_eq_zero_or_one->cm,le_succ_of_le->eN,lt_succ_self->fh,succ_le_succ->fi,ne_of_gt->fG,min_eq_left->fL,lt_irrefl->fP,le_succ->gD,lt_trans->gL,lt_or_gt_of_ne->iy,zero_add->i7,div_add_mod->kn,sub_self->qA,le_of_lt->xF,lt_succ_of_lt->xH,toDigits->xI,min_le_right->zh,min_eq_right->zi,le_of_not_lt->zk,toDigits_of_lt_base->Gw,add_sub_cancel_left->Gz,le_of_eq->IW,min_self->Ja,lt_or_ge->Jb,strongRecOn->U9,not_lt_zero->Va,le_add_left->Vb,succ->Xj,sub_le->ae2
open Option renaming map_eq_some_iff->χ,isSome_iff_exists->aJ,map_some->pD,isSome_map->uW,none->xG,map->Jp,some->Xg,getD_none->apR,isSome_some->apU,getD_some->apV,getD_eq_iff->apX
open Ne renaming symm->ό
open Bool renaming false_ne_true->ώ,and_eq_true->bd,eq_iff_iff->ka,not_eq_true'->QP,and_false->U5
open Prod renaming fst->ϝ,snd->jJ,ext->agx
open PySem.PassesOwn renaming never->ϡ
open Option.some renaming inj->ϲ
open PySem.NameKind renaming free->aA,cell->zL
open PySem.Calls renaming spliced_cons->aM,spliced_nil->cf,callWith_builtin->fB,evalArgs_plain->gq,Constant_str->uS,Name_function_global->Cs
open Or renaming inl->aP,inr->uc
open PyProof.Rows renaming callWith_type1->ba,boot_isinstance->dy,boot_list->ij,boot_str->rQ,callWith_builtin1->sr,AllBare->sZ,boot_all->Cv,IntsAre->Gr,Constant_none->LY,subscriptTail_builtinR->QL,tail_any->Ut,Subscript_->Xe,setObjOf_fresh->acd,bitXor_and->acf,bitAnd_m16->acg,bitOr_and->ach,evalArgs_kwB->aci,Call_->aeZ,boot_enumerate->ae6,boot_ord->afd,isTrue_and->aor,boot_range->aos,boot_tuple->aoF,isTrue_or->apN,boot_bool->apZ,boot_dict->ap0
open True renaming intro->bo
open False renaming elim->bB
open Int renaming toNat_natCast->bG,emod_lt_of_pos->iz,emod_nonneg->kx,natCast_nonneg->mq,max_eq_right->Uv,min_eq_left->U4,ofNat_le->abc,zero_add->abn,mul_one->ab9
open PySem.Value renaming ref->cC,none->Cq,type->Cr,bool->LX,int->QF,isStrOf->U1,isInt->Yr,str->ab8
open Lean renaming mkIdent->cI
open Sum.inr renaming inj->db
open PySem.SeqAt renaming shaped->gE,eqv_refl->Ux,EqAt->abd
open ForInStep renaming yield->gH
open Sum.inl renaming inj->hV
open PySem.Builtin.Str renaming strSliceIndices->jk,occurrences->lY,strKind->CF,padded->Dw,tooLong->ae7,subAt->afc
open Sum renaming inl->jI,inr->xE
open PySem.Builtin.SmallTypes renaming ownedTupleHandOut->ma,nextOf->rP
open PyProof.Rows.F renaming entry_set_update_loop->nC,plain_set_update_loop->Yx
open PySem.PyData renaming eqv->oF,canLayAll0->L6,depthAll->QO,canLay0->Rf,keyHash->Rg,depth->U7,str->apY
open PySem.Heap.SameBut renaming update->oI
open Array renaming length_toList->tm,toList->wj
open PySem.Builtin.Range renaming rangeSize->wn
open PySem.Builtin.List renaming listTooLong->wq
open PySem.Builtin renaming bitAnd->zd,bitXor->QG,bitOr->aot
open List.Pairwise renaming filter->zm,nil->abe,imp->abm
open List.cons renaming inj->zp,injEq->ajB
open Function renaming comp->zO
open PySem.Obj renaming mapSeq->Dv,data_mapFields->QQ
open PySem.SeqAt.EqAt renaming int_str->ED,str_int->EF,same->agi,none_bool->agj,none_int->agk,none_str->agl,bool_none->agm,bool_bool->agn,bool_int->ago,bool_str->agp,int_none->agq,int_bool->agr,int_int->ags,str_none->agt,str_bool->agu,str_str->agv
open PySem.Code renaming quiet_builtin->Nd
open Int.ofNat renaming inj->Ng
open Iff renaming rfl->Re
open PySem.Builtin.Frozenset renaming updateFrom->Uy
open PySem.IsRange renaming new->U3
open PySem.Shared renaming heap->Xh,TypeIs->apW
open PySem.CmpOp renaming NotIn->Ys,In->aeW
open PySem.Heap.IsSliceOf renaming new->Yv
open PySem.Walks renaming list->abh
open PySem.W.WData renaming int->aca
open PySem.Heap.DictOf renaming new->ae5
open PySem.Sem renaming wp->ae8
open PySem.Heap.IsList renaming push->afb
open PySem.DictEntry renaming refKey->ajx
open Classical renaming byContradiction->ajC,em->ajD
open PySem.Heap.Ns1 renaming of_empty->alx
open PySem.AutoSeq1 renaming list_extend_list_list_0->aly
open Nat.succ renaming inj->alB
open PySem.W.Looks renaming here->aou
open PySem.StrLaws renaming glued_eq_join->aoy,join_split->aoB,split_free->aoC,replace_one->aoD,subAt_one->aoE
open PySem.BindsTo renaming of_defaults->aoz
open PySem.Around renaming under->apP,frames_deeper->apQ
open PySem.W.WShape renaming arms->apS
theorem Ψ:type_of% @if_neg:=@if_neg
theorem ε:type_of% @if_pos:=@if_pos
theorem ϖ:type_of% @or_false:=@or_false
theorem ϱ:type_of% @decide_eq_true:=@decide_eq_true
theorem ae:type_of% @decide_eq_false:=@decide_eq_false
theorem dP:type_of% @decide_eq_true_eq:=@decide_eq_true_eq
theorem dY:type_of% @beq_eq_false_iff_ne:=@beq_eq_false_iff_ne
theorem yr:type_of% @not_or:=@not_or
theorem alv:type_of% @beq_iff_eq:=@beq_iff_eq
section
section
local macro_rules | `(())=>`(by omega)
variable{a b c d n m k:Nat}
def θa(g:a<b)(h:b=c):a<c:=()
def θb(h:b=c)(g:a<b):a<c:=()
def θc(h:c=b)(g:a<b):a<c:=()
def θd(h:b=a)(g:b<=c):a<=c:=()
def θe(h:a=b)(g:b<=c):a<=c:=()
def θf(h:c=d)(k:b=d)(g:a<b):a<c:=()
def θg(h:a<=b)(g:b<=n)(e:n<=m):a<=m:=()
def θh(h:a<=k+b)(g:b<=n)(e:k+n<=m):a<=m:=()
def θi(n:Nat):((n+1:Nat):Int)=n+1:=rfl
def θj(h:a<=c+1)(g:c<=b):a<=b+1:=()
def θk(h:a<=b)(g:¬a<b):a=b:=()
def θl(h:b<a):a-(b+1)<a-b:=()
def θm(h:a<=k*b):a<=k*(b+1):=Nat.le_trans h (Nat.mul_le_mul_left _ (Nat.le_succ _))
def θn(a:Nat):((a:Int)+1-1).toNat=a:=()
def θo(h:a<=4+b*60)(g:b<=56):a+2<=5000:=()
def θp(h:a<b+1)(g:¬a<b):a=b:=()
def θq(h:a-b=0)(g:¬a<b):a=b:=()
def θr(h:1<=a):(1:Int)<=a:=()
def θs(h:a+2<=m):a+1<=m:=()
def θt(h:a<n)(e:n+1<=m):a+1<m:=()
def θu(h:a<=b):a<=b+1:=()
def θv(h:a<=b):a+1<=b+1:=()
def θw(h:c<=b)(g:d<c)(k:a<=d):a<b:=()
def θx(a:Nat):(1:Int)<=a+1:=()
def θy(h:a=b+1)(g:b<=4+c*60):a<=4+(c+1)*60:=()
def θz(h:a<=3+b):a<=3+(b+1):=()
def θA(h:a<=b+60)(g:b<=4+c*60):a<=4+(c+1)*60:=()
def θB(h:a<b)(g:b<=c)(f:c<=n)(e:n<=m):a<m:=()
def θC {a:Int}{b:Nat}(h:a=b+1):(a-1).toNat=b:=()
def θD (x:Int){k:Int}(e:0<k):0<1+x%k:=by have:=Int.emod_nonneg x (Int.ne_of_gt e);omega
def θE {a k x:Int}(h:1+x%k=a)(e:0<k):0<a:=h▸θD x e
def θF(h:a<=10*b)(g:b<=n)(e:10*n<=m):a<=m:=()
def θG {a:Int}(h:0<=a):a=a.toNat:=()
def θH {a b:Int}(h:¬a<=b):b<a:=()
def θI {a n:Nat}{m:Int}(h:a<=n)(e:(n:Int)<=m):(a:Int)<=m:=()
def θJ {a n:Nat}{m:Int}(h:a<n)(e:(n:Int)<=m):(a:Int)<m:=()
def θK {a n:Nat}{m:Int}(h:a<=n)(e:(n:Int)<m):(a:Int)<m:=()
def θL {x k s:Int}(h:1+x%k=s)(e:0<k):1<=s/\s<=k:=by have:=Int.emod_nonneg x (Int.ne_of_gt e);have:=Int.emod_lt_of_pos x e;omega
def θM {s:Int}{p:Prop}(h:1<=s/\p):s≠0:=()
def θN {s n m:Int}{p:Prop}(h:p/\s<=n)(e:n<m):s<m:=()
def θO {s n m:Int}{p:Prop}(h:n<=s/\p)(e:m<=n):m<=s:=()
def θP {s k:Int}{n:Nat}{p:Prop}(h:p/\s<=k)(e:k.toNat<=n):s.toNat<=n:=()
def θQ {s k:Int}{b n:Nat}{p:Prop}(g:b=s.toNat)(h:p/\s<=k)(e:k.toNat<=n):b<=n:=()
def θR {s a:Int}{b:Nat}(g:b=s.toNat)(h:0<=a/\a<s):a.toNat<b:=()
def θS(g:a<b)(k:b=d)(h:c=d):a<c:=()
def θT(g:a<b)(k:b=d)(h:d=c):a<c:=()
def θU(h:a<=n)(g:b<=k)(e:n+k<m):a+b<m:=()
def θV(h:c=b)(g:b<=a)(k:a<=c):a=b:=()
def θW(h:c=b)(g:b<=a)(k:a<=c):c=a:=()
def θX {a:Int}{b:Nat}(h:0<=a)(g:a<b):a.toNat<b:=()
def θY(h:a<=b):(a:Int)<=b:=()
def θZ(h:a<b):(a:Int)<b:=()
def θ0(a:Nat){k:Int}(e:k<=0):k<=a:=()
def θ1(a:Nat){k:Int}(e:k<0):k<a:=()
def θ2 {p q:Prop}(h:p/\a<=n/\q)(e:n<=m):a<=m:=Nat.le_trans h.2.1 e
end
local macro_rules | `(tactic| show $e)=>`(tactic| refine $e)
open Lean in
local macro_rules | `(tactic| let $d:letDecl)=>`(tactic| have $d:letDecl)
local macro_rules | `(())=>`(by lk)
local macro_rules | `("!")=>`(by decide)
local macro_rules | `(∅)=>`(by simp)
open Lean in
local macro_rules | `(tactic| lk)=>do
 let h<-`(‹_›)
 let d<-`(by decide)
 let u<-`(_)
 let x<-("Nat.le_of_lt h;Int.natCast_nonneg _;Nat.le_trans hd;Nat.lt_of_le_of_lt hd;Nat.lt_trans hd;Nat.le_of_not_lt h;θb hh;θc hh;θa hh;θd hh;θe hh;θf hhh;Nat.le_trans hh;θX hh;θY h;θZ h;θg hhd;θh hhd;θi _;θj hh;θk hh;θl h;θm h;θn _;θo hh;θp hh;θq hh;θr h;θs h;θt hd;θu h;θv h;θw hhh;θx _;θy hh;θz h;θA hh;θB hhhd;θC h;θE hd;θF hhd;θG h;θH h;θI hd;θJ hd;θK hd;Nat.le_add_right __;Nat.le_add_left __;Nat.le_refl _;Nat.succ_pos _;Int.le_of_lt h;θ0 _d;θ1 _d;Int.lt_of_lt_of_le dh;θ2 hd;θL hd;θM h;θN hd;θO hd;θP hd;θQ hhd;θR hh;θS hhh;θT hhh;θU hhd;θV hhh;θW hhh".splitOn ";").foldrM (λw (r:TSyntax `tactic)=>do
  let l:=w.splitOn " "
  let t:=Syntax.mkApp (mkIdent l[0]!.toName) (l[1]!.toList.map λc=>if c='h' then h else if c='d' then d else u).toArray
  `(tactic| first | with_reducible exact $t | $r:tactic)) (<-`(tactic| first | with_reducible assumption | omega))
 return x
open Lean in
local macro_rules | `(command| $m:declModifiers theorem%$k $i:declId $s:declSig $v:declVal)=>do
 unless m.raw.getArgs.all (·.isNone)&&k.getPos?.isSome do Macro.throwUnsupported
 `(command| noncomputable abbrev $i:declId $(⟨mkNode `Lean.Parser.Command.optDeclSig #[s.raw[0], mkNullNode #[s.raw[1]]]⟩):optDeclSig $v:declVal)
local macro_rules | `(~~~$x)=>`(autoParam $x $(Lean.mkIdent `L2.ai._auto_1))
local macro_rules | `(tactic| lia)=>`(tactic| walk_at "rf")
local macro_rules | `(tactic| walk1)=>`(tactic| walk_at "rd")
open Lean in
local macro_rules | `($e.$i:fieldIdx)=>do
 let some p:=("length heap.objs.size cps.toList objs.size env toNat toArray isSome heap Nodup env.locals m.M.ds env.scope symm isList toArray.size units dx.da.obj cps.size toks last M.ls len obj scope.kind prog flatten names extBut lst toList typeIs rest stack elim ok.kind params handled rows calm ob.ce.pH isEmpty lend name M.Ms base frames ok.above bare cells m.xs env.globals free kind params.defaults dict line shl M.S.sz depth ok.mod.Xl data endLine put slots gens natAbs.log2 fresh sum dx.da ob.ce size row.toRowW here inv.op outer nk.ne loc lookup first dropLast key da.Kn m.M.sz F.kp getLast? ok.glob book mapOf in1 st.nd pu.dl ok.mod cell cls natAbs".splitOn " ")[i.raw.isFieldIdx?.getD 0-4]? | Macro.throwUnsupported
 if i.raw.isFieldIdx?.getD 0<4 then Macro.throwUnsupported
 let mut o:=e
 for f in p.splitOn "." do o<-`($o.$(mkIdent (.mkSimple f)):ident)
 return o
local macro_rules | `(!(($_)))=>Lean.Macro.throwUnsupported | `(!$x)=>`(some $x)
open Lean in
local macro_rules | `(-(($_)))=>Macro.throwUnsupported | `(-$x)=>if x.raw.isOfKind `num then Macro.throwUnsupported else `(List $x)
set_option compiler.extract_closed false
namespace Lake
namespace L2
open PySem
variable {p0 p1 p2 p3 p4:Prop}{t0 t1 t2 t3 t4 t5 κ α β:Type}{u cd doc pm gX ct oc a0 cls fl:Ω}{a b f dx C r d ea CD bz i1 l1 l2 ev dn:Ν}{w:dX}{x name qual z qn:Str}{e c tg iter value elt:bS}{h2:a9}{pins:-(Ν×Obj)}{t' i j n tk tn k0 dd:Nat}{ch fp ts Z Z' iu i' Ds rws:-Ν}{A:sY}{E:Ω->ς->Prop}{s':ς}{pos pos' p Vc apos gN py alE np:Pos}{op:CmpOp}{rest body:-ϩ}{es ifs elts:-bS}{vs items:Array Ω}{t:Int}{bn ds bm sub:-Ω}{mA mg:Str->Option Ω}{prog:ah}{pl:Sem Bool}{kw:-(Str×Ω)}{env:Env}{outer:-Env}{fd:fF}{kws:-nj}{sc scope:rN}{an od dc:Option Ν}{T:String}{ns e0 F:-Int}{GA tsl:Array (Option Ω)}{cells:-(Str×Ν)}{ls:-(-Nat)}{oe:Obj}{alF ab:Bool}{sn:-Str}{col:Option Bool}{k1 k2 k3 k5:Option Ω}{wo:Option (-Nat)}{key:-Nat}{lv nb:Str->Option Int}
section
def ke{G:Prop}(k:p0->p1->G):(p0/\p1)->G:=fun h=>k h.1 h.2
def dB{p0 p1:t0->t1->Prop}{G:Prop}(k:∀x0,∀x1,p0 x0 x1->p1 x0 x1->G):(∃x0 x1,p0 x0 x1/\p1 x0 x1)->G:=fun h=>h.elim fun x0 g0=>g0.elim fun x1 g1=>k x0 x1 g1.1 g1.2
def ay{p0 p1:t0->Prop}{G:Prop}(k:∀x0,p0 x0->p1 x0->G):(∃x0,p0 x0/\p1 x0)->G:=fun h=>h.elim fun x0 g0=>k x0 g0.1 g0.2
def qp{G:Prop}(k:p0->p1->p2->G):(p0/\p1/\p2)->G:=fun h=>k h.1 h.2.1 h.2.2
def GB{p0 p1:t0->t1->t2->Prop}{G:Prop}(k:∀x0,∀x1,∀x2,p0 x0 x1 x2->p1 x0 x1 x2->G):(∃x0 x1 x2,p0 x0 x1 x2/\p1 x0 x1 x2)->G:=fun h=>h.elim fun x0 g0=>g0.elim fun x1 g1=>g1.elim fun x2 g2=>k x0 x1 x2 g2.1 g2.2
def oK{p0 p1:t0->t1->t2->t3->Prop}{G:Prop}(k:∀x0,∀x1,∀x2,∀x3,p0 x0 x1 x2 x3->p1 x0 x1 x2 x3->G):(∃x0 x1 x2 x3,p0 x0 x1 x2 x3/\p1 x0 x1 x2 x3)->G:=fun h=>h.elim fun x0 g0=>g0.elim fun x1 g1=>g1.elim fun x2 g2=>g2.elim fun x3 g3=>k x0 x1 x2 x3 g3.1 g3.2
def yw{G:Prop}(k:p0->p1->p2->p3->p4->G):(p0/\p1/\p2/\p3/\p4)->G:=fun h=>k h.1 h.2.1 h.2.2.1 h.2.2.2.1 h.2.2.2.2
def zQ{p0:t0->t1->t2->Prop}{G:Prop}(k:∀x0,∀x1,∀x2,p0 x0 x1 x2->G):(∃x0 x1 x2,p0 x0 x1 x2)->G:=fun h=>h.elim fun x0 g0=>g0.elim fun x1 g1=>g1.elim fun x2 g2=>k x0 x1 x2 g2
def wv{p0 p1 p2:t0->t1->t2->Prop}{G:Prop}(k:∀x0,∀x1,∀x2,p0 x0 x1 x2->p1 x0 x1 x2->p2 x0 x1 x2->G):(∃x0 x1 x2,p0 x0 x1 x2/\p1 x0 x1 x2/\p2 x0 x1 x2)->G:=fun h=>h.elim fun x0 g0=>g0.elim fun x1 g1=>g1.elim fun x2 g2=>k x0 x1 x2 g2.1 g2.2.1 g2.2.2
def su{p0 p1 p2 p3:t0->t1->Prop}{G:Prop}(k:∀x0,∀x1,p0 x0 x1->p1 x0 x1->p2 x0 x1->p3 x0 x1->G):(∃x0 x1,p0 x0 x1/\p1 x0 x1/\p2 x0 x1/\p3 x0 x1)->G:=fun h=>h.elim fun x0 g0=>g0.elim fun x1 g1=>k x0 x1 g1.1 g1.2.1 g1.2.2.1 g1.2.2.2
def ia{p0 p1 p2:t0->Prop}{G:Prop}(k:∀x0,p0 x0->p1 x0->p2 x0->G):(∃x0,p0 x0/\p1 x0/\p2 x0)->G:=fun h=>h.elim fun x0 g0=>k x0 g0.1 g0.2.1 g0.2.2
def Vd{p0 p1 p2 p3:t0->Prop}{G:Prop}(k:∀x0,p0 x0->p1 x0->p2 x0->p3 x0->G):(∃x0,p0 x0/\p1 x0/\p2 x0/\p3 x0)->G:=fun h=>h.elim fun x0 g0=>k x0 g0.1 g0.2.1 g0.2.2.1 g0.2.2.2
def gI{p0 p1 p2:t0->t1->Prop}{G:Prop}(k:∀x0,∀x1,p0 x0 x1->p1 x0 x1->p2 x0 x1->G):(∃x0 x1,p0 x0 x1/\p1 x0 x1/\p2 x0 x1)->G:=fun h=>h.elim fun x0 g0=>g0.elim fun x1 g1=>k x0 x1 g1.1 g1.2.1 g1.2.2
def Ni{p0 p1 p2 p3 p4 p5:t0->t1->t2->t3->t4->Prop}{G:Prop}(k:∀x0,∀x1,∀x2,∀x3,∀τ,p0 x0 x1 x2 x3 τ->p1 x0 x1 x2 x3 τ->p2 x0 x1 x2 x3 τ->p3 x0 x1 x2 x3 τ->p4 x0 x1 x2 x3 τ->p5 x0 x1 x2 x3 τ->G):(∃x0 x1 x2 x3 τ,p0 x0 x1 x2 x3 τ/\p1 x0 x1 x2 x3 τ/\p2 x0 x1 x2 x3 τ/\p3 x0 x1 x2 x3 τ/\p4 x0 x1 x2 x3 τ/\p5 x0 x1 x2 x3 τ)->G:=fun h=>h.elim fun x0 g0=>g0.elim fun x1 g1=>g1.elim fun x2 g2=>g2.elim fun x3 g3=>g3.elim fun τ g4=>k x0 x1 x2 x3 τ g4.1 g4.2.1 g4.2.2.1 g4.2.2.2.1 g4.2.2.2.2.1 g4.2.2.2.2.2
def uf{p0:t0->Prop}{G:Prop}(k:∀x0,p0 x0->G):(∃x0,p0 x0)->G:=fun h=>h.elim fun x0 g0=>k x0 g0
def ug{p0 p1 p2 p3 p4:t0->t1->t2->Prop}{G:Prop}(k:∀x0,∀x1,∀x2,p0 x0 x1 x2->p1 x0 x1 x2->p2 x0 x1 x2->p3 x0 x1 x2->p4 x0 x1 x2->G):(∃x0 x1 x2,p0 x0 x1 x2/\p1 x0 x1 x2/\p2 x0 x1 x2/\p3 x0 x1 x2/\p4 x0 x1 x2)->G:=fun h=>h.elim fun x0 g0=>g0.elim fun x1 g1=>g1.elim fun x2 g2=>k x0 x1 x2 g2.1 g2.2.1 g2.2.2.1 g2.2.2.2.1 g2.2.2.2.2
def Ve{p0 p1 p2 p3:t0->t1->t2->Prop}{G:Prop}(k:∀x0,∀x1,∀x2,p0 x0 x1 x2->p1 x0 x1 x2->p2 x0 x1 x2->p3 x0 x1 x2->G):(∃x0 x1 x2,p0 x0 x1 x2/\p1 x0 x1 x2/\p2 x0 x1 x2/\p3 x0 x1 x2)->G:=fun h=>h.elim fun x0 g0=>g0.elim fun x1 g1=>g1.elim fun x2 g2=>k x0 x1 x2 g2.1 g2.2.1 g2.2.2.1 g2.2.2.2
def yx{p0 p1 p2 p3 p4:t0->t1->Prop}{G:Prop}(k:∀x0,∀x1,p0 x0 x1->p1 x0 x1->p2 x0 x1->p3 x0 x1->p4 x0 x1->G):(∃x0 x1,p0 x0 x1/\p1 x0 x1/\p2 x0 x1/\p3 x0 x1/\p4 x0 x1)->G:=fun h=>h.elim fun x0 g0=>g0.elim fun x1 g1=>k x0 x1 g1.1 g1.2.1 g1.2.2.1 g1.2.2.2.1 g1.2.2.2.2
def yz{G:Prop}(k:p0->p1->p2->p3->G):(p0/\p1/\p2/\p3)->G:=fun h=>k h.1 h.2.1 h.2.2.1 h.2.2.2
def CG{G:Prop}(k:p0->p1->p2->p3->p4->p5->G):(p0/\p1/\p2/\p3/\p4/\p5)->G:=fun h=>k h.1 h.2.1 h.2.2.1 h.2.2.2.1 h.2.2.2.2.1 h.2.2.2.2.2
def mf{p0:t0->t1->t2->t3->t4->t5->Prop}{G:Prop}(k:∀x0,∀x1,∀x2,∀x3,∀τ,∀br,p0 x0 x1 x2 x3 τ br->G):(∃x0 x1 x2 x3 τ br,p0 x0 x1 x2 x3 τ br)->G:=fun h=>h.elim fun x0 g0=>g0.elim fun x1 g1=>g1.elim fun x2 g2=>g2.elim fun x3 g3=>g3.elim fun τ g4=>g4.elim fun br g5=>k x0 x1 x2 x3 τ br g5
def Jq{p0 p1 p2 p3 p4:t0->Prop}{G:Prop}(k:∀x0,p0 x0->p1 x0->p2 x0->p3 x0->p4 x0->G):(∃x0,p0 x0/\p1 x0/\p2 x0/\p3 x0/\p4 x0)->G:=fun h=>h.elim fun x0 g0=>k x0 g0.1 g0.2.1 g0.2.2.1 g0.2.2.2.1 g0.2.2.2.2
def cJ{p0 p1:t0->t1->Prop}(x0:t0)(x1:t1)(h0:p0 x0 x1)(h1:p1 x0 x1):∃x0 x1,p0 x0 x1/\p1 x0 x1:=⟨x0,x1,h0,h1⟩
def δ{p0 p1:t0->Prop}(x0:t0)(h0:p0 x0)(h1:p1 x0):∃x0,p0 x0/\p1 x0:=⟨x0,h0,h1⟩
def GC{p0 p1:t0->t1->t2->Prop}(x0:t0)(x1:t1)(x2:t2)(h0:p0 x0 x1 x2)(h1:p1 x0 x1 x2):∃x0 x1 x2,p0 x0 x1 x2/\p1 x0 x1 x2:=⟨x0,x1,x2,h0,h1⟩
def CH{p0 p1:t0->t1->t2->t3->Prop}(x0:t0)(x1:t1)(x2:t2)(x3:t3)(h0:p0 x0 x1 x2 x3)(h1:p1 x0 x1 x2 x3):∃x0 x1 x2 x3,p0 x0 x1 x2 x3/\p1 x0 x1 x2 x3:=⟨x0,x1,x2,x3,h0,h1⟩
def zR{p0:t0->t1->t2->Prop}(x0:t0)(x1:t1)(x2:t2)(h0:p0 x0 x1 x2):∃x0 x1 x2,p0 x0 x1 x2:=⟨x0,x1,x2,h0⟩
def fk{p0 p1 p2 p3:t0->t1->Prop}(x0:t0)(x1:t1)(h0:p0 x0 x1)(h1:p1 x0 x1)(h2:p2 x0 x1)(h3:p3 x0 x1):∃x0 x1,p0 x0 x1/\p1 x0 x1/\p2 x0 x1/\p3 x0 x1:=⟨x0,x1,h0,h1,h2,h3⟩
def ϧ{p0 p1 p2:t0->t1->Prop}(x0:t0)(x1:t1)(h0:p0 x0 x1)(h1:p1 x0 x1)(h2:p2 x0 x1):∃x0 x1,p0 x0 x1/\p1 x0 x1/\p2 x0 x1:=⟨x0,x1,h0,h1,h2⟩
def ac{p0 p1 p2:t0->Prop}(x0:t0)(h0:p0 x0)(h1:p1 x0)(h2:p2 x0):∃x0,p0 x0/\p1 x0/\p2 x0:=⟨x0,h0,h1,h2⟩
def qq{p0:t0->Prop}(x0:t0)(h0:p0 x0):∃x0,p0 x0:=⟨x0,h0⟩
def Nj{p0 p1 p2:t0->t1->t2->Prop}(x0:t0)(x1:t1)(x2:t2)(h0:p0 x0 x1 x2)(h1:p1 x0 x1 x2)(h2:p2 x0 x1 x2):∃x0 x1 x2,p0 x0 x1 x2/\p1 x0 x1 x2/\p2 x0 x1 x2:=⟨x0,x1,x2,h0,h1,h2⟩
def CI{p0 p1 p2 p3 p4:t0->t1->Prop}(x0:t0)(x1:t1)(h0:p0 x0 x1)(h1:p1 x0 x1)(h2:p2 x0 x1)(h3:p3 x0 x1)(h4:p4 x0 x1):∃x0 x1,p0 x0 x1/\p1 x0 x1/\p2 x0 x1/\p3 x0 x1/\p4 x0 x1:=⟨x0,x1,h0,h1,h2,h3,h4⟩
def EH{p0 p1 p2 p3 p4 p5:t0->t1->t2->t3->t4->Prop}(x0:t0)(x1:t1)(x2:t2)(x3:t3)(τ:t4)(h0:p0 x0 x1 x2 x3 τ)(h1:p1 x0 x1 x2 x3 τ)(h2:p2 x0 x1 x2 x3 τ)(h3:p3 x0 x1 x2 x3 τ)(h4:p4 x0 x1 x2 x3 τ)(h5:p5 x0 x1 x2 x3 τ):∃x0 x1 x2 x3 τ,p0 x0 x1 x2 x3 τ/\p1 x0 x1 x2 x3 τ/\p2 x0 x1 x2 x3 τ/\p3 x0 x1 x2 x3 τ/\p4 x0 x1 x2 x3 τ/\p5 x0 x1 x2 x3 τ:=⟨x0,x1,x2,x3,τ,h0,h1,h2,h3,h4,h5⟩
def aL{p0 p1 p2 p3:t0->t1->t2->Prop}(x0:t0)(x1:t1)(x2:t2)(h0:p0 x0 x1 x2)(h1:p1 x0 x1 x2)(h2:p2 x0 x1 x2)(h3:p3 x0 x1 x2):∃x0 x1 x2,p0 x0 x1 x2/\p1 x0 x1 x2/\p2 x0 x1 x2/\p3 x0 x1 x2:=⟨x0,x1,x2,h0,h1,h2,h3⟩
def mh{p0 p1 p2 p3:t0->Prop}(x0:t0)(h0:p0 x0)(h1:p1 x0)(h2:p2 x0)(h3:p3 x0):∃x0,p0 x0/\p1 x0/\p2 x0/\p3 x0:=⟨x0,h0,h1,h2,h3⟩
def GD{p0 p1 p2 p3 p4:t0->Prop}(x0:t0)(h0:p0 x0)(h1:p1 x0)(h2:p2 x0)(h3:p3 x0)(h4:p4 x0):∃x0,p0 x0/\p1 x0/\p2 x0/\p3 x0/\p4 x0:=⟨x0,h0,h1,h2,h3,h4⟩
def Vf{p0 p1 p2 p3 p4 p5:t0->t1->Prop}(x0:t0)(x1:t1)(h0:p0 x0 x1)(h1:p1 x0 x1)(h2:p2 x0 x1)(h3:p3 x0 x1)(h4:p4 x0 x1)(h5:p5 x0 x1):∃x0 x1,p0 x0 x1/\p1 x0 x1/\p2 x0 x1/\p3 x0 x1/\p4 x0 x1/\p5 x0 x1:=⟨x0,x1,h0,h1,h2,h3,h4,h5⟩
def dL{p0 p1 p2 p3 p4:t0->t1->t2->Prop}(x0:t0)(x1:t1)(x2:t2)(h0:p0 x0 x1 x2)(h1:p1 x0 x1 x2)(h2:p2 x0 x1 x2)(h3:p3 x0 x1 x2)(h4:p4 x0 x1 x2):∃x0 x1 x2,p0 x0 x1 x2/\p1 x0 x1 x2/\p2 x0 x1 x2/\p3 x0 x1 x2/\p4 x0 x1 x2:=⟨x0,x1,x2,h0,h1,h2,h3,h4⟩
def zS{p0 p1 p2 p3 p4 p5:t0->t1->t2->Prop}(x0:t0)(x1:t1)(x2:t2)(h0:p0 x0 x1 x2)(h1:p1 x0 x1 x2)(h2:p2 x0 x1 x2)(h3:p3 x0 x1 x2)(h4:p4 x0 x1 x2)(h5:p5 x0 x1 x2):∃x0 x1 x2,p0 x0 x1 x2/\p1 x0 x1 x2/\p2 x0 x1 x2/\p3 x0 x1 x2/\p4 x0 x1 x2/\p5 x0 x1 x2:=⟨x0,x1,x2,h0,h1,h2,h3,h4,h5⟩
def uY{p0:t0->t1->Prop}(x0:t0)(x1:t1)(h0:p0 x0 x1):∃x0 x1,p0 x0 x1:=⟨x0,x1,h0⟩
def zT{p0:t0->t1->t2->t3->t4->t5->Prop}(x0:t0)(x1:t1)(x2:t2)(x3:t3)(τ:t4)(br:t5)(h0:p0 x0 x1 x2 x3 τ br):∃x0 x1 x2 x3 τ br,p0 x0 x1 x2 x3 τ br:=⟨x0,x1,x2,x3,τ,br,h0⟩
def Jr{p0 p1 p2 p3 p4:t0->t1->t2->t3->Prop}(x0:t0)(x1:t1)(x2:t2)(x3:t3)(h0:p0 x0 x1 x2 x3)(h1:p1 x0 x1 x2 x3)(h2:p2 x0 x1 x2 x3)(h3:p3 x0 x1 x2 x3)(h4:p4 x0 x1 x2 x3):∃x0 x1 x2 x3,p0 x0 x1 x2 x3/\p1 x0 x1 x2 x3/\p2 x0 x1 x2 x3/\p3 x0 x1 x2 x3/\p4 x0 x1 x2 x3:=⟨x0,x1,x2,x3,h0,h1,h2,h3,h4⟩
def Nk{p0 p1 p2 p3 p4 p5:t0->Prop}(x0:t0)(h0:p0 x0)(h1:p1 x0)(h2:p2 x0)(h3:p3 x0)(h4:p4 x0)(h5:p5 x0):∃x0,p0 x0/\p1 x0/\p2 x0/\p3 x0/\p4 x0/\p5 x0:=⟨x0,h0,h1,h2,h3,h4,h5⟩
def ack{p0 p1 p2 p3:t0->t1->t2->t3->Prop}(x0:t0)(x1:t1)(x2:t2)(x3:t3)(h0:p0 x0 x1 x2 x3)(h1:p1 x0 x1 x2 x3)(h2:p2 x0 x1 x2 x3)(h3:p3 x0 x1 x2 x3):∃x0 x1 x2 x3,p0 x0 x1 x2 x3/\p1 x0 x1 x2 x3/\p2 x0 x1 x2 x3/\p3 x0 x1 x2 x3:=⟨x0,x1,x2,x3,h0,h1,h2,h3⟩
def Js{p0 p1 p2:t0->t1->t2->t3->t4->Prop}(x0:t0)(x1:t1)(x2:t2)(x3:t3)(τ:t4)(h0:p0 x0 x1 x2 x3 τ)(h1:p1 x0 x1 x2 x3 τ)(h2:p2 x0 x1 x2 x3 τ):∃x0 x1 x2 x3 τ,p0 x0 x1 x2 x3 τ/\p1 x0 x1 x2 x3 τ/\p2 x0 x1 x2 x3 τ:=⟨x0,x1,x2,x3,τ,h0,h1,h2⟩
def agz{p0 p1 p2 p3 p4 p5 p6:t0->t1->Prop}(x0:t0)(x1:t1)(h0:p0 x0 x1)(h1:p1 x0 x1)(h2:p2 x0 x1)(h3:p3 x0 x1)(h4:p4 x0 x1)(h5:p5 x0 x1)(h6:p6 x0 x1):∃x0 x1,p0 x0 x1/\p1 x0 x1/\p2 x0 x1/\p3 x0 x1/\p4 x0 x1/\p5 x0 x1/\p6 x0 x1:=⟨x0,x1,h0,h1,h2,h3,h4,h5,h6⟩
def agA{p0:t0->t1->t2->t3->Prop}(x0:t0)(x1:t1)(x2:t2)(x3:t3)(h0:p0 x0 x1 x2 x3):∃x0 x1 x2 x3,p0 x0 x1 x2 x3:=⟨x0,x1,x2,x3,h0⟩
def agB{p0 p1 p2 p3 p4 p5 p6:t0->t1->t2->Prop}(x0:t0)(x1:t1)(x2:t2)(h0:p0 x0 x1 x2)(h1:p1 x0 x1 x2)(h2:p2 x0 x1 x2)(h3:p3 x0 x1 x2)(h4:p4 x0 x1 x2)(h5:p5 x0 x1 x2)(h6:p6 x0 x1 x2):∃x0 x1 x2,p0 x0 x1 x2/\p1 x0 x1 x2/\p2 x0 x1 x2/\p3 x0 x1 x2/\p4 x0 x1 x2/\p5 x0 x1 x2/\p6 x0 x1 x2:=⟨x0,x1,x2,h0,h1,h2,h3,h4,h5,h6⟩
def Ϗ{p0 p1:t0->Prop}{G:Prop}(h:∃x0,p0 x0/\p1 x0)(k:∀x0,p0 x0->p1 x0->G):G:=h.elim fun x0 g0=>k x0 g0.1 g0.2
def uZ{G:Prop}(h:p0/\p1)(k:p0->p1->G):G:=k h.1 h.2
def zU{p0 p1:t0->t1->Prop}{G:Prop}(h:∃x0 x1,p0 x0 x1/\p1 x0 x1)(k:∀x0,∀x1,p0 x0 x1->p1 x0 x1->G):G:=h.elim fun x0 g0=>g0.elim fun x1 g1=>k x0 x1 g1.1 g1.2
def Vg{G:Prop}(h:p0/\p1/\p2/\p3/\p4)(k:p0->p1->p2->p3->p4->G):G:=k h.1 h.2.1 h.2.2.1 h.2.2.2.1 h.2.2.2.2
def agC{p0 p1:t0->t1->t2->Prop}{G:Prop}(h:∃x0 x1 x2,p0 x0 x1 x2/\p1 x0 x1 x2)(k:∀x0,∀x1,∀x2,p0 x0 x1 x2->p1 x0 x1 x2->G):G:=h.elim fun x0 g0=>g0.elim fun x1 g1=>g1.elim fun x2 g2=>k x0 x1 x2 g2.1 g2.2
def au{p0 p1 p2:t0->Prop}{G:Prop}(h:∃x0,p0 x0/\p1 x0/\p2 x0)(k:∀x0,p0 x0->p1 x0->p2 x0->G):G:=h.elim fun x0 g0=>k x0 g0.1 g0.2.1 g0.2.2
def CJ{G:Prop}(h:p0/\p1/\p2/\p3/\p4/\p5)(k:p0->p1->p2->p3->p4->p5->G):G:=k h.1 h.2.1 h.2.2.1 h.2.2.2.1 h.2.2.2.2.1 h.2.2.2.2.2
def Vh{G:Prop}(h:p0/\p1/\p2/\p3)(k:p0->p1->p2->p3->G):G:=k h.1 h.2.1 h.2.2.1 h.2.2.2
def kf{p0 p1 p2:t0->t1->Prop}{G:Prop}(h:∃x0 x1,p0 x0 x1/\p1 x0 x1/\p2 x0 x1)(k:∀x0,∀x1,p0 x0 x1->p1 x0 x1->p2 x0 x1->G):G:=h.elim fun x0 g0=>g0.elim fun x1 g1=>k x0 x1 g1.1 g1.2.1 g1.2.2
def Ri{p0:t0->t1->Prop}{G:Prop}(h:∃x0 x1,p0 x0 x1)(k:∀x0,∀x1,p0 x0 x1->G):G:=h.elim fun x0 g0=>g0.elim fun x1 g1=>k x0 x1 g1
def agD{p0 p1 p2:t0->t1->t2->Prop}{G:Prop}(h:∃x0 x1 x2,p0 x0 x1 x2/\p1 x0 x1 x2/\p2 x0 x1 x2)(k:∀x0,∀x1,∀x2,p0 x0 x1 x2->p1 x0 x1 x2->p2 x0 x1 x2->G):G:=h.elim fun x0 g0=>g0.elim fun x1 g1=>g1.elim fun x2 g2=>k x0 x1 x2 g2.1 g2.2.1 g2.2.2
def Nl{p0 p1 p2 p3 p4:t0->Prop}{G:Prop}(h:∃x0,p0 x0/\p1 x0/\p2 x0/\p3 x0/\p4 x0)(k:∀x0,p0 x0->p1 x0->p2 x0->p3 x0->p4 x0->G):G:=h.elim fun x0 g0=>k x0 g0.1 g0.2.1 g0.2.2.1 g0.2.2.2.1 g0.2.2.2.2
def cW{G:Prop}(h:p0/\p1/\p2)(k:p0->p1->p2->G):G:=k h.1 h.2.1 h.2.2
def ww{p0 p1 p2 p3:t0->t1->Prop}{G:Prop}(h:∃x0 x1,p0 x0 x1/\p1 x0 x1/\p2 x0 x1/\p3 x0 x1)(k:∀x0,∀x1,p0 x0 x1->p1 x0 x1->p2 x0 x1->p3 x0 x1->G):G:=h.elim fun x0 g0=>g0.elim fun x1 g1=>k x0 x1 g1.1 g1.2.1 g1.2.2.1 g1.2.2.2
def acl{p0 p1:t0->t1->t2->t3->Prop}{G:Prop}(h:∃x0 x1 x2 x3,p0 x0 x1 x2 x3/\p1 x0 x1 x2 x3)(k:∀x0,∀x1,∀x2,∀x3,p0 x0 x1 x2 x3->p1 x0 x1 x2 x3->G):G:=h.elim fun x0 g0=>g0.elim fun x1 g1=>g1.elim fun x2 g2=>g2.elim fun x3 g3=>k x0 x1 x2 x3 g3.1 g3.2
def agE{p0 p1 p2 p3 p4:t0->t1->t2->Prop}{G:Prop}(h:∃x0 x1 x2,p0 x0 x1 x2/\p1 x0 x1 x2/\p2 x0 x1 x2/\p3 x0 x1 x2/\p4 x0 x1 x2)(k:∀x0,∀x1,∀x2,p0 x0 x1 x2->p1 x0 x1 x2->p2 x0 x1 x2->p3 x0 x1 x2->p4 x0 x1 x2->G):G:=h.elim fun x0 g0=>g0.elim fun x1 g1=>g1.elim fun x2 g2=>k x0 x1 x2 g2.1 g2.2.1 g2.2.2.1 g2.2.2.2.1 g2.2.2.2.2
def Rj{p0:t0->t1->t2->t3->t4->t5->Prop}{G:Prop}(h:∃x0 x1 x2 x3 τ br,p0 x0 x1 x2 x3 τ br)(k:∀x0,∀x1,∀x2,∀x3,∀τ,∀br,p0 x0 x1 x2 x3 τ br->G):G:=h.elim fun x0 g0=>g0.elim fun x1 g1=>g1.elim fun x2 g2=>g2.elim fun x3 g3=>g3.elim fun τ g4=>g4.elim fun br g5=>k x0 x1 x2 x3 τ br g5
def EI{p0:t0->t1->t2->Prop}{G:Prop}(h:∃x0 x1 x2,p0 x0 x1 x2)(k:∀x0,∀x1,∀x2,p0 x0 x1 x2->G):G:=h.elim fun x0 g0=>g0.elim fun x1 g1=>g1.elim fun x2 g2=>k x0 x1 x2 g2
def YB{p0 p1 p2 p3 p4 p5 p6:t0->t1->t2->t3->t4->Prop}{G:Prop}(h:∃x0 x1 x2 x3 τ,p0 x0 x1 x2 x3 τ/\p1 x0 x1 x2 x3 τ/\p2 x0 x1 x2 x3 τ/\p3 x0 x1 x2 x3 τ/\p4 x0 x1 x2 x3 τ/\p5 x0 x1 x2 x3 τ/\p6 x0 x1 x2 x3 τ)(k:∀x0,∀x1,∀x2,∀x3,∀τ,p0 x0 x1 x2 x3 τ->p1 x0 x1 x2 x3 τ->p2 x0 x1 x2 x3 τ->p3 x0 x1 x2 x3 τ->p4 x0 x1 x2 x3 τ->p5 x0 x1 x2 x3 τ->p6 x0 x1 x2 x3 τ->G):G:=h.elim fun x0 g0=>g0.elim fun x1 g1=>g1.elim fun x2 g2=>g2.elim fun x3 g3=>g3.elim fun τ g4=>k x0 x1 x2 x3 τ g4.1 g4.2.1 g4.2.2.1 g4.2.2.2.1 g4.2.2.2.2.1 g4.2.2.2.2.2.1 g4.2.2.2.2.2.2
def acm{p0 p1 p2 p3 p4:t0->t1->Prop}{G:Prop}(h:∃x0 x1,p0 x0 x1/\p1 x0 x1/\p2 x0 x1/\p3 x0 x1/\p4 x0 x1)(k:∀x0,∀x1,p0 x0 x1->p1 x0 x1->p2 x0 x1->p3 x0 x1->p4 x0 x1->G):G:=h.elim fun x0 g0=>g0.elim fun x1 g1=>k x0 x1 g1.1 g1.2.1 g1.2.2.1 g1.2.2.2.1 g1.2.2.2.2
def YC{p0:t0->Prop}{G:Prop}(h:∃x0,p0 x0)(k:∀x0,p0 x0->G):G:=h.elim fun x0 g0=>k x0 g0
def Nm (h:True:=by first | exact .inl rfl | exact .inr rfl | assumption):True:=h
def fR (h:True:=by decide):True:=h
def acn (h:True:=by first | exact Rk _ (by decide) (by decide) | rfl):True:=h
def ai (h:True:=by rfl):True:=h
def Nn (h:True:=by intro _;rfl):True:=h
def aco (h:True:=by with_unfolding_all rfl):True:=h
def Rl (h:True:=by first | exact aP rfl | exact uc (aP rfl) | exact uc (uc rfl)):True:=h
def agF (h:True:=by exact aP rfl):True:=h
def agG (h:True:=by intro _ _;rfl):True:=h
end
section
open PySem PySem.Spec PyProof.Rows
noncomputable abbrev Key:=Sum Int Str
abbrev xJ:Key->Ω->Bool
 | .inl k,v=>Yr k v
 | .inr x,v=>U1 x v
abbrev agH (w:dX):Key->Int
 | .inl k=>hashInt k
 | .inr x=>hashStr w x
def dk:∀{k:Key} {v:Ω},xJ k v=true->(∃i t,k=jI i/\v=QF i t)\/(∃x t,k=xE x/\v=ab8 x t)
 | .inl i,v,h=>by
  obtain⟨t,e⟩:=Value.isInt_shape h;show .inl (cJ i t rfl e)
 | .inr x,v,h=>by
  obtain⟨t,e⟩:=Value.isStrOf_shape h;show .inr (cJ x t rfl e)
def No (i:Int)(t:Tok):xJ (.inl i) (.int i t)=true:=by simp[xJ,Yr]
def Np (x:Str)(t:Tok):xJ (.inr x) (.str x t)=true:=by simp[xJ,U1]
def YD (a b:Int):decide ((jI a:Key)=jI b)=(a == b):=by
 by_cases e:a=b
 ·subst e;simp
 ·let h:¬(jI a:Key)=jI b:=λq=>e (hV q)
  rw[ae h];show(dY.mpr e).17
def YE (a b:Str):decide ((xE a:Key)=xE b)=decide (a=b):=by
 by_cases e:a=b
 ·subst e;simp
 ·let h:¬(xE a:Key)=xE b:=λq=>e (db q)
  rw[ae h,ae e]
def YF (a:Int)(b:Str):decide ((jI a:Key)=xE b)=false:=ae (λq=>nomatch q)
def YG (a:Str)(b:Int):decide ((xE a:Key)=jI b)=false:=ae (λq=>nomatch q)
abbrev bX (prog:ah)(w:dX):PySem.KeyKind prog w Key where
 is:=xJ
 hash:=agH w
 inj:=λv a b ha hb=>by
  rcases dk ha with⟨i,t,rfl,rfl⟩ | ⟨x,t,rfl,rfl⟩
  ·rcases dk hb with⟨j,u,rfl,e⟩ | ⟨y,u,rfl,e⟩
   ·injection e with e1 _;rw[e1]
   ·show nomatch e
  ·rcases dk hb with⟨j,u,rfl,e⟩ | ⟨y,u,rfl,e⟩
   ·show nomatch e
   ·injection e with e1 _;rw[e1]
 byValue:=λk v h=>by
  rcases dk h with⟨i,t,rfl,rfl⟩ | ⟨x,t,rfl,rfl⟩<;>rfl
 pyHash:=λhv h=>by
  rcases dk hv with⟨i,t,rfl,rfl⟩ | ⟨x,t,rfl,rfl⟩
  ·show wpAny_pyHash_int h
  ·show wpAny_pyHash_str h
 eqBool:=λhu hv h=>by
  rcases dk hu with⟨i,t,rfl,rfl⟩ | ⟨x,t,rfl,rfl⟩
  ·rcases dk hv with⟨j,u,rfl,rfl⟩ | ⟨y,u,rfl,rfl⟩
   ·rw[YD] at h;show wpAny_eqBool_int h
   ·rw[YF] at h;show ED i t y u _ _ _ _ h
  ·rcases dk hv with⟨j,u,rfl,rfl⟩ | ⟨y,u,rfl,rfl⟩
   ·rw[YG] at h;show EF x t j u _ _ _ _ h
   ·rw[YE] at h;show wpAny_eqBool_str h
 «strs»:=λk x t v h=>by
  rcases dk h with⟨i,u,rfl,e⟩ | ⟨y,u,rfl,e⟩
  ·show nomatch e
  ·injection e with e1 _
   subst e1;cases v<;>rfl
def GE (prog:ah)(w:dX)(i:Int)(t:Tok):(bX prog w).is (.inl i) (.int i t)=true:=No i t
def xK (prog:ah)(w:dX)(x:Str)(t:Tok):(bX prog w).is (.inr x) (.str x t)=true:=Np x t
inductive V where
 | bM | bl (b:Bool) | int (i:Int) | str (x:Str) | Jd (b:Array UInt8) | Vi (b:UInt64) | ref (a:Ν) | ty (n:String)
 deriving DecidableEq
abbrev RelV:V->Ω->Prop
 | .bM,u=>u=Cq
 | .bl b,u=>u=LX b
 | .int i,u=>∃t,u=QF i t
 | .str x,u=>∃t,u=ab8 x t
 | .Jd b,u=>∃t,u=Value.bytes b t
 | .Vi b,u=>∃t,u=Value.float b t
 | .ref a,u=>u=cC a
 | .ty n,u=>u=Cr n
theorem Vals:-V->-Ω->Prop:=Paired RelV
def Vals.length (r:Vals xs us):xs.4=us.4:=Paired.length r
def Vals.get {xs:-V}{us:-Ω}{i:Nat}{x:V}(r:Vals xs us)(e:xs[i]?=!x):∃u,us[i]?=!u/\RelV x u:=by
 induction r generalizing i with
 | nil=>simp at e
 | cons r t ih=>cases i with
  | zero=>simp at e;subst e;show(δ _ rfl r)
  | succ i=>simpa using ih (by simpa using e)
def Vals.set {x:V}(r:RelV x u){xs:-V}{us:-Ω}(i:Nat)(q:Vals xs us):Vals (xs.set i x) (us.set i u):=by
 induction q generalizing i with
 | nil=>show .nil
 | cons q t ih=>cases i with
  | zero=>show .cons r t
  | succ i=>show .cons q (ih i)
def Vals.append {xs ys:-V}{us ws:-Ω}(r:Vals xs us)(s:Vals ys ws):Vals (xs++ys) (us++ws):=by
 induction r with
 | nil=>show s
 | cons r t ih=>show .cons r ih
def Vals.take {xs:-V}{us:-Ω}(n:Nat)(r:Vals xs us):Vals (xs.take n) (us.take n):=by
 induction r generalizing n with
 | nil=>cases n<;>show .nil
 | cons r t ih=>cases n with
  | zero=>show .nil
  | succ n=>show .cons r (ih n)
def Vals.drop {xs:-V}{us:-Ω}(n:Nat)(r:Vals xs us):Vals (xs.drop n) (us.drop n):=by
 induction r generalizing n with
 | nil=>cases n<;>show .nil
 | cons r t ih=>cases n with
  | zero=>show .cons r t
  | succ n=>show ih n
abbrev nI:Option V->Option Ω->Prop
 | some v,some u=>RelV v u
 | none,none=>True
 | _,_=>False
abbrev KV:-(κ×V)->-(κ×Ω)->Prop:=Paired λp q=>p.1=q.1/\RelV p.2 q.2
abbrev kV:Key->V
 | .inl i=>.int i
 | .inr x=>.str x
inductive HO where
 | lst (xs:-V)
 | tup (xs:-V)
 | dK (kvs:-(Key×V)) | dT (kvs:-(-Key×V))
 | set (S:Int->Bool) (n:Nat)
 | ins (C dx:Ν) (fs:-(Str×V))
 | own (x:Ν)
 | xd (fs:-(Str×V))
 | met (f x:Ν)
 | rng (lo hi:Int)
 | Nq (o:Obj) (u:HO)
 | YH (ps:Array Ω)
 | ext (φ:a9->Prop)
noncomputable abbrev Hp:=Ν->Option HO
abbrev upd (H:Hp)(a:Ν)(o:HO):Hp:=λb=>if b=a then some o else H b
def Δ :upd H a o a=!o:=by unfold upd;rw[ε rfl]
def ν (h:b≠a):upd H a o b=H b:=by unfold upd;rw[Ψ h]
def dQ {H:Hp}{o u:HO}(h:H a=!o)(h':H b=!u)(d:o≠u):a≠b:=by
 intro e;subst e;rw[h] at h';show d (ϲ h')
def aj {H:Hp}(h:H a=!o)(h':H b=none):a≠b:=by
 intro e;subst e;rw[h] at h';cases h'
section
variable (P:ah) (w:dX)
theorem Xk (lo hi:Int)(t u v:Nat):Obj:={ cls:=.type "range",data:=.fields #[.int lo t,.int hi u,.int 1 v] }
abbrev fW (H:Hp)(h:a9)(a:Ν):HO->Prop
 | .lst xs=>xs.4<=sizeLine/\∃(bn:-Ω) (n:Nat),Vals xs bn/\h.get? a=some { cls:=.type "list",data:=.seq bn.10 n }
 | .tup xs=>xs.4<=sizeLine/\∃bn:-Ω,Vals xs bn/\IsTup h a bn.10
 | .dK kvs=>kvs.4<=sizeLine/\(a == sysModules)=false/\∃vs,KV kvs vs/\h.DictOf (bX P w) a vs
 | .dT kvs=>kvs.4<=sizeLine/\(a == sysModules)=false/\∃xs:-(-Key×Ν×Ω),
   Paired (λ(p:-Key×V) (q:-Key×Ν×Ω)=>p.1=q.1/\H q.2.1=!.tup (p.1.map kV)/\RelV p.2 q.2.2) kvs xs/\
   ∃o es ep,h.get? a=!o/\o.ExactDict/\o.65=.dict es ep/\es.34=xs.map (entryOfKey (tupleKind (bX P w)))/\(xs.map (·.1)).13
 | .set S n=>h.SetOf (intKind P w) a S n
 | .ins C dx fs=>H dx=!.own a/\fs.4<=1000/\dx≠a/\h.get? a=!mP C dx/\
   ∃mA,h.Ns1 dx mA/\(∀f,nI (fs.lookup f) (mA f))/\PySem.Within mA (fs.map (·.1))
 | .own _=>∃o,h.get? a=!o
 | .xd fs=>∃mA,h.Ns1 a mA/\∀f,nI (fs.lookup f) (mA f)
 | .rng lo hi=>∃t u v,h.get? a=!Xk lo hi t u v
 | .Nq o u=>h.get? a=!o/\fW H h a u
 | .YH ps=>h.get? a=some { cls:=.none,data:=.fields ps }
 | .met f x=>h.get? a=!agc (.ref f) (.ref x)
 | .ext φ=>φ h/\(∃o,h.get? a=!o)/\∀h1 h2:a9,φ h1->(∀o,h1.get? a=!o->h2.get? a=!o)->φ h2
abbrev uT (H:Hp)(h:a9):Prop:=∀a o,H a=!o->fW P w H h a o
end
section
variable {P:ah} {H H':Hp} {h h':a9} {o:HO}
def fW.lt (x:fW P w H h a o):a < h.7:=by
 cases o with
 | lst xs=>(revert x;show ke λ_=>dB λ_ _ _ e=>?_);show ύ e
 | tup xs=>(revert x;show ke λ_=>ay λ_ _ p=>?_);show p.lt
 | dK kvs=>(revert x;show qp λ_ _=>ay λ_ _=>GB λo _ _ e _=>?_);show ύ e
 | dT kvs=>(revert x;show qp λ_ _=>ay λ_ _=>GB λo _ _ e _=>?_);show ύ e
 | set S n=>(revert x;show oK λo _ _ _ e _=>?_);show ύ e
 | ins C dx fs=>(revert x;show yw λ_ _ _ e _=>?_);show ύ e
 | own y=>obtain⟨_,e⟩:=x;show ύ e
 | xd fs=>(revert x;show ay λ_ ϐ _=>?_;obtain ⟨_,_,_,e,_⟩:=ϐ);show ύ e
 | rng lo hi=>(revert x;show zQ λ_ _ _ e=>?_);show ύ e
 | Nq ob u=>obtain⟨e,_⟩:=x;show ύ e
 | YH ps=>show ύ (x)
 | met f y=>show ύ (x)
 | ext φ=>(revert x;show qp λ_ ϐ _=>?_;obtain ⟨_,e⟩:=ϐ);show ύ e
def Paired.YI {F G:α->β->Prop}{l₁:-α}{l₂:-β}(r:Paired F l₁ l₂)(f:∀a b,F a b->G a b):Paired G l₁ l₂:=by
 induction r with
 | nil=>show .nil
 | cons r t ih=>show .cons (f _ _ r) ih
def fW.Jt (x:fW P w H h a o)(k:∀b u,(b=a\/H b=!.own a)->h.get? b=!u->h'.get? b=!u)
  (ho:∀b,H b=!.own a->H' b=!.own a) (ht:∀b xs,H b=!.tup xs->H' b=!.tup xs):fW P w H' h' a o:=by
 induction o with
 | lst xs=>(revert x;show ke λz=>dB λbn n r e=>?_);show⟨z,(cJ bn n r (k _ _ (.inl rfl) e))⟩
 | tup xs=>(revert x;show ke λz=>ay λbn r=>ay λob e c=>?_);show⟨z,(δ bn r (δ ob (k _ _ (.inl rfl) e) c))⟩
 | dK kvs=>(revert x;show qp λz y=>ay λvs r=>GB λob es ep e c=>?_);show⟨z,y,(δ vs r (GC ob es ep (k _ _ (.inl rfl) e) c))⟩
 | dT kvs=>
  (revert x;show qp λz y=>ay λxs r=>GB λob es ep e c=>?_);show⟨z,y,(δ xs (Paired.YI r λp q z=>⟨z.1,ht _ _ z.2.1,z.2.2⟩) (GC ob es ep (k _ _ (.inl rfl) e) c))⟩
 | set S n=>(revert x;show oK λob es ep t e c=>?_);show(CH ob es ep t (k _ _ (.inl rfl) e) c)
 | ins C dx fs=>
  (revert x;show yw λd z ne e=>ay λmA ϐ r=>?_;obtain ⟨od,es,ep,e2,c⟩:=ϐ);show⟨ho _ d,z,ne,k _ _ (.inl rfl) e,(δ mA (GC od es ep (k _ _ (.inr d) e2) c) r)⟩
 | own y=>obtain⟨ob,e⟩:=x;show⟨ob,k _ _ (.inl rfl) e⟩
 | xd fs=>(revert x;show ay λmA ϐ r=>?_;obtain ⟨od,es,ep,e,c⟩:=ϐ);show(δ mA (GC od es ep (k _ _ (.inl rfl) e) c) r)
 | rng lo hi=>(revert x;show zQ λt u v e=>?_);show(zR t u v (k _ _ (.inl rfl) e))
 | Nq ob u ih=>obtain⟨e,q⟩:=x;show⟨k _ _ (.inl rfl) e,ih q⟩
 | YH ps=>
  let e:=x;change h'.get? a=some { cls:=.none,data:=.fields ps };show k a _ (.inl rfl) e
 | met f y=>
  let e:=x;change h'.get? a=!agc (.ref f) (.ref y);show k a _ (.inl rfl) e
 | ext φ=>(revert x;show qp λp ϐ st=>?_;obtain ⟨o,e⟩:=ϐ);show⟨st _ _ p λo q=>k _ _ (.inl rfl) q,⟨o,k _ _ (.inl rfl) e⟩,st⟩
def uT.lt (x:uT P w H h)(e:H a=!o):a < h.7:=(x a o e).lt
def uT.fresh (x:uT P w H h)(e:h.7<=a):H a=none:=by
 cases q:H a with
 | none=>rfl
 | some u=>show absurd (Ϧ (x.lt q) e) (fP _)
def uT.kept (x:uT P w H h)(k:∀b u,h.get? b=!u->h'.get? b=!u):uT P w H h':=λa o e=>
 (x a o e).Jt (λb u _ q=>k b u q) (λ_ q=>q) λ_ _ q=>q
def uT.laid (x:uT P w H h)(k:∀b u,h.get? b=!u->h'.get? b=!u)(hp:h.7<=a)(new:fW P w (upd H a o) h' a o):uT P w (upd H a o) h':=λb u e=>by
 let hn:=x.fresh hp
 by_cases hb:b=a
 ·subst hb;rw[Δ] at e;cases e;show new
 ·rw[ν hb] at e
  show(x b u e).Jt (λc v _ q=>k c v q) (λc q=>by rw[ν (aj q hn)];show q) λc xs q=>by rw[ν (aj q hn)];show q
end
abbrev Rd (H:Hp)(a:Ν)(u:HO):Prop:=H a=!u\/∃o,H a=!.Nq o u
def Rd.ok {u:HO}(r:Rd H a u)(x:uT P w H h):fW P w H h a u:=by
 rcases r with r | ⟨o,r⟩
 ·show x a u r
 ·obtain⟨_,q⟩:=x a _ r
  show q
abbrev Mut:Option HO->Prop
 | some (.lst _)=>True
 | some (.dK _)=>True
 | some (.dT _)=>True
 | some (.set _ _)=>True
 | some (.ins _ _ _)=>True
 | some (.ext _)=>True
 | _=>False
section
variable {P:ah} {H:Hp} {h h':a9} {x e:Ν} {o':HO}
def uT.write (ok:uT P w H h)(mu:Mut (H x))(he:e=x\/H e=!.own x)(k:∀b u,b≠e->h.get? b=!u->h'.get? b=!u)(heo:∃u,h'.get? e=!u)
  (new:fW P w (upd H x o') h' x o'):uT P w (upd H x o') h':=λb u q=>by
 let acq:∀c y,H c=!.own y->c≠x:=λc y r z=>by subst z;rw[r] at mu;show mu
 let agJ:∀c xs,H c=!.tup xs->c≠x:=λc xs r z=>by subst z;rw[r] at mu;show mu
 by_cases hb:b=x
 ·subst hb;rw[Δ] at q;cases q;show new
 ·rw[ν hb] at q
  by_cases QS:b=e
  ·let q':H b=!.own x:=by
    rcases he with z | z
    ·show absurd (QS.trans z) hb
    ·rw[QS];show z
   rw[q] at q';cases q';obtain⟨v,hv⟩:=heo;show⟨v,by rw[QS];show hv⟩
  ·show(ok b u q).Jt (λc v hc r=>k c v ?_ r) (λc r=>by rw[ν (acq c b r)];show r) λc xs r=>by rw[ν (agJ c xs r)];show r
   rcases hc with rfl | hc
   ·show QS
   ·rintro rfl
    rcases he with z | z
    ·show acq c b hc z
    ·rw[hc] at z;cases z;show hb rfl
end
structure Un (fs ex:-Ν)(H H':Hp)(h h':a9):Prop where
 keep:∀b o,h.get? b=!o->H b=none->b∉fs->b∉ex->h'.get? b=!o
 slot:∀b o,h.get? b=!o->H b=none->b∈fs->b∉ex->∃sl,h'.get? b=some { o with slots:=sl }
 free:∀b o,h.get? b=!o->H b=none->b∉ex->H' b=none
 there:∀b o,h.get? b=!o->b∉ex->∃o',h'.get? b=!o'
 GF:∀b xs,H b=!.tup xs->H' b=!.tup xs
 EJ:∀b o u,H b=!.Nq o u->H' b=!.Nq o u
 GG:∀b ps,H b=!.YH ps->∃more,H' b=!.YH (ps++more)
section
variable {fs fs' ex ex':-Ν} {H H1 H2:Hp} {h h1 h':a9} {x e:Ν} {o:HO}
def Un.any (u:Un fs ex H H1 h h1)(q:h.get? b=!ob)(n:H b=none)(hx:b∉ex):∃sl,h1.get? b=some { ob with slots:=sl }:=by
 by_cases hb:b∈fs
 ·show u.slot b ob q n hb hx
 ·show⟨ob.68,u.keep b ob q n hb hx⟩
def Un.kept (k:∀b u,h.get? b=!u->h'.get? b=!u):Un fs ex H H h h':=
 ⟨λb ob q _ _ _=>k b ob q,λb ob q _ _ _=>⟨ob.68,k b ob q⟩,λ_ _ _ n _=>n,λb ob q _=>⟨ob,k b ob q⟩,λ_ _ q=>q,λ_ _ _ q=>q,λ_ ps q=>⟨#[],by rw[q];simp⟩⟩
def Un.refl:Un fs ex H H h h:=Un.kept λ_ _ q=>q
def Un.laid (k:∀b u,h.get? b=!u->h'.get? b=!u)(hp:h.7<=a)(hn:H a=none):Un fs ex H (upd H a o) h h' where
 keep:=λb u q _ _ _=>k b u q
 slot:=λb u q _ _ _=>⟨u.68,k b u q⟩
 free:=λb u q n _=>by rw[ν (Ϫ (Ϧ (ύ q) hp))];show n
 there:=λb u q _=>⟨u,k b u q⟩
 GF:=λb xs q=>by rw[ν (aj q hn)];show q
 EJ:=λb u xs q=>by rw[ν (aj q hn)];show q
 GG:=λb ps q=>⟨#[],by rw[ν (aj q hn),q];simp⟩
def Un.write (mu:Mut (H x))(he:e=x\/H e=!.own x)(k:∀b u,b≠e->h.get? b=!u->h'.get? b=!u)(heo:∃u,h'.get? e=!u):Un fs ex H (upd H x o) h h':=by
 let hx:∀b,H b=none->b≠x:=λb n z=>by subst z;rw[n] at mu;show mu
 let hb:∀b,H b=none->b≠e:=λb n z=>by
  subst z;rcases he with r | r
  ·show hx b n r
  ·rw[n] at r;cases r
 let hm:∀b u,H b=!u->¬Mut (!u)->b≠x:=λb u q nm z=>by subst z;rw[q] at mu;show nm mu
 show⟨λb u q n _ _=>k b u (hb b n) q,λb u q n _ _=>⟨u.68,k b u (hb b n) q⟩,λb u q n _=>by rw[ν (hx b n)];show n,λb u q _=>?_,
  λb xs q=>by rw[ν (hm b _ q λz=>z)];show q,λb u xs q=>by rw[ν (hm b _ q λz=>z)];show q,λb ps q=>⟨#[],by rw[ν (hm b _ q λz=>z),q];simp⟩⟩
 by_cases QS:b=e
 ·subst QS;show heo
 ·show⟨u,k b u QS q⟩
end
abbrev trk (h:a9)(H:Hp):-Ν:=(aU h.7).filter λa=>(H a).11
abbrev GH (h:a9)(H:Hp):a9:=W.hideAll h (trk h H)
def Nr (h:a9)(H:Hp):(GH h H).7=h.7:=W.hideAll_size _ _
def Rm (e:h.get? b=!o)(n:H b=none):(GH h H).get? b=!o:=
 W.hideAll_get _ e λhm=>by
  let q:=(cT.mp hm).2;rw[n] at q;simp at q
def Vj (e:(GH h H).get? b=!o):h.get? b=!o/\H b=none:=by
 let e':=W.of_hideAll (trk h H) e;show⟨e',?_⟩;cases q:H b with
 | none=>rfl
 | some x=>
  let hm:b∈trk h H:=cT.mpr ⟨CC.mpr (ύ e'),by simp[q]⟩;let z:(GH h H).get? b=none:=W.hideAll_none (trk h H) hm;rw[z] at e;cases e
structure Mod (K:ζ)(mg:Str->Option Ω)(base:a9):Prop where
 Xl:K.In base
 glob:base.Ns mainGlobals mg
 blt:∃mb,base.Ns builtinsNs mb/\∀x:Str,x ≠ "__name__" -> mb x=bootBuiltins x
 nolimit:base.NoLimit
set_option genInjectivity false in
structure Cx where
 prog:ah
 w:dX
 K:ζ
 mg:Str->Option Ω
 base:a9
 A:sY
 N:-Str
 s₀:ς
 H₀:Hp
 env:Env
 outer:-Env
 stack:-Env
 ex:-Ν
 fn:Str->Bool
 calm:Bool
 pn:-(Ν×Obj)
 xe:Ω->ς->Prop
abbrev Ju (l:-Env):-Ν:=l.filterMap (·.frame)
theorem Cx.fs (X:Cx):-Ν:=Ju X.79
abbrev Vk (sc:rN)(x:Str):Prop:=sc.names.lookup x=!.local\/sc.names.lookup x=!.cell\/sc.names.lookup x=!.free
abbrev Loc (sc:rN)(x:Str):Prop:=sc.names.lookup x=!.local\/sc.names.lookup x=!.cell
abbrev Look (env:Env)(h:a9)(m:Str->Option Ω)(x:Str)(u:Ω):Prop:=
 (env.kindOf x=!.local/\m x=!u)\/((env.kindOf x=!.cell\/env.kindOf x=!.free)/\∃c,env.cells.lookup x=!c/\h.IsCell c (!u))
structure Cx.Ok (X:Cx):Prop where
 mod:Mod X.K X.mg X.49
 kind:X.env.28=.function
 glob:X.55=mainGlobals
 blt:X.env.builtins=builtinsNs
 above:X.s₀.5<=X.14
 inj:∀x y c,X.env.cells.lookup x=!c->X.env.cells.lookup y=!c->x=y
 has:∀x,(X.env.kindOf x=!.cell\/X.env.kindOf x=!.free)->∃c,X.env.cells.lookup x=!c
 cab:∀x c,X.fn x=true->X.env.cells.lookup x=!c->X.s₀.5<=c
 hd:X.43=true->X.A.41=none
 frames:X.A.50=!X.37
 stk:X.37=X.79\/(X.37=X.8::X.79/\X.env.frame=!X.14)
 exf:∀b∈X.ex,b≠X.14/\∀x c,X.env.cells.lookup x=!c->c≠b
 bs:∀b o,X.base.get? b=!o->X.s₀.heap.get? b=!o/\X.H₀ b=none
 Vl:X.base.7<=X.s₀.5
 Jw:∀b o,X.base.get? b=!o->b∉X.ex
 Rn:∀b∈X.ex,b∉X.fs
 wx:X.s₀.heap.FunFrames X.49 X.79
 Xm:∀b∈X.fs,X.H₀ b=none
structure Inv (X:Cx)(pins:-(Ν×Obj))(σ:-(Option V))(H:Hp)(s:ς):Prop where
 ok:X.Ok
 os:s.os=X.s₀.os
 bare:sZ s.69
 base:Un X.fs X.ex X.H₀ H X.s₀.12 s.12
 loc:∃m,s.heap.Ns X.14 m/\∀(i:Nat) (x:Str) (v:V),X.N[i]?=!x->σ[i]?=!some v->Vk X.16 x->∃u,RelV v u/\Look X.8 s.12 m x u
 cell:∀x c,X.env.cells.lookup x=!c->∃v,s.heap.IsCell c v
 free:H X.14=none
 qE:∀x c,X.env.cells.lookup x=!c->H c=none
 pin:∀p∈X.pn++pins,s.heap.get? p.1=!p.2/\H p.1=none/\p.1≠X.14/\p.1∉X.fs/\∀v,p.2.65≠.cell v
 cx:uT X.29 X.w H s.12
 len:σ.4=X.N.4
section
variable {X:Cx} {σ:-(Option V)} {H H':Hp} {s:ς} {h':a9}
def Cx.Ok.agL (ok:X.Ok)(e:X.base.get? b=!o):b∉X.fs:=λhb=>by
 have:=(ok.wx.mem hb).1;rw[e] at this;cases this
def Inv.bs (I:Inv X pins σ H s):∀b o,X.base.get? b=!o->s.heap.get? b=!o/\H b=none:=λb o e=>
 ⟨I.base.keep b o (I.ok.bs b o e).1 (I.ok.bs b o e).2 (I.ok.agL e) (I.ok.Jw b o e),I.base.free b o (I.ok.bs b o e).1 (I.ok.bs b o e).2 (I.ok.Jw b o e)⟩
def Inv.bk (I:Inv X pins σ H s):∀b o,X.base.get? b=!o->s.heap.get? b=!o:=λb o e=>(I.bs b o e).1
def Inv.mod (I:Inv X pins σ H s):Mod X.K X.mg X.49:=I.96
def Inv.wm (I:Inv X pins σ H s):X.K.In s.12:=I.ok.mod.Xl.keeps I.bk
def Inv.lt (I:Inv X pins σ H s):X.14 < s.5:=let ⟨_,hn,_⟩:=I.81;hn.lt
def Inv.sz (I:Inv X pins σ H s):X.s₀.5<=s.5:=ϊ I.51 (xF I.lt)
def Inv.agM (I:Inv X pins σ H s)(h:s.5<=a):a∉X.fs:=λhb=>by
 (show uZ (I.ok.wx.mem hb) λ_=>ay λo ho _=>?_);show absurd (Ϧ (ύ ho) (ϊ I.sz h)) (fP _)
def Inv.YJ (I:Inv X pins σ H s):∀x c,X.env.cells.lookup x=!c->c≠X.14:=λx c e z=>by
 (show zU (I.cell x c e) λv o ho hd=>?_);(show Ϗ I.81 λm ϐ _=>?_;obtain ⟨o',es,ep,Nt,hd',_⟩:=ϐ);rw[z,Nt] at ho;cases ho;rw[hd'] at hd;cases hd
def Inv.wx (I:Inv X pins σ H s):s.heap.FunFrames X.49 X.79:=by
 let all:∀l,(∀b∈Ju l,b∈X.fs)->X.s₀.heap.FunFrames X.49 l->s.heap.FunFrames X.49 l:=by
  intro l
  induction l with
  | nil=>intro _ _;trivial
  | cons env r ih=>
   intro hs hl;(revert hl;show qp λhk ϐ hr=>?_;obtain ⟨L,o,hf,hn,ho,hd⟩:=ϐ);let hL:=hs L (by unfold Ju;rw[ud,hf];show Ϭ);obtain⟨sl,e⟩:=I.base.slot L o ho (I.ok.Xm L hL) hL λz=>I.ok.Rn L z hL;show⟨hk,(fk L _ hf hn e hd),ih (λb hb=>hs b (by unfold Ju;rw[ud,hf];show ψ _ hb)) hr⟩
 show all X.79 (λ_ hb=>hb) I.ok.wx
def Inv.stack (I:Inv X pins σ H s):s.heap.FunFrames X.49 X.37:=by
 rcases I.ok.stk with e | ⟨e,hf⟩
 ·rw[e];show I.wx
 ·rw[e]
  (show Ϗ I.81 λm hn _=>?_);show .cons (by rw[I.39];decide) hf hn (Heap.get?_none_of_le (ϊ I.ok.Vl I.51)) I.wx
def Inv.EK (I:Inv X pins σ H s):∀b∈Ju X.37,b∈X.14::X.fs:=λb hb=>by
 rcases I.ok.stk with e | ⟨e,hf⟩
 ·rw[e] at hb;show ψ _ hb
 ·rw[e] at hb
  unfold Ju at hb;rw[ud,hf] at hb;show hb
def Inv.Md (I:Inv X pins σ H s):∀b∈Ju X.37,H b=none:=λb hb=>by
 rcases Ι.mp (I.EK b hb) with e | hb
 ·rw[e];show I.56
 ·(show uZ (I.ok.wx.mem hb) λ_=>ay λo ho _=>?_)
  show I.base.free b o ho (I.ok.Xm b hb) λz=>I.ok.Rn b z hb
def Inv.step (I:Inv X pins σ H s)
  (UD:∀b∈ch,(b∈X.ex\/X.s₀.5<=b)/\b≠X.14/\(∀x c,X.env.cells.lookup x=!c->c≠b)/\∀p∈X.pn++pins,p.1≠b)
  (keep:∀b o,b≠X.14->b∉X.fs->b∉ch->s.heap.get? b=!o->H b=none->h'.get? b=!o)
  (slot:∀b o,b≠X.14->b∈X.fs->b∉ch->s.heap.get? b=!o->H b=none->∃sl,h'.get? b=some { o with slots:=sl }) (free:∀b o,b∉ch->s.heap.get? b=!o->H b=none->H' b=none)
  (there:∀b o,b∉ch->s.heap.get? b=!o->∃o',h'.get? b=!o')
  (GF:∀b xs,H b=!.tup xs->H' b=!.tup xs) (EJ:∀b o u,H b=!.Nq o u->H' b=!.Nq o u) (GG:∀b ps,H b=!.YH ps->∃more,H' b=!.YH (ps++more))
  (ns:∀m,s.heap.Ns X.14 m->h'.Ns X.14 m) (cx:uT X.29 X.w H' h') (hg:sZ g') :
  Inv X pins σ H' { s with heap:=h',gens:=g',drawn:=d',toks:=t' }:=by
 let neL:∀b o,X.s₀.heap.get? b=!o->b≠X.14:=λb o e=>Ϫ (Ϧ (ύ e) I.51);let neC:∀b o,X.s₀.heap.get? b=!o->b∉X.ex->b∉ch:=λb o e hx hb=>by
  rcases(UD b hb).1 with z | z
  ·show hx z
  ·show absurd (Ϧ (ύ e) z) (fP _)
 let cellK:∀x c,X.env.cells.lookup x=!c->∀v,s.heap.IsCell c v->h'.IsCell c v:=λx c e v η=>Ϗ η λo ho hd=>by
  let nch:=λz=>(UD c z).2.2.1 x c e rfl
  by_cases hc:c∈X.fs
  ·obtain⟨sl,q⟩:=slot c o (I.YJ x c e) hc nch ho (I.qE x c e)
   show(δ _ q hd)
  ·show(δ o (keep c o (I.YJ x c e) hc nch ho (I.qE x c e)) hd)
 show⟨I.ok,I.os,hg,⟨λb o e n hb hx=>?_,λb o e n hb hx=>?_,λb o e n hx=>?_,λb o e hx=>?_,λb xs e=>GF b xs (I.base.GF b xs e),λb o xs e=>EJ b o xs (I.base.EJ b o xs e),λb ps e=>?_⟩,?_,λx c e=>?_,?_,λx c e=>?_,λp hp=>?_,cx,I.26⟩
 ·show keep b o (neL b o e) hb (neC b o e hx) (I.base.keep b o e n hb hx) (I.base.free b o e n hx)
 ·obtain⟨sl,e1⟩:=I.base.slot b o e n hb hx
  obtain⟨sl',e2⟩:=slot b _ (neL b o e) hb (neC b o e hx) e1 (I.base.free b o e n hx);show⟨sl',e2⟩
 ·obtain⟨o',e1⟩:=I.base.there b o e hx
  show free b o' (neC b o e hx) e1 (I.base.free b o e n hx)
 ·obtain⟨o',e1⟩:=I.base.there b o e hx
  show there b o' (neC b o e hx) e1
 ·obtain⟨m1,e1⟩:=I.base.GG b ps e
  obtain⟨m2,e2⟩:=GG b _ e1;show⟨m1++m2,by rw[e2,Array.append_assoc]⟩
 ·(show Ϗ I.81 λm hn hl=>?_)
  show(δ m (ns m hn) (λi x v e1 e2 e3=>?_));(show Ϗ (hl i x v e1 e2 e3) λu r l=>?_);show(δ u r ?_);rcases l with l | ⟨k,c,e,z⟩
  ·show .inl l
  ·show .inr ⟨k,(δ c e (cellK x c e _ z))⟩
 ·obtain⟨v,z⟩:=I.cell x c e
  show⟨v,cellK x c e v z⟩
 ·(show Ϗ I.81 λm ϐ _=>?_;obtain ⟨o,_,_,ho,_⟩:=ϐ)
  show free _ o (λz=>(UD _ z).2.1 rfl) ho I.56
 ·(show zU (I.cell x c e) λv o ho hd=>?_)
  show free c o (λz=>(UD c z).2.2.1 x c e rfl) ho (I.qE x c e)
 ·(show Vg (I.pin p hp) λe n ne nf d=>?_)
  let nch:=λz=>(UD p.1 z).2.2.2 p hp rfl;show⟨keep p.1 p.2 ne nf nch e n,free p.1 p.2 nch e n,ne,nf,d⟩
def Inv.un (I:Inv X pins σ H s)(u:Un X.fs [] H H' s.12 h')(cx:uT X.29 X.w H' h'):Inv X pins σ H' { s with heap:=h',toks:=t' }:=by
 (show Ϗ (id I.81) λm ϐ _=>?_;obtain ⟨o,es,ep,ho,r⟩:=ϐ);obtain⟨sl,hL⟩:=u.any ho I.56 ∅
 show I.step (ch:=[]) (λ_ z=>nomatch z) (λb o _ hb _ e n=>u.keep b o e n hb ∅) (λb o _ hb _ e n=>u.slot b o e n hb ∅) (λb o _ e n=>u.free b o e n ∅) (λb o _ e=>u.there b o e ∅) u.GF u.EJ u.GG (λm' hm=>by
  (revert hm;show GB λo' es' ep' Nt r'=>?_);rw[ho] at Nt;cases Nt
  show(GC _ es' ep' hL r')) cx I.52
def Inv.call (I:Inv X pins σ H s)(u:Un (Ju X.37) ch H H' s.12 h')(cx:uT X.29 X.w H' h')(hg:sZ g')
  (UD:∀b∈ch,(b∈X.ex\/X.s₀.5<=b)/\b≠X.14/\(∀x c,X.env.cells.lookup x=!c->c≠b)/\∀p∈X.pn++pins,p.1≠b) :
  Inv X pins σ H' { s with heap:=h',gens:=g',drawn:=d',toks:=t' }:=by
 (show Ϗ (id I.81) λm ϐ _=>?_;obtain ⟨o,es,ep,ho,r⟩:=ϐ);obtain⟨sl,hL⟩:=u.any ho I.56 λz=>(UD _ z).2.1 rfl
 show I.step UD (λb o hL hb hc e n=>u.keep b o e n (λz=>(Ι.mp (I.EK b z)).elim hL hb) hc) (λb o _ _ hc e n=>u.any e n hc) (λb o hc e n=>u.free b o e n hc) (λb o hc e=>u.there b o e hc) u.GF u.EJ u.GG (λm' hm=>by
  (revert hm;show GB λo' es' ep' Nt r'=>?_);rw[ho] at Nt;cases Nt
  show(GC _ es' ep' hL r')) cx hg
def Inv.turned {it:Ν}(I:Inv X pins σ H s)(k:∀b o,b≠it->s.heap.get? b=!o->h'.get? b=!o)(hn:H it=none)(hL:it≠X.14)
  (h1:it∈X.ex\/X.s₀.5<=it) (h2:∀x c,X.env.cells.lookup x=!c->c≠it) (h3:∀p∈X.pn++pins,p.1≠it):Inv X pins σ H { s with heap:=h',toks:=t' }:=by
 let nit:∀b u,H b=!u->b≠it:=λb u e z=>by rw[z,hn] at e;cases e
 show I.step (ch:=[it]) (λb hb=>?_) (λb o _ _ hc e _=>k b o (λz=>hc (by simp[z])) e) (λb o _ _ hc e _=>⟨o.68,k b o (λz=>hc (by simp[z])) e⟩) (λ_ _ _ _ n=>n)
  (λb o hc e=>⟨o,k b o (λz=>hc (by simp[z])) e⟩) (λ_ _ e=>e) (λ_ _ _ e=>e) (λb ps e=>⟨#[],by rw[e];simp⟩) (λm hm=>?_) (λb u e=>?_) I.52
 ·let e:b=it:=by simpa using hb
  subst e;show⟨h1,hL,h2,h3⟩
 ·(revert hm;show GB λo es ep ho r=>?_)
  show(GC o es ep (k _ o (ό hL) ho) r)
 ·show(I.cx b u e).Jt (λc v hc q=>k c v ?_ q) (λ_ q=>q) λ_ _ q=>q
  rcases hc with z | z
  ·rw[z];show nit b u e
  ·show nit c _ z
def Inv.tok (I:Inv X pins σ H s)(t:Nat):Inv X pins σ H { s with toks:=t }:=I.un Un.refl I.cx
def Inv.kept (I:Inv X pins σ H s)(k:∀b u,s.heap.get? b=!u->h'.get? b=!u):Inv X pins σ H { s with heap:=h',toks:=t' }:=I.un (Un.kept k) (I.cx.kept k)
def Inv.laid (I:Inv X pins σ H s)(k:∀b u,s.heap.get? b=!u->h'.get? b=!u)(hp:s.5<=a)(new:fW X.29 X.w (upd H a o) h' a o) :
  Inv X pins σ (upd H a o) { s with heap:=h',toks:=t' }:=I.un (Un.laid k hp (I.cx.fresh hp)) (I.cx.laid k hp new)
def Inv.write {x e:Ν}(I:Inv X pins σ H s)(mu:Mut (H x))(he:e=x\/H e=!.own x)(k:∀b u,b≠e->s.heap.get? b=!u->h'.get? b=!u)(heo:∃u,h'.get? e=!u)
  (new:fW X.29 X.w (upd H x o) h' x o):Inv X pins σ (upd H x o) { s with heap:=h',toks:=t' }:=I.un (Un.write mu he k heo) (I.cx.write mu he k heo new)
def Inv.Me (I:Inv X pins σ H s)(h:∀p∈acx,s.heap.get? p.1=!p.2/\H p.1=none/\p.1≠X.14/\p.1∉X.fs/\∀v,p.2.65≠.cell v):Inv X acx σ H s:=
 ⟨I.ok,I.os,I.52,I.49,I.81,I.97,I.56,I.qE,λp hp=>(Ο.mp hp).elim (λz=>I.pin p (Φ _ z)) (h p),I.cx,I.26⟩
def GI {N:-Str}(hN:N.13)(a:N[i]?=!x)(b:N[j]?=!x):i=j:=by
 obtain⟨h1,e1⟩:=Α.mp a;obtain⟨h2,e2⟩:=Α.mp b;show(List.getElem_inj hN).mp (e1.trans e2.17)
theorem Cx.fnl (X:Cx)(x:Str):Prop:=X.fn x=true\/X.env.scope.names.lookup x=!.local
def Nu (I:Inv X pins σ H s)(hN:X.N.13)(hi:X.N[i]?=!x)(hx:Loc X.16 x)(r:RelV v u)
  (h:∀s',Inv X pins (σ.set i (!v)) H s'->(∃a,ql a s.12 s'.12/\(a=X.14\/X.env.cells.lookup x=!a))->Q Unit.unit s') (hf:autoParam (X.fnl x) L2.Nm._auto_1):wpAny M A (storeName X.8 x u) Q E s:=by
 (show Ϗ (id I.81) λm hn hl=>?_);let agP:(X.env.28 == .class || (X.env.28 == .module && X.env.locals != X.55))=false:=by rw[I.39];rfl
 let ajF:i < σ.4:=by rw[I.26];show(Α.mp hi).1
 let YJ:=I.YJ;let tracked:∀{a:Ν} {h':a9},(∃o,s.heap.get? a=!o/\H a=none)->ql a s.12 h'->uT X.29 X.w H h':=λ{a h'} ha hs b ob e=>by
  (revert ha;show ay λ_ _ xL=>?_);show(I.cx b ob e).Jt (λc w' hc q=>(hs.2 c ?_).trans q) (λ_ q=>q) λ_ _ q=>q
  rintro rfl
  rcases hc with rfl | hc
  ·rw[xL] at e;cases e
  ·rw[xL] at hc;cases hc
 rcases hx with hk | hk
 ·show wpAny_storeName_local hk hn (λh' hn' hs=>?_) agP
  (show agC (id hn) λoL _ _ hoL _=>?_);show h _ ⟨I.ok,I.os,I.52,⟨λb o e n hb hx=>?_,λb o e n hb hx=>?_,I.base.56,λb o e hx=>?_,I.base.GF,I.base.EJ,I.base.GG⟩,(δ _ hn' (λj y v' e1 e2 e3=>?_)),λy c e=>?_,I.56,I.qE,λp hp=>?_,tracked (δ oL hoL I.56) hs,by simpa using I.26⟩ (δ _ hs (.inl rfl))
  ·show(hs.2 b (Ϫ (Ϧ (ύ e) I.51))).trans (I.base.keep b o e n hb hx)
  ·obtain⟨sl,e1⟩:=I.base.slot b o e n hb hx
   show⟨sl,(hs.2 b (Ϫ (Ϧ (ύ e) I.51))).trans e1⟩
  ·obtain⟨o',e1⟩:=I.base.there b o e hx
   show⟨o',(hs.2 b (Ϫ (Ϧ (ύ e) I.51))).trans e1⟩
  ·by_cases hj:j=i
   ·subst hj
    rw[hi] at e1;cases e1;rw[ar ajF] at e2;cases e2;show(δ u r (.inl ⟨hk,∅⟩))
   ·rw[ak (ό hj)] at e2
    (show Ϗ (hl j y v' e1 e2 e3) λu' r' q=>?_);show(δ u' r' ?_);rcases q with⟨k,e⟩ | ⟨k,c,e,z⟩
    ·show .inl ⟨k,?_⟩
     have:y≠x:=λe=>hj (GI hN e1 (e▸hi));simp[this,e]
    ·show .inr ⟨k,(δ c e (z.sameBut hs (YJ y c e)))⟩
  ·obtain⟨w',z⟩:=I.cell y c e
   show⟨w',z.sameBut hs (YJ y c e)⟩
  ·(show Vg (I.pin p hp) λe n ne nf d=>?_)
   show⟨(hs.2 p.1 ne).trans e,n,ne,nf,d⟩
 ·let hfn:X.fn x=true:=by
   rcases hf with z | z
   ·show z
   ·rw[z] at hk;cases hk
  obtain⟨c,hc⟩:=I.ok.has x (.inl hk);obtain⟨w',z⟩:=I.cell x c hc;show wpAny_storeName_cell I.39 hk hc z (λh' Gm hs=>?_);(show Ϗ (id z) λoc hoc agR=>?_);show h { s with heap:=h' } ⟨I.ok,I.os,I.52,⟨λb o e n hb hx=>?_,λb o e n hb hx=>?_,I.base.56,λb o e hx=>?_,I.base.GF,I.base.EJ,I.base.GG⟩,(δ m (hn.sameBut hs (ό (YJ x c hc))) (λj y v' e1 e2 e3=>?_)),λy c' e=>?_,I.56,I.qE,λp hp=>?_,tracked (δ oc hoc (I.qE x c hc)) hs,by simpa using I.26⟩ (δ c hs (.inr hc))
  ·show(hs.2 b (Ϫ (Ϧ (ύ e) (I.ok.cab x c hfn hc)))).trans (I.base.keep b o e n hb hx)
  ·obtain⟨sl,e1⟩:=I.base.slot b o e n hb hx
   show⟨sl,(hs.2 b (Ϫ (Ϧ (ύ e) (I.ok.cab x c hfn hc)))).trans e1⟩
  ·obtain⟨o',e1⟩:=I.base.there b o e hx
   show⟨o',(hs.2 b (Ϫ (Ϧ (ύ e) (I.ok.cab x c hfn hc)))).trans e1⟩
  ·by_cases hj:j=i
   ·subst hj
    rw[hi] at e1;cases e1;rw[ar ajF] at e2;cases e2;show(δ u r (.inr ⟨.inl hk,(δ c hc Gm)⟩))
   ·rw[ak (ό hj)] at e2
    (show Ϗ (hl j y v' e1 e2 e3) λu' r' q=>?_);show(δ u' r' ?_);rcases q with q | ⟨k,c',e,z'⟩
    ·show .inl q
    ·show .inr ⟨k,(δ c' e (z'.sameBut hs ?_))⟩
     rintro rfl
     show hj (GI hN e1 (I.ok.inj _ _ _ e hc▸hi))
  ·by_cases hcc:c'=c
   ·subst hcc;show⟨_,Gm⟩
   ·obtain⟨w2,z2⟩:=I.cell y c' e
    show⟨w2,z2.sameBut hs hcc⟩
  ·(show Vg (I.pin p hp) λe n ne nf d=>?_)
   show⟨(hs.2 p.1 ?_).trans e,n,ne,nf,d⟩;intro q;rw[q,hoc] at e;show d w' (by rw[<-(ϲ e)];show agR)
def zV (I:Inv X pins σ H s)(hN:X.N.13)(hi:X.N[i]?=!x)(hx:Loc X.16 x)(r:RelV v u)
  (h:∀s',Inv X pins (σ.set i (!v)) H s'->Q Unit.unit s') (hf:autoParam (X.fnl x) L2.Nm._auto_1):wpAny M A (storeName X.8 x u) Q E s:=
 Nu I hN hi hx r (λs' I' _=>h s' I') hf
def Inv.acy (I:Inv X pins σ H s)(ho:s'.os=s.os)(u:Un (Ju X.37) ch H H' s.12 s'.12)(cx:uT X.29 X.w H' s'.12)(hg:sZ s'.69)
  (UD:∀b∈ch,(b∈X.ex\/X.s₀.5<=b)/\b≠X.14/\(∀x c,X.env.cells.lookup x=!c->c≠b)/\∀p∈X.pn++pins,p.1≠b):Inv X pins σ H' s':=by
 obtain⟨h',g',d',t',o'⟩:=s';let e:=ho;subst e;show I.call u cx hg UD
end
noncomputable abbrev XK:=Ω->Option Ν->Hp->Prop
noncomputable abbrev St:=-(Option V)
noncomputable abbrev VK:=V->Hp->Prop
noncomputable abbrev TE:=St->Hp->VK->Prop
noncomputable abbrev TT:=St->Hp->(Bool->Hp->Prop)->Prop
noncomputable abbrev TA:=St->Hp->(-V->Hp->Prop)->Prop
structure Ends where
 nx:St->Hp->Prop
 rt:VK
 bk:St->Hp->Prop:=λ_ _=>False
 ct:St->Hp->Prop:=λ_ _=>False
noncomputable abbrev TS:=Ends->St->Hp->Prop
abbrev EP (X:Cx)(pins:-(Ν×Obj))(σ:St)(Q:VK)(u:Ω)(s':ς):Prop:=∃v H',Inv X pins σ H' s'/\RelV v u/\Q v H'
abbrev TP (X:Cx)(pins:-(Ν×Obj))(σ:St)(Q:Bool->Hp->Prop)(b:Bool)(s':ς):Prop:=∃H',Inv X pins σ H' s'/\Q b H'
abbrev AP (X:Cx)(pins:-(Ν×Obj))(σ:St)(Q:-V->Hp->Prop)(us:-Ω)(s':ς):Prop:=∃vs H',Inv X pins σ H' s'/\Vals vs us/\Q vs H'
abbrev SP (X:Cx)(pins:-(Ν×Obj))(D:Ends)(f:Flow)(s':ς):Prop:=
 match f with
 | .next=>∃σ' H',Inv X pins σ' H' s'/\D.nx σ' H'
 | .brk=>∃σ' H',Inv X pins σ' H' s'/\D.bk σ' H'
 | .cont=>∃σ' H',Inv X pins σ' H' s'/\D.ct σ' H'
 | .ret u=>∃v σ' H',Inv X pins σ' H' s'/\RelV v u/\D.rt v H'
noncomputable abbrev Cx.mo (X:Cx):=model X.29 X.w
abbrev PE (X:Cx)(e:bS)(t:TE):Prop:=
 ∀pins s σ H Q,Inv X pins σ H s->t σ H Q->wpAny X.mo X.A (eval e X.8) (EP X pins σ Q) X.xe s
abbrev PT (X:Cx)(e:bS)(t:TT):Prop:=
 ∀pins s σ H Q,Inv X pins σ H s->t σ H Q->wpAny X.mo X.A (isTrue e X.8 (eval e X.8)) (TP X pins σ Q) X.xe s
abbrev PW (X:Cx)(e:bS)(t:TT):Prop:=
 ∀whole pins s σ H Q,Inv X pins σ H s->t σ H Q->wpAny X.mo X.A (isTrue e X.8 whole) (TP X pins σ Q) X.xe s
def PW.pt {t:TT}(h:PW X e t):PT X e t:=h _
abbrev PA (X:Cx)(es:-bS)(t:TA):Prop:=
 ∀pos pins s σ H Q,Inv X pins σ H s->t σ H Q->wpAny X.mo X.A (spliced (backTo pos (starEach es X.8))) (AP X pins σ Q) X.xe s
abbrev PS (X:Cx)(st:ϩ)(t:TS):Prop:=
 ∀pins s σ H D,Inv X pins σ H s->t D σ H->wpAny X.mo X.A (exec st X.8) (SP X pins D) X.xe s
abbrev Je (X:Cx)(st:-ϩ)(t:TS):Prop:=
 ∀pins s σ H D,Inv X pins σ H s->t D σ H->wpAny X.mo X.A (execs st X.8) (SP X pins D) X.xe s
def iZ {t:Sem α}(h:wpAny M A t Q E s)(hQ:∀a s,Q a s->Q' a s):wpAny M A t Q' E s:=fV h hQ λ_ _ x=>x
def dM {t:Sem Ω}(h:wpAny M A t (EP X pins σ Q) E s)(hQ:∀u s' v H',Inv X pins σ H' s'->RelV v u->Q v H'->Q' u s'):wpAny M A t Q' E s:=fV h (λu s' η=>kf η λv H' I r q=>hQ u s' v H' I r q) λ_ _ x=>x
def zW {t:Sem (-Ω)}(h:wpAny M A t (AP X pins σ Q) E s)(hQ:∀u s' v H',Inv X pins σ H' s'->Vals v u->Q v H'->Q' u s'):wpAny M A t Q' E s:=fV h (λu s' η=>kf η λv H' I r q=>hQ u s' v H' I r q) λ_ _ x=>x
section
variable {X:Cx}
abbrev YK (x:V)(R:Ν->Prop):Prop:=match x with | .ref a=>R a | _=>False
def onRr :YK (.ref a) R=R a:=rfl
def agS {x:V}:YK x R=∃a,x=.ref a/\R a:=by
 cases x<;>simp[YK]
def EL {x:V}(h:YK x R):∃a,x=.ref a/\R a:=agS▸h
abbrev onB (x:V)(R:Bool->Prop):Prop:=match x with | .bl a=>R a | _=>False
def onBb {a:Bool}:onB (.bl a) R=R a:=rfl
def agT {x:V}:onB x R=∃a,x=.bl a/\R a:=by
 cases x<;>simp[onB]
def zX {x:V}(h:onB x R):∃a,x=.bl a/\R a:=agT▸h
abbrev Vm (x:V)(R:Int->Prop):Prop:=match x with | .int a=>R a | _=>False
def onIi {a:Int}{R:Int->Prop}:Vm (.int a) R=R a:=rfl
def alJ {x:V}:Vm x R=∃a,x=.int a/\R a:=by cases x<;>simp[Vm]
def kF {x:V}(h:Vm x R):∃a,x=.int a/\R a:=by
 match x,h with | .int a,h=>show(δ a rfl h)
abbrev UE (x:V)(R:Str->Prop):Prop:=match x with | .str a=>R a | _=>False
def onSs {a:Str}:UE (.str a) R=R a:=rfl
def alK {x:V}:UE x R=∃a,x=.str a/\R a:=by cases x<;>simp[UE]
def mR {x:V}(h:UE x R):∃a,x=.str a/\R a:=by
 match x,h with | .str a,h=>show(δ a rfl h)
def alL {α β:Type _}{f:α->β}{a:α}{l:-α}:so f (a::l)=f a::so f l:=rfl
def alM {α β:Type _}{f:α->β}:so f []=[]:=rfl
abbrev zY:Nat->St->Hp->VK->Prop
 | 0,some v::_,H,Q=>Q v H
 | 0,none::_,_,_=>False
 | n+1,_::r,H,Q=>zY n r H Q
 | _,[],_,_=>False
def tV0 {r:St}:zY 0 (some v::r) H Q=Q v H:=rfl
def tVs {x:Option V}{r:St}:zY (n+1) (x::r) H Q=zY n r H Q:=rfl
def Mf:∀{i:Nat} {σ:St} {H:Hp} {Q:VK},zY i σ H Q->∃v,σ[i]?=!some v/\Q v H
 | 0,some v::_,_,_,h=>(δ v rfl h)
 | 0,none::_,_,_,h=>h.38
 | n+1,_::r,_,_,h=>let ⟨v,e,q⟩:=Mf (i:=n) (σ:=r) h;(δ v (by simpa using e) q)
 | 0,[],_,_,h=>h.38
 | _+1,[],_,_,h=>h.38
abbrev tC (v:V):TE:=λ_ H Q=>Q v H
theorem EM (x:Str):Prop:=(x == ("__debug__":Str))=false
theorem Cdt (x:Str):Prop:=(x == ("__classdict__":Str))=false
def YL (hN:X.N[i]?=!x)(hv:Vk X.16 x)(hd:autoParam (EM x) L2.fR._auto_1)(zq:autoParam (Cdt x) L2.fR._auto_1):PE X (.Name x pos) (zY i):=by
 intro pins s σ H Q I h;(show Ϗ (Mf h) λv e h=>?_);(show Ϗ I.81 λm hn hl=>?_);(show Ϗ (hl i x v hN e hv) λu r l=>?_);let fin:EP X pins σ Q u s:=(ϧ v H I r h)
 rcases l with⟨hk,hm⟩ | ⟨hk,c,hc,Dy⟩
 ·show Xb (Us I.39 hk hn hm fin) hd
 ·rcases hk with hk | hk
  ·show Xb (U2 I.39 hk hc Dy fin) hd
  ·show Xb (wpAny_loadName_free I.39 hk hc Dy fin zq) hd
def π {i j pos}:PE X (.Constant (.int i) j pos) (tC (.int i)):=λ_ _ _ H _ I h=>wpAny_Constant_int (ϧ (.int i) H (I.tok _) ⟨_,rfl⟩ h)
def qF {b j pos}:PE X (.Constant (.bool b) j pos) (tC (.bl b)):=λ_ _ _ H _ I h=>Constant_bool (ϧ (.bl b) H I rfl h)
def uh {j pos}:PE X (.Constant .none j pos) (tC .bM):=λ_ _ _ H _ I h=>LY (ϧ (.bM) H I rfl h)
def ο {x j pos}:PE X (.Constant (.str x) j pos) (tC (.str x)):=λ_ _ _ H _ I h=>uS (ϧ (.str x) H (I.tok _) ⟨_,rfl⟩ h)
abbrev Gl (X:Cx)(x:Str):Prop:=X.env.kindOf x=!.globalImplicit
def zr (I:Inv X pins σ H s)(hg:Gl X x)(hm:X.mg x=!u)(h:Q u s)
  (hd:autoParam (EM x) L2.fR._auto_1):wpAny X.mo X.A (eval (.Name x pos) X.8) Q E s:=
 Cs I.39 hg (Calls.loadGlobal_global (by rw[I.90];show I.mod.glob.keeps I.bk) hm h) hd
def kG (I:Inv X pins σ H s)(hg:Gl X x)(hm:X.mg x=none)(hv:bootBuiltins x=!u)(h:Q u s)
  (hn:autoParam (x ≠ "__name__") L2.fR._auto_1) (hd:autoParam (EM x) L2.fR._auto_1):wpAny X.mo X.A (eval (.Name x pos) X.8) Q E s:=by
 (show Ϗ I.mod.blt λmb h1 h2=>?_);show Cs I.39 hg (Calls.loadGlobal_builtin (by rw[I.90];show I.mod.glob.keeps I.bk) hm (by rw[I.ok.blt];show h1.keeps I.bk) ((h2 x hn).trans hv) h) hd
def EN (hg:Gl X x)(hm:X.mg x=!u)(r:RelV v u)(hd:autoParam (EM x) L2.fR._auto_1):PE X (.Name x pos) (tC v):=
 λ_ _ _ H _ I h=>zr I hg hm (ϧ v H I r h) hd
def kg (hg:Gl X x)(hm:X.mg x=none)(hv:bootBuiltins x=!u)(r:RelV v u)(hn:autoParam (x ≠ "__name__") L2.fR._auto_1)(hd:autoParam (EM x) L2.fR._auto_1):PE X (.Name x pos) (tC v):=
 λ_ _ _ H _ I h=>kG I hg hm hv (ϧ v H I r h) hn hd
variable {a b:bS} {ta tb:TE} 
abbrev PC (X:Cx)(op:CmpOp)(a b:bS)(t:TE):Prop:=
 ∀pins s σ H Q,Inv X pins σ H s->t σ H Q->
  wpAny X.mo X.A (eval a X.8) (λv s₁=>wpAny X.mo X.A (eval b X.8) (λu s₂=>wpAny X.mo X.A (compareOp op v u) (EP X pins σ Q) X.xe s₂) X.xe s₁) X.xe s
def Rk (b:bS)(h:op≠.In)(h2:op≠.NotIn):behindInMarks op b=false:=by
 let e1:(op == aeW)=false:=by cases op<;>first | rfl | show absurd rfl h
 let e2:(op == Ys)=false:=by cases op<;>first | rfl | show absurd rfl h2
 cases b<;>simp[behindInMarks,e1,e2]
abbrev agU (ta:TE):TE:=λσ H Q=>ta σ H λx H1=>Q (.bl (decide (x=.bM))) H1
abbrev acz (ta:TE):TE:=λσ H Q=>ta σ H λx H1=>Q (.bl (!((decide (x=.bM))))) H1
def RelV.GJ {x:V}(r:RelV x v):(v == Cq)=decide (x=.bM):=by
 cases x with
 | bM=>cases r;rfl
 | bl _=>cases r;rfl
 | int _=>obtain⟨t,rfl⟩:=r;rfl
 | str _=>obtain⟨t,rfl⟩:=r;rfl
 | Jd _=>obtain⟨t,rfl⟩:=r;rfl
 | Vi _=>obtain⟨t,rfl⟩:=r;rfl
 | ref _=>cases r;rfl
 | ty _=>cases r;rfl
def Jx {j pos'}(ha:PE X a ta):PC X .Is a (.Constant .none j pos') (agU ta):=by
 intro pins s σ H Q I h;show dM (ha pins s σ H _ I h) λv s1 x H1 I1 r1 q1=>LY (is_none_gen (ϧ (.bl _) H1 I1 (by rw[r1.GJ];rfl) q1))
def EO {j pos'}(ha:PE X a ta):PC X .IsNot a (.Constant .none j pos') (acz ta):=by
 intro pins s σ H Q I h;show dM (ha pins s σ H _ I h) λv s1 x H1 I1 r1 q1=>LY (isnot_none_gen (ϧ (.bl _) H1 I1 (by rw[r1.GJ];rfl) q1))
abbrev tB (t:TE):TT:=λσ H Q=>t σ H λx H1=>∃c,x=.bl c/\Q c H1
def YM {t:TE}(h:PC X op a b t)(h1:autoParam (behindInMarks op b=false) L2.acn._auto_1):PE X (.Compare a [op] [b] pos) t:=λpins s σ H Q I hw=>aeX (h pins s σ H Q I hw) h1
def zZ {t:TE}(h:PC X op a b t)(h1:autoParam (behindInMarks op b=false) L2.acn._auto_1):PT X (.Compare a [op] [b] pos) (tB t):=by
 intro pins s σ H Q I hw;show Rc (iZ (h pins s σ H _ I hw) λv s1 h1=>iZ h1 λu s2 h2=>iZ h2 λc s3 η=>kf η λx H1 I1 r1 q1=>?_) h1;(revert q1;show ay λd ϐ q=>?_;subst ϐ);cases r1;show cv (δ H1 I1 q)
variable {tA tB':TT} {rest:-bS}
abbrev agV (t u:TT):TT:=λσ H Q=>t σ H λc H1=>if c=true then u σ H1 Q else Q false H1
abbrev tOr (t u:TT):TT:=λσ H Q=>t σ H λc H1=>if c=true then Q true H1 else u σ H1 Q
abbrev agW (t:TT):TT:=λσ H Q=>t σ H λc H1=>Q (!((c))) H1
def pw_and1 (ha:PT X a tA):PW X (.BoolOp .And [a] pos) tA:=by
 intro wh pins s σ H Q I h;show aor (iZ (ha pins s σ H Q I h) λc s1 e=>?_);cases c with
 | true=>show isTrue_and_nil e
 | false=>show e
def pw_or1 (ha:PT X a tA):PW X (.BoolOp .Or [a] pos) tA:=by
 intro wh pins s σ H Q I h;show apN (iZ (ha pins s σ H Q I h) λc s1 e=>?_);cases c with
 | false=>show isTrue_or_nil e
 | true=>show e
def pw_and (ha:PT X a tA)(hb:PW X (.BoolOp .And (b::rest) pos) tB'):PW X (.BoolOp .And (a::b::rest) pos) (agV tA tB'):=by
 intro wh pins s σ H Q I h;show aor (iZ (ha pins s σ H _ I h) λc s1 η=>Ϗ η λH1 I1 q1=>?_);cases c with
 | true=>show hb wh pins s1 σ H1 Q I1 q1
 | false=>show(δ H1 I1 q1)
def pw_or (ha:PT X a tA)(hb:PW X (.BoolOp .Or (b::rest) pos) tB'):PW X (.BoolOp .Or (a::b::rest) pos) (tOr tA tB'):=by
 intro wh pins s σ H Q I h;show apN (iZ (ha pins s σ H _ I h) λc s1 η=>Ϗ η λH1 I1 q1=>?_);cases c with
 | true=>show(δ H1 I1 q1)
 | false=>show hb wh pins s1 σ H1 Q I1 q1
def iB (ha:PT X a tA):PT X (.UnaryOp .Not a pos) (agW tA):=by
 intro pins s σ H Q I h;show isTrue_not (ha pins s σ H (λc H1=>Q (!((c))) H1) I h)
abbrev acB (ta tb:TE):TE:=λσ H Q=>ta σ H λx H1=>∃c,x=.bl c/\if c=true then tb σ H1 Q else Q (.bl false) H1
abbrev acC (ta:TE):TE:=λσ H Q=>ta σ H λx H1=>∃c,x=.bl c/\Q (.bl (!((c)))) H1
def mS {op}{t:TE}(h:PE X a t):PE X (.BoolOp op [a] pos) t:=λpins s σ H Q I hw=>BoolOp_one (h pins s σ H Q I hw)
def jL (ha:PE X a ta)(hb:PE X (.BoolOp .And (b::rest) pos) tb):PE X (.BoolOp .And (a::b::rest) pos) (acB ta tb):=by
 intro pins s σ H Q I h;show BoolOp_and (dM (ha pins s σ H _ I h) λv s1 x H1 I1 r1 q1=>?_);(revert q1;show ay λc ϐ q1=>?_;subst ϐ);cases r1;show cv ?_;cases c with
 | true=>show hb pins s1 σ H1 Q I1 q1
 | false=>show(ϧ (.bl false) H1 I1 rfl q1)
def YN (ha:PE X a ta):PE X (.UnaryOp .Not a pos) (acC ta):=by
 intro pins s σ H Q I h;show UnaryOp_ (dM (ha pins s σ H _ I h) λv s1 x H1 I1 r1 q1=>?_);(revert q1;show ay λc ϐ q1=>?_;subst ϐ);cases r1;show not_of (cv (ϧ (.bl (!((c)))) H1 I1 rfl q1))
abbrev tIf (t:TT)(ta tb:TE):TE:=λσ H Q=>t σ H λc H1=>if c=true then ta σ H1 Q else tb σ H1 Q
def qG (hc:PT X c tA)(ha:PE X a ta)(hb:PE X b tb):PE X (.IfExp c a b pos) (tIf tA ta tb):=by
 intro pins s σ H Q I h;show wpAny_IfExp (iZ (hc pins s σ H _ I h) λd s1 η=>Ϗ η λH1 I1 q1=>?_);cases d with
 | true=>show ha pins s1 σ H1 Q I1 q1
 | false=>show hb pins s1 σ H1 Q I1 q1
end
abbrev fK (K:ζ)(H:Hp)(a:Ν)(xs:-V):Prop:=
 Rd H a (.lst xs)\/
  ∃o bn n,K.lookup a=!o/\o.98=.type "list" /\ o.59=none/\o.65=.seq bn n/\bn.75<=sizeLine/\Vals xs bn.34
abbrev iV (K:ζ)(H:Hp)(a:Ν)(xs:-V):Prop:=
 Rd H a (.tup xs)\/
  ∃o bn n,K.lookup a=!o/\o.98=.type "tuple" /\ o.65=.seq bn n/\bn.75<=sizeLine/\Vals xs bn.34
abbrev agX:Ω->Option V
 | .none=>!.bM
 | .bool b=>!.bl b
 | .int i _=>!.int i
 | .str x _=>!.str x
 | .bytes b _=>!.Jd b
 | .float b _=>!.Vi b
 | .ref a=>!.ref a
 | .type n=>!.ty n
 | _=>none
def RelV.abs {x:V}(r:RelV x u):agX u=!x:=by
 cases x with
 | bM=>cases r;rfl
 | bl _=>cases r;rfl
 | int _=>obtain⟨t,rfl⟩:=r;rfl
 | str _=>obtain⟨t,rfl⟩:=r;rfl
 | Jd _=>obtain⟨t,rfl⟩:=r;rfl
 | Vi _=>obtain⟨t,rfl⟩:=r;rfl
 | ref _=>cases r;rfl
 | ty _=>cases r;rfl
def RelV.inj {x y:V}(r:RelV x u)(q:RelV y u):x=y:=ϲ (r.abs.symm.trans q.abs)
def Vals.inj {xs ys:-V}{us:-Ω}(r:Vals xs us)(q:Vals ys us):xs=ys:=by
 induction r generalizing ys with
 | nil=>cases q;rfl
 | cons r t ih=>cases q with | cons r' t'=>rw[r.inj r',ih t']
section
variable {X:Cx} {σ:St} {H:Hp} {s:ς} {xs ys:-V}
def iV.of {K:ζ}(h:H a=!.tup xs):iV K H a xs:=.inl (.inl h)
def Inv.list (I:Inv X pins σ H s)(h:fK X.K H a xs):∃bn,Vals xs bn/\PlainL s.12 a bn.10/\xs.4<=sizeLine:=by
 rcases h with h | ⟨o,bn,n,hk,hc,hd,hs,hz,r⟩
 ·(show uZ (h.ok I.cx) λz=>dB λbn n r e=>?_)
  show(ac bn r (fk _ n e rfl rfl rfl) z)
 ·show(ac bn.34 r (fk o n (I.wm a o hk) hc hd (by simpa using hs)) ?_)
  let e:=r.4;simp only[tm] at e;lk
def Inv.tuple (I:Inv X pins σ H s)(h:iV X.K H a xs):∃bn,Vals xs bn/\IsTup s.12 a bn.10/\xs.4<=sizeLine:=by
 rcases h with h | ⟨o,bn,n,hk,hc,hs,hz,r⟩
 ·(show uZ (h.ok I.cx) λz=>ay λbn r p=>?_)
  show(ac bn r p z)
 ·show(ac bn.34 r (ac o (I.wm a o hk) hc (qq n (by simpa using hs))) ?_)
  let e:=r.4;simp only[tm] at e;lk
def Inv.u0 (I:Inv X pins σ H s)(h:fK X.K H a xs)(h':fK X.K H a ys):xs=ys:=by
 (show au (I.list h) λbn r ϐ _=>?_;obtain ⟨o,n,e,_,_,d⟩:=ϐ);(show au (I.list h') λwy r' ϐ _=>?_;obtain ⟨o',n',e',_,_,d'⟩:=ϐ);rw[e] at e';cases e';rw[d] at d';injection d' with d1 _;have:bn=wy:=by simpa using congrArg wj d1
 subst this;show r.inj r'
def Inv.Dz (I:Inv X pins σ H s)(h:iV X.K H a xs)(h':iV X.K H a ys):xs=ys:=by
 (show au (I.tuple h) λbn r ϐ _=>?_;obtain ⟨o,e,_,n,d⟩:=ϐ);(show au (I.tuple h') λwy r' ϐ _=>?_;obtain ⟨o',e',_,n',d'⟩:=ϐ);rw[e] at e';cases e';rw[d] at d';injection d' with d1 _;have:bn=wy:=by simpa using congrArg wj d1
 subst this;show r.inj r'
end
theorem Cx.z0 (X:Cx)(E:Ω->ς->Prop):Cx:={ X with xe:=E }
theorem Cx.YO (X:Cx):Cx:=X.z0 λ_ _=>False
def Cx.Ok.z0 {X:Cx}(ok:X.Ok)(E:Ω->ς->Prop):(X.z0 E).Ok:=
 ⟨ok.mod,ok.57,ok.glob,ok.blt,ok.above,ok.inj,ok.has,ok.cab,ok.hd,ok.50,ok.stk,ok.exf,ok.bs,ok.Vl,ok.Jw,ok.Rn,ok.wx,ok.Xm⟩
def Cx.Ok.jM {X:Cx}(ok:(X.z0 E).Ok):X.Ok:=
 ⟨ok.mod,ok.57,ok.glob,ok.blt,ok.above,ok.inj,ok.has,ok.cab,ok.hd,ok.50,ok.stk,ok.exf,ok.bs,ok.Vl,ok.Jw,ok.Rn,ok.wx,ok.Xm⟩
section
variable {X:Cx} {σ:St} {H:Hp} {s:ς} 
def Inv.z0 (I:Inv X pins σ H s)(E:Ω->ς->Prop):Inv (X.z0 E) pins σ H s:=⟨I.ok.z0 E,I.os,I.52,I.49,I.81,I.97,I.56,I.qE,I.pin,I.cx,I.26⟩
def Inv.jM (I:Inv (X.z0 E) pins σ H s):Inv X pins σ H s:=⟨I.ok.jM,I.os,I.52,I.49,I.81,I.97,I.56,I.qE,I.pin,I.cx,I.26⟩
def SP.jM {f:Flow}(h:SP (X.z0 E) pins D f s'):SP X pins D f s':=by
 cases f with
 | next=>(revert h;show dB λσ' H' I q=>?_);show(cJ σ' H' I.jM q)
 | brk=>(revert h;show dB λσ' H' I q=>?_);show(cJ σ' H' I.jM q)
 | cont=>(revert h;show dB λσ' H' I q=>?_);show(cJ σ' H' I.jM q)
 | ret u=>(revert h;show wv λv σ' H' I r q=>?_);show(Nj v σ' H' I.jM r q)
def Je.YO {st:-ϩ}{t:TS}(h:Je X.YO st t):Je X st t:=λpins s σ H D I hw=>
 fV (h pins s σ H D (I.z0 _) hw) (λ_ _ q=>q.jM) λ_ _ z=>bB z
end
section
variable {X:Cx} {st:ϩ} {t u:TS} {te:TE} 
abbrev acD:TS:=λD σ H=>D.nx σ H
abbrev ja (t u:TS):TS:=λD σ H=>t { D with nx:=u D } σ H
def ϭ:Je X [] acD:=λ_ _ σ H _ I h=>mj (cJ σ H I h)
def Λ (h1:PS X st t)(h2:Je X rest u):Je X (st::rest) (ja t u):=by
 intro pins s σ H D I h;show Du (iZ (h1 pins s σ H { D with nx:=u D } I h) λf s1 q=>?_);cases f with
 | next=>
  (revert q;show dB λσ' H' I' q=>?_);show h2 pins s1 σ' H' D I' q
 | ret v=>show q
 | brk=>show q
 | cont=>show q
def Τ (h1:PS X st t):Je X [st] t:=by
 intro pins s σ H D I h;show Du (iZ (h1 pins s σ H D I h) λf s1 q=>?_);cases f with
 | next=>show mj q
 | ret v=>show q
 | brk=>show q
 | cont=>show q
def Inv.quiet (I:Inv X pins σ H s):interactive X.8=false:=by simp[interactive,I.39]
abbrev acE (te:TE):TS:=λD σ H=>te σ H λ_ H1=>D.nx σ H1
def ϣ (he:PE X e te)(hs: ~~~(swapsWith e none pos.60 X.8=pure false)):PS X (.Expr e pos) (acE te):=by
 intro pins s σ H D I h;show wpAny_Expr_any (dM (he pins s σ H _ I h) λv s1 x H1 I1 r1 q1=>(cJ σ H1 I1 q1)) I.quiet hs
abbrev acF (te:TE):TS:=λD σ H=>te σ H D.rt
def ϔ (he:PE X e te):PS X (.Return (!e) pos) (acF te):=by
 intro pins s σ H D I h;show Yt (dM (he pins s σ H _ I h) λv s1 x H1 I1 r1 q1=>(Nj x σ H1 I1 r1 q1))
abbrev agY (c:TT)(t u:TS):TS:=λD σ H=>c σ H λb H1=>if b=true then t D σ H1 else u D σ H1
def aE {a b:-ϩ}(hc:PT X c tc)(ha:Je X a t)(hb:Je X b u):PS X (.If c a b pos) (agY tc t u):=by
 intro pins s σ H D I h;show wpAny_If (iZ (hc pins s σ H _ I h) λd s1 η=>Ϗ η λH1 I1 q1=>?_);cases d with
 | true=>show ha pins s1 σ H1 D I1 q1
 | false=>show hb pins s1 σ H1 D I1 q1
abbrev Ro:TS:=λ_ _ _=>False
def fX:PS X st Ro:=λ_ _ _ _ _ _ h=>h.38
def gx :Je X Xn Ro:=λ_ _ _ _ _ _ h=>h.38
end
noncomputable abbrev TG:=V->St->Hp->(St->Hp->Prop)->Prop
noncomputable abbrev Xo:=-V->St->Hp->(St->Hp->Prop)->Prop
abbrev PG (X:Cx)(target:bS)(t:TG):Prop:=
 ∀pins s σ H v u Q,Inv X pins σ H s->RelV v u->t v σ H Q->
  wpAny X.mo X.A (assign target X.8 u) (λ_ s'=>∃σ' H',Inv X pins σ' H' s'/\Q σ' H') X.xe s
abbrev PGs (X:Cx)(ts:-bS)(t:Xo):Prop:=
 ∀pins s σ H vs us Q,Inv X pins σ H s->Vals vs us->t vs σ H Q->
  wpAny X.mo X.A (assignInOrder ((assignEach ts X.8).map (·.2)) us) (λ_ s'=>∃σ' H',Inv X pins σ' H' s'/\Q σ' H') X.xe s
noncomputable abbrev YQ:=V->V->V->Hp->(Hp->Prop)->Prop
abbrev YR (X:Cx)(t:YQ):Prop:=
 ∀pins s σ H o i v ov iv u Q,Inv X pins σ H s->RelV o ov->RelV i iv->RelV v u->t o i v H Q->
  wpAny X.mo X.A (setItem ov iv u) (λ_ s'=>∃H',Inv X pins σ H' s'/\Q H') X.xe s
noncomputable abbrev TIp:=V->V->Hp->VK->Prop
abbrev PIp (X:Cx)(op:aeY)(t:TIp):Prop:=
 ∀pins s σ H x y v u Q,Inv X pins σ H s->RelV x v->RelV y u->t x y H Q->
  wpAny X.mo X.A (inplaceOp op v u) (EP X pins σ Q) X.xe s
section
variable {X:Cx} 
abbrev Mg (i:Nat):TG:=λv σ H Q=>Q (σ.set i (!v)) H
def am (hN:X.N.13)(hi:X.N[i]?=!x)(hx:Loc X.16 x)(hf:autoParam (X.fnl x) L2.Nm._auto_1):PG X (.Name x pos) (Mg i):=by
 intro pins s σ H v u Q I r h;show wpAny_assign_Name (zV I hN hi hx r (λs' I'=>(cJ _ H I' h)) hf)
abbrev agZ:Xo:=λvs σ H Q=>vs=[]/\Q σ H
abbrev acG (t:TG)(u:Xo):Xo:=λvs σ H Q=>∃v r,vs=v::r/\t v σ H λσ' H'=>u r σ' H' Q
def jn:PGs X [] agZ:=by
 intro pins s σ H vs us Q I r h;obtain⟨e,h⟩:=h;subst e;cases r;show assignInOrder_nil (cJ σ H I h)
def bh {t:TG}{u:Xo}(h1:PG X e t)(h2:PGs X es u)
  (hs: ~~~((assignEach (e::es) X.8).map (·.2)=assign e X.8::(assignEach es X.8).map (·.2))):PGs X (e::es) (acG t u):=by
 intro pins s σ H vs us Q I r h;(revert h;show dB λv vr e1 h=>?_);subst e1;cases r with
 | cons r rr=>
  rw[hs];show assignInOrder_cons (iZ (h1 pins s σ H _ _ _ I r h) λ_ s1 η=>zU η λσ1 H1 I1 q1=>h2 pins s1 σ1 H1 _ _ Q I1 rr q1)
abbrev acH (K:ζ)(n:Nat)(t:Xo):TG:=λv σ H Q=>∃a xs,v=.ref a/\iV K H a xs/\xs.4=n/\t xs σ H Q
def YS {t:Xo}(hc:X.43=true)(h:PGs X es t)
  (hn: ~~~((assignEach es X.8).4=n)) (iA: ~~~((assignEach es X.8).findIdx? (·.1)=none)):PG X (.Tuple es k pos) (acH X.K n t):=by
 intro pins s σ H v u Q I r hw;(revert hw;show su λa xs e1 hq hl hw=>?_);subst e1;cases r;(show au (I.tuple hq) λbn rv ht hz=>?_);show assign_Tuple_tuple (I.ok.hd hc) ht (by simp[hn,<-hl,rv.4]) iA λh' hx=>h pins _ σ H xs _ Q (I.kept λb o e=>hx b o (Ϫ (ύ e)) e) (by simpa using rv) hw
abbrev ag0 (to ti:TE)(t:YQ):TG:=λv σ H Q=>to σ H λo H1=>ti σ H1 λi H2=>t o i v H2 λH3=>Q σ H3
def fY {o i:bS}{t:YQ}(ho:PE X o to)(hi:PE X i ti)(hs:YR X t)
  (ha:autoParam (∀v,assign (.Subscript o i pos) X.8 v=(do
   let ov <-holding [v] (eval o X.8)
   let iv <-holding [v,ov] (eval i X.8)
   standAt pos
   holding [v,ov,iv] (setItem ov iv v)
   release [v,ov,iv] [])) L2.Nn._auto_1):PG X (.Subscript o i pos) (ag0 to ti t):=by
 intro pins s σ H v u Q I r h;show θ (iU (dM (ho pins s σ H _ I h) λov s1 x H1 I1 r1 q1=>θ (iU (dM (hi pins s1 σ H1 _ I1 q1) λiv s2 y H2 I2 r2 q2=>?_))));show θ (LZ (θ (iU (iZ (hs pins s2 σ H2 x y v ov iv u _ I2 r1 r2 r q2) λ_ s3 η=>Ϗ η λH3 I3 q3=>wpAny_release (cJ σ H3 I3 q3)))))
abbrev YT (te:TE)(g:TG):TS:=λD σ H=>te σ H λx H1=>g x σ H1 D.nx
def fZ (he:PE X e te)(hg:PG X tg g)(hs: ~~~(swapsWithSole [tg] e pos.60 X.8=pure false))(hw: ~~~(swappedStores [tg] e X.8=pure none))
  (h1: ~~~((assignEach [tg] X.8).map (·.2)=[assign tg X.8])):PS X (.Assign [tg] e pos) (YT te g):=by
 intro pins s σ H D I h;show wpAny_Assign_stores (dM (he pins s σ H _ I h) λv s1 x H1 I1 r1 q1=>?_) hs hw;rw[h1];show iZ (hg pins s1 σ H1 x v _ I1 r1 q1) λ_ s2 q=>q
def Jy (hN:X.N.13)(hi:X.N[i]?=!x)(hx:Loc X.16 x)(he:PE X e te)(hs: ~~~(swapsWith e (!.Name x pos') pos.60 X.8=pure false))(hf:autoParam (X.fnl x) L2.Nm._auto_1) :
  PS X (.Assign [.Name x pos'] e pos) (YT te (Mg i)):=by
 intro pins s σ H D I h;show wpAny_Assign_Name (dM (he pins s σ H _ I h) λv s1 y H1 I1 r1 q1=>zV I1 hN hi hx r1 (λs2 I2=>(cJ _ H1 I2 q1)) hf) hs
abbrev ag1 (i:Nat)(te:TE)(ti:TIp):TS:=λD σ H=>∃x,σ[i]?=!some x/\te σ H λy H1=>ti x y H1 λz H2=>D.nx (σ.set i (!z)) H2
def YU {op:aeY}(hN:X.N.13)(hi:X.N[i]?=!x)(hx:Loc X.16 x)(he:PE X e te)(ho:PIp X op ti)(hf:autoParam (X.fnl x) L2.Nm._auto_1) :
  PS X (.AugAssign (.Name x pos') op e pos) (ag1 i te ti):=by
 intro pins s σ H D I h;(revert h;show ay λv e1 h=>?_);(show Ϗ I.81 λm hn hl=>?_);let vis:Vk X.16 x:=by rcases hx with k | k;show .inl k;show .inr (.inl k)
 (show Ϗ (hl i x v hi e1 vis) λu r l=>?_);show wpAny_AugAssign_Name ?_;let go:wpAny X.mo X.A (eval e X.8) (λw s₂=>wpAny X.mo X.A (inplaceOp op u w) (λr s₃=>wpAny X.mo X.A (storeName X.8 x r) (λ_=>SP X pins D .next) X.xe s₃) X.xe s₂) X.xe s:=by
  show dM (he pins s σ H _ I h) λw s1 y H1 I1 r1 q1=>dM (ho pins s1 σ H1 v y u w _ I1 r r1 q1) λz s2 zv H2 I2 r2 q2=>?_;show zV I2 hN hi hx r2 (λs3 I3=>(cJ _ H2 I3 q2)) hf
 rcases l with⟨hk,hm⟩ | ⟨hk,c,hc,Dy⟩
 ·show Us I.39 hk hn hm go
 ·rcases hk with hk | hk
  ·show U2 I.39 hk hc Dy go
  ·rcases hx with k | k
   ·have:X.env.scope.names.lookup x=!.free:=hk
    rw[k] at this;cases this
   ·have:X.env.scope.names.lookup x=!.free:=hk
    rw[k] at this;cases this
end
structure It where
 go:Nat->Hp->Prop
 Mh:Nat->Hp->V->Hp->Prop
 stop:Nat->Hp->Prop
abbrev qr (X:Cx)(pins:-(Ν×Obj))(H:Hp)(b:Ν):Prop:=
 H b=none/\b≠X.14/\b∉X.fs/\(b∈X.ex\/X.s₀.5<=b)/\(∀x c,X.env.cells.lookup x=!c->c≠b)/\∀p∈X.pn++pins,p.1≠b
def Inv.EQ (I:Inv X pins σ H s)(hb:s.5<=b)(hn:H' b=none):qr X pins H' b:=by
 show⟨hn,fG (Ϧ I.lt hb),I.agM hb,.inr (ϊ I.sz hb),λx c e z=>?_,λp hp z=>?_⟩
 ·obtain⟨v,q⟩:=I.cell x c e
  show absurd (Ϧ q.lt (by rw[z];show hb)) (fP _)
 ·show absurd (Ϧ (ύ (I.pin p hp).1) (by rw[z];show hb)) (fP _)
structure Turn (P:ah)(w:dX)(K:ζ)(tg:bS)(J:It)(fp:-Ν)(it:Ν)(tn:Nat->a9->Prop):Prop where
 mem:it∈fp
 obj:∀i h,tn i h->∀b∈fp,∃o,h.get? b=!o/\∀v,o.65≠.cell v
 keep:∀i h h',tn i h->(∀b∈fp,∀o,h.get? b=!o->h'.get? b=!o)->tn i h'
 item:∀(X:Cx),X.29=P->X.w=w->X.K=K->X.43=true->∀(i:Nat) (pins:-(Ν×Obj)) (s:ς) (σ:St) (H:Hp) (E:Ω->ς->Prop),Inv X pins σ H s->(∀b∈fp,qr X pins H b)->tn i s.12->J.go i H->
  wpAny (model P w) X.A (pyNext (.ref it)) (λr s1=>∃u,r=!u/\
   wpAny (model P w) X.A (letOwnedTupleGo tg (.ref it) u) (λ_ s2=>∃x H',Inv X pins σ H' s2/\RelV x u/\J.Mh i H x H'/\tn (i+1) s2.12/\∀b∈fp,H' b=none) E s1) E s
 done:∀(X:Cx),X.29=P->X.w=w->X.K=K->X.43=true->∀(i:Nat) (pins:-(Ν×Obj)) (s:ς) (σ:St) (H:Hp) (E:Ω->ς->Prop),Inv X pins σ H s->(∀b∈fp,qr X pins H b)->tn i s.12->J.stop i H->
  wpAny (model P w) X.A (pyNext (.ref it)) (λr s1=>r=none/\Inv X pins σ H s1) E s
 self:∀(A:sY) (i:Nat) (s:ς) (Q:Ω->ς->Prop) (E:Ω->ς->Prop),tn i s.12->Q (.ref it) s->wpAny (model P w) A (pyIter (.ref it)) Q E s
noncomputable abbrev TI:=St->Hp->(It->Hp->Prop)->Prop
abbrev PIE (X:Cx)(pins:-(Ν×Obj))(σ:St)(tg:bS)(R:It->Hp->Prop)(itv:Ω)(s2:ς):Prop:=
 ∃it fp tn J H',itv=.ref it/\Inv X pins σ H' s2/\Turn X.29 X.w X.K tg J fp it tn/\tn 0 s2.12/\(∀b∈fp,qr X pins H' b)/\R J H'
abbrev PI (X:Cx)(tg iter:bS)(wi:TI):Prop:=
 ∀pins s σ H R,Inv X pins σ H s->wi σ H R->
  wpAny X.mo X.A (eval iter X.8) (λv s1=>wpAny X.mo X.A (pyIter v) (PIE X pins σ tg R) X.xe s1) X.xe s
def Mi {it:Ν}{n:String}{Q:Unit->ς->Prop}(ho:s.heap.get? it=!o)(hc:o.98=.type n)(hd:o.65=.fields vs)
  (hn:["enumerate","zip","dict_itemiterator","dict_reverseitemiterator","odict_iterator","itertools.zip_longest","itertools.pairwise"].contains n=false) (hQ:Q Unit.unit s):wpAny M A (letOwnedTupleGo tg (.ref it) u) Q E s:=by
 cases tg<;>first
  | show ϫ hQ
  | (cases u<;>first
    | show ϫ hQ
    | (show θ (wpAny_load ho ?_)
       rw[hc,hd];change wpAny M A (if (["enumerate","zip","dict_itemiterator","dict_reverseitemiterator","odict_iterator","itertools.zip_longest","itertools.pairwise"].contains n && vs[0]? == some (rawInt _))=true then _ else _) Q E s;rw[Ψ (by intro h;rw[hn,Bool.false_and] at h;cases h)]
       show ϫ hQ))
abbrev Mj (K:ζ)(a:Ν):It:=
 ⟨λi H=>∃xs x,fK K H a xs/\xs[i]?=!x,λi H x H'=>H'=H/\∀xs,fK K H a xs->xs[i]?=!x,λi H=>∃xs,fK K H a xs/\xs.4<=i⟩
abbrev Itt (K:ζ)(a:Ν):It:=
 ⟨λi H=>∃xs x,iV K H a xs/\xs[i]?=!x,λi H x H'=>H'=H/\∀xs,iV K H a xs->xs[i]?=!x,λi H=>∃xs,iV K H a xs/\xs.4<=i⟩
abbrev Xp (lo:Int)(n:Nat):It:=⟨λi _=>i < n,λi H x H'=>H'=H/\x=.int (lo+i),λi _=>n<=i⟩
def Nv {P:ah}{K:ζ}(a it:Ν):Turn P w K tg (Mj K a) [it] it (λi h=>h.IsListIter it a i) where
 mem:=by simp
 obj:=λi h st b hb=>by
  let e:b=it:=by simpa using hb
  subst e;(revert st;show ia λo e c d=>?_);show(δ o e (λv z=>by rw[d] at z;cases z))
 keep:=λi h h' st k=>st.at λo e=>k it ∅ o e
 item:=by
  intro X hP hw hK hc i pins s σ H E I hf st hg;subst hP hw hK;(revert hg;show dB λxs x hq hx=>?_);(show au (I.list hq) λbn rv p hz=>?_);(show Ϗ (rv.get hx) λu hu ru=>?_);(show CJ (hf it ∅) λf0 f1 f2 f3 f4 f5=>?_);show wpAny_pyNext_list_item st p.18 (by simpa using hu) λh' Jz sb=>?_;(show au (id Jz) λo e c d=>?_);show(δ u rfl (Mi e c d "!" (CI x H (I.turned (λb o hb e=>(sb.2 b hb).trans e) f0 f1 f3 f4 f5) ru ⟨rfl,λys hy=>by rw[I.u0 hy hq];show hx⟩ Jz (λb hb=>(hf b hb).1))))
 done:=by
  intro X hP hw hK hc i pins s σ H E I hf st hg;subst hP hw hK;(revert hg;show ay λxs hq hx=>?_);(show au (I.list hq) λbn rv p hz=>?_);(show CJ (hf it ∅) λf0 f1 f2 f3 f4 f5=>?_);let hl:=rv.4;show wpAny_pyNext_list_end (I.ok.hd hc) st p.18 (by simp;lk) λh' eb=>⟨rfl,I.turned (λb o hb e=>eb b o hb e) f0 f1 f3 f4 f5⟩
 self:=λ_ _ _ _ _ st h=>wpAny_pyIter_listiter st h
def JA {P:ah}{K:ζ}(a it:Ν):Turn P w K tg (Itt K a) [it] it (λi h=>h.IsTupleIter it a i) where
 mem:=by simp
 obj:=λi h st b hb=>by
  let e:b=it:=by simpa using hb
  subst e;(revert st;show ia λo e c d=>?_);show(δ o e (λv z=>by rw[d] at z;cases z))
 keep:=λi h h' st k=>st.at λo e=>k it ∅ o e
 item:=by
  intro X hP hw hK hc i pins s σ H E I hf st hg;subst hP hw hK;(revert hg;show dB λxs x hq hx=>?_);(show au (I.tuple hq) λbn rv p hz=>?_);(show Ϗ (rv.get hx) λu hu ru=>?_);(show CJ (hf it ∅) λf0 f1 f2 f3 f4 f5=>?_);show wpAny_pyNext_tuple_item st (p) (by simpa using hu) λh' Jz sb=>?_;(show au (id Jz) λo e c d=>?_);show(δ u rfl (Mi e c d "!" (CI x H (I.turned (λb o hb e=>(sb.2 b hb).trans e) f0 f1 f3 f4 f5) ru ⟨rfl,λys hy=>by rw[I.Dz hy hq];show hx⟩ Jz (λb hb=>(hf b hb).1))))
 done:=by
  intro X hP hw hK hc i pins s σ H E I hf st hg;subst hP hw hK;(revert hg;show ay λxs hq hx=>?_);(show au (I.tuple hq) λbn rv p hz=>?_);(show CJ (hf it ∅) λf0 f1 f2 f3 f4 f5=>?_);let hl:=rv.4;show wpAny_pyNext_tuple_end (I.ok.hd hc) st (p) (by simp;lk) λh' eb=>⟨rfl,I.turned (λb o hb e=>eb b o hb e) f0 f1 f3 f4 f5⟩
 self:=λ_ _ _ _ _ st h=>wpAny_pyIter_tupleiter st h
def JB {P:ah}{K:ζ}(it:Ν)(lo:Int)(n:Nat):Turn P w K tg (Xp lo n) [it] it (λi h=>alu h it (lo+(i:Nat) * 1) ((n:Int) - (i:Nat)) 1) where
 mem:=by simp
 obj:=λi h st b hb=>by
  let e:b=it:=by simpa using hb
  subst e
  show(δ _ st (λv z=>by
   let z':=z
   cases z'))
 keep:=λi h h' st k=>k it ∅ _ st
 item:=by
  intro X hP hw hK hc i pins s σ H E I hf st hg;(show CJ (hf it ∅) λf0 f1 f2 f3 f4 f5=>?_);show (Walks.range (I.ok.hd hc) it lo 1 n).item i s _ _ hg st λv h' tk hv Jz kk=>?_;obtain⟨t,rfl⟩:=hv;let I1:Inv X pins σ H { s with heap:=h',toks:=tk }:=I.turned (λb o hb e=>kk b o (by simpa using hb) e) f0 f1 f3 f4 f5;show(δ _ rfl (Mi Jz rfl rfl "!" (CI (.int (lo+i)) H I1 ⟨t,?_⟩ ⟨rfl,rfl⟩ Jz (λb hb=>(hf b hb).1))));rw[ab9]
 done:=by
  intro X hP hw hK hc i pins s σ H E I hf st hg;(show CJ (hf it ∅) λf0 f1 f2 f3 f4 f5=>?_);show wpAny_pyNext_range_end (I.ok.hd hc) st (by have:n<=i:=hg;lk) λh' eb=>⟨rfl,I.turned (λb o hb e=>eb b o hb e) f0 f1 f3 f4 f5⟩
 self:=λ_ _ _ _ _ st h=>wpAny_pyIter_rangeiter st h
section
variable {X:Cx} 
def Rp {lo hi:Int}{t u v:Tok}(I:Inv X pins σ H s)(h1:-(((2 ^ 62)))<=lo)(h2:lo < 2 ^ 62)(h3:-(((2 ^ 62)))<=hi)(h4:hi < 2 ^ 62)
  (q:R (Xp lo (hi - lo).9) H):wpAny X.mo X.A (pyIter (.ref s.5)) (PIE X pins σ tg R) E { s with heap:=s.heap.push (Xk lo hi t u v),toks:=tk }:=by
 show wpAny_pyIter_range (U3 ..) (apO h1 h2 h3 h4) ?_;let I1:Inv X pins σ H { s with heap:=s.heap.push (Xk lo hi t u v),toks:=tk }:=I.kept λb o e=>Χ _ e
 show(EH ((s.heap.push (Xk lo hi t u v)).7) ([(s.heap.push (Xk lo hi t u v)).7]) _ _ H rfl 
  (I1.kept λb o e=>Χ _ e) (JB _ lo (hi - lo).9) ?_ (λb hb=>?_) q)
 ·let e1:lo+(0:Int) * 1=lo:=by simp
  let e2:(((hi - lo).9):Int) - ((0:Nat))=wn lo hi 1:=by rw[agd];split<;>lk
  change alu _ _ (lo+(0:Int) * 1) ((((hi - lo).9:Nat)) - ((0:Nat))) 1;rw[e1,e2];show ϑ _ rfl
 ·let e:b=(s.heap.push (Xk lo hi t u v)).7:=by simpa using hb
  subst e;show I1.EQ (ξ _) (I1.cx.fresh (ξ _))
abbrev acI (ta:TA):TI:=λσ H R=>ta σ H λvs H1=>∃j,vs=[.int j]/\-(((2 ^ 62)))<=j/\j < 2 ^ 62/\R (Xp 0 j.9) H1
def wz {a:bS}(hg:Gl X "range")(hm:X.mg "range"=none)(ha:PA X [a] ta)(hs: ~~~(starEach [a] X.8=[(false,eval a X.8)])):PI X tg (.Call (.Name "range" p) [a] [] pos) (acI ta):=by
 intro pins s σ H R I h;show aeZ (kG I hg hm aos (ba (zW (ha pos pins s σ H _ I h) λus s1 vs H1 I1 r1 q1=>?_) hs rfl));(revert q1;show Vd λj e q1 q2 q=>?_);subst e;cases r1 with
 | cons r rr=>
  cases rr;obtain⟨t,rfl⟩:=r;show call_range_1 (Rp I1 () () q1 q2 (by simpa using q))
abbrev acJ (wi:TI)(g:TG)(tb:TS):TS:=λD σ H=>wi σ H λJ H1=>∃W:Nat->Nat->St->Hp->Prop,(∃m,W 0 m σ H1)/\∀i m σ H,W i m σ H->
 (J.stop i H/\D.nx σ H)\/(J.go i H/\∃N,(∀σ' H',N σ' H'->∃m',m' < m/\W (i+1) m' σ' H')/\∀x H',J.Mh i H x H'->g x σ H' λσ2 H2=>tb { D with nx:=N,ct:=N,bk:=D.nx } σ2 H2)
abbrev z9 (fp:-Ν)(h:a9):-(Ν×Obj):=fp.filterMap λb=>(h.get? b).map λo=>(b,o)
def oM (hb:b∈fp)(e:h.get? b=!o):(b,o)∈z9 fp h:=Nc.mpr (δ b hb (by rw[e];rfl))
def Nw {p:Ν×Obj}(hp:p∈z9 fp h):p.1∈fp/\h.get? p.1=!p.2:=by
 (show Ϗ (Nc.mp hp) λb hb e=>?_);cases q:h.get? b with
 | none=>rw[q] at e;cases e
 | some o=>
  rw[q] at e;let e':=ϲ e;subst e';show⟨hb,q⟩
def Inv.pinned (I:Inv X pins σ H s)(hf:∀b∈fp,qr X pins H b)(ho:∀b∈fp,∃o,s.heap.get? b=!o/\∀v,o.65≠.cell v):Inv X (pins++z9 fp s.12) σ H s:=
 I.Me λp hp=>(Ο.mp hp).elim (λz=>I.pin p (Θ _ z)) λz=>by
  obtain⟨hb,e⟩:=Nw z;(show Vh (hf p.1 hb) λf0 f1 f2 _=>?_);(show Ϗ (ho p.1 hb) λo e' d=>?_);rw[e] at e';cases e';show⟨e,f0,f1,f2,d⟩
def Inv.u3 {pl:-(Ν×Obj)}(I:Inv X (pins++pl) σ H s):Inv X pins σ H s:=I.Me λp hp=>I.pin p (Θ _ (Φ _ hp))
theorem FsI (X:Cx)(iter:bS):Prop:=∀x,foldedSetIterable iter X.8 x=pure x
def cQ (hp:PassesOwn X.mo X.A X.8 X.xe)(hc:X.43=true)(hi:PI X tg iter wi)(hg:PG X tg g)(hb:Je X body tb)
  (hs:autoParam (FsI X iter) L2.Nn._auto_1):PS X (.For tg iter body [] pos) (acJ wi g tb):=by
 intro pins s σ H D I h;show wpAny_For (iZ (hi pins s σ H _ I h) λv s1 h1=>iZ h1 λitv s2 h2=>?_) hs;(revert h2;show Ni λit fp tn J H2 e I2 T UF f2=>ay λW ϐ turn=>?_;obtain ⟨m0,w0⟩:=ϐ);subst e;let JC:∀{H':Hp},(∀b∈fp,H' b=none)->∀b∈fp,qr X pins H' b:=λhn b hb=>⟨hn b hb,(f2 b hb).2⟩
 show codeAny_forLoop_any (λn s'=>∃i σ' H',Inv X pins σ' H' s'/\tn i s'.12/\(∀b∈fp,H' b=none)/\W i n σ' H') ?_ m0 (aL 0 σ H2 I2 UF (λb hb=>(f2 b hb).1) w0)
 rintro n s3 ⟨i,σ3,H3,I3,st3,fr3,w3⟩
 rcases turn i n σ3 H3 w3 with⟨stop,qn⟩ | ⟨go,N,hN,step⟩
 ·show ml hp (iZ (T.done X rfl rfl rfl hc i pins s3 σ3 H3 X.xe I3 (JC fr3) st3 stop) λr s4 η=>uZ η λhr I4=>?_)
  subst hr;show mj (cJ σ3 H3 I4 qn)
 ·show ml hp (iZ (T.item X rfl rfl rfl hc i pins s3 σ3 H3 X.xe I3 (JC fr3) st3 go) λr s4 η=>Ϗ η λu hr h4=>?_)
  subst hr;show ml hp (iZ h4 λ_ s5 η=>acm η λx H5 I5 r5 y5 st5 YV=>ml hp (iZ (hg _ s5 σ3 H5 x u _ (I5.pinned (JC YV) (T.obj _ _ st5)) r5 (step x H5 y5)) λ_ s6 η=>zU η λσ6 H6 I6 q6=>?_));show ml hp (iZ (hb _ s6 σ6 H6 _ I6 q6) λf s7 q7=>?_);let again:∀{σ7:St} {H7:Hp},Inv X (pins++z9 fp s5.12) σ7 H7 s7->N σ7 H7->∃m,m < n/\∃i σ' H',Inv X pins σ' H' s7/\tn i s7.12/\(∀b∈fp,H' b=none)/\W i m σ' H':=λ{σ7 H7} I7 n7=>by
   (show Ϗ (hN σ7 H7 n7) λm' hm w7=>?_);show(δ m' hm (aL (i+1) σ7 H7 I7.u3 (T.keep _ _ _ st5 λb hb o e=>(I7.pin (b,o) (Θ _ (Θ _ (oM hb e)))).1) (λb hb=>?_) w7));(show Ϗ (T.obj _ _ st5 b hb) λo e d=>?_);show(I7.pin (b,o) (Θ _ (Θ _ (oM hb e)))).2.1
  cases f with
  | next=>(revert q7;show dB λσ7 H7 I7 n7=>?_);show again I7 n7
  | cont=>(revert q7;show dB λσ7 H7 I7 n7=>?_);show again I7 n7
  | brk=>(revert q7;show dB λσ7 H7 I7 q7=>?_);show(cJ σ7 H7 I7.u3 q7)
  | ret v=>(revert q7;show wv λx7 σ7 H7 I7 r7 q7=>?_);show(Nj x7 σ7 H7 I7.u3 r7 q7)
end
def Vn {K:ζ}{g:TG}{tb:TS}{D:Ends}(Pv:Nat->St->Hp->Prop)(h0:Pv 0 σ H)(hl:∀i σ H,i<=xs.4->Pv i σ H->fK K H a xs)
  (hs:∀i x σ H,xs[i]?=!x->Pv i σ H->g x σ H λσ2 H2=>tb { D with nx:=Pv (i+1),ct:=Pv (i+1),bk:=D.nx } σ2 H2) (hd:∀σ H,Pv xs.4 σ H->D.nx σ H) :
  ∃W:Nat->Nat->St->Hp->Prop,(∃m,W 0 m σ H)/\∀i m σ H,W i m σ H->
   ((Mj K a).stop i H/\D.nx σ H)\/((Mj K a).go i H/\∃N:St->Hp->Prop,(∀σ' H',N σ' H'->∃m',m' < m/\W (i+1) m' σ' H')/\∀x H',(Mj K a).Mh i H x H'->g x σ H' λσ2 H2=>tb { D with nx:=N,ct:=N,bk:=D.nx } σ2 H2):=by
 show(δ (λi m σ H=>m=xs.4 - i/\i<=xs.4/\Pv i σ H) (ac xs.4 ∅ (Ϝ _) h0) ?_)
 rintro i m σ H ⟨rfl,hi,p⟩
 let q:=hl i σ H hi p
 by_cases kz:i < xs.4
 ·show .inr ⟨(cJ xs (xs[i]) q (by simp[kz])),(δ (Pv (i+1)) (λσ' H' p'=>(mh (xs.4 - (i+1)) () rfl kz p')) (λx H' y=>?_))⟩
  obtain⟨e,y⟩:=y;subst e;show hs i x σ _ (y xs q) p
 ·let e:i=xs.4:=by lk
  subst e;show .inl ⟨(δ xs q (ξ _)),hd σ H p⟩
def Nx {lo:Int}{g:TG}{tb:TS}{D:Ends}(Pv:Nat->St->Hp->Prop)(h0:Pv 0 σ H)
  (hs:∀i σ H,i < n->Pv i σ H->g (.int (lo+i)) σ H λσ2 H2=>tb { D with nx:=Pv (i+1),ct:=Pv (i+1),bk:=D.nx } σ2 H2) (hd:∀σ H,Pv n σ H->D.nx σ H) :
  ∃W:Nat->Nat->St->Hp->Prop,(∃m,W 0 m σ H)/\∀i m σ H,W i m σ H->
   ((Xp lo n).stop i H/\D.nx σ H)\/((Xp lo n).go i H/\∃N:St->Hp->Prop,(∀σ' H',N σ' H'->∃m',m' < m/\W (i+1) m' σ' H')/\∀x H',(Xp lo n).Mh i H x H'->g x σ H' λσ2 H2=>tb { D with nx:=N,ct:=N,bk:=D.nx } σ2 H2):=by
 show(δ (λi m σ H=>m=n - i/\i<=n/\Pv i σ H) (ac n ∅ (Ϝ _) h0) ?_)
 rintro i m σ H ⟨rfl,hi,p⟩
 by_cases kz:i < n
 ·show .inr ⟨kz,(δ (Pv (i+1)) (λσ' H' p'=>(mh (n - (i+1)) () rfl kz p')) (λx H' y=>?_))⟩
  obtain⟨e,y⟩:=y;subst e y;show hs i σ _ kz p
 ·let e:i=n:=by lk
  subst e;show .inl ⟨ξ _,hd σ H p⟩
noncomputable abbrev R2:=V->V->Hp->VK->Prop
abbrev fT (X:Cx)(f:Ω->Ω->Sem Ω)(r:R2):Prop:=
 ∀pins s σ H x y v u Q,Inv X pins σ H s->RelV x v->RelV y u->r x y H Q->
  wpAny X.mo X.A (f v u) (EP X pins σ Q) X.xe s
abbrev UnR (X:Cx)(f:Ω->Sem Ω)(r:V->Hp->VK->Prop):Prop:=
 ∀pins s σ H x v Q,Inv X pins σ H s->RelV x v->r x H Q->
  wpAny X.mo X.A (f v) (EP X pins σ Q) X.xe s
abbrev dJ (X:Cx)(f:Ω)(r:-V->Hp->VK->Prop):Prop:=
 ∀pins s σ H xs us Q,Inv X pins σ H s->Vals xs us->r xs H Q->
  wpAny X.mo X.A (call f us) (EP X pins σ Q) X.xe s
abbrev ag3 (X:Cx)(r:V->Hp->(Bool->Hp->Prop)->Prop):Prop:=
 ∀pins s σ H x v Q,Inv X pins σ H s->RelV x v->r x H Q->
  wpAny X.mo X.A (truthy v) (TP X pins σ Q) X.xe s
abbrev tOp (r:R2)(ta tb:TE):TE:=λσ H Q=>ta σ H λx H1=>tb σ H1 λy H2=>r x y H2 Q
abbrev tUn (r:V->Hp->VK->Prop)(ta:TE):TE:=λσ H Q=>ta σ H λx H1=>r x H1 Q
abbrev rI (C:Int->Int->Prop)(g:Int->Int->V):R2:=λx y H Q=>Vm x λi=>Vm y λj=>C i j/\Q (g i j) H
abbrev yA (g:Int->Int->V):R2:=λx y H Q=>Vm x λi=>Vm y λj=>Q (g i j) H
abbrev rU (g:Int->V):V->Hp->VK->Prop:=λx H Q=>Vm x λi=>Q (g i) H
section
variable {X:Cx} {a b:bS} {ta tb tc:TE} 
def Vo (ha:PE X a ta)(hb:PE X b tb){R:V->V->Hp->Prop}(I:Inv X pins σ H s)
  (h:ta σ H λx H1=>tb σ H1 λy H2=>R x y H2)  {f:Ω->Ω->Sem Ω}
  (hf:∀v u s2 x y H2,Inv X pins σ H2 s2->RelV x v->RelV y u->R x y H2->wpAny X.mo X.A (f v u) Q X.xe s2) :
  wpAny X.mo X.A (eval a X.8) (λv s₁=>wpAny X.mo X.A (eval b X.8) (λu s₂=>wpAny X.mo X.A (f v u) Q X.xe s₂) X.xe s₁) X.xe s:=by
 show dM (ha pins s σ H _ I h) λv s1 x H1 I1 r1 q1=>dM (hb pins s1 σ H1 _ I1 q1) λu s2 y H2 I2 r2 q2=>?_;show hf v u s2 x y H2 I2 r1 r2 q2
def av {op:aeY}{r:R2}(ho:fT X (binaryOp op) r)(ha:PE X a ta)(hb:PE X b tb):PE X (.BinOp a op b pos) (tOp r ta tb):=by
 intro pins s σ H Q I h;show wpAny_BinOp (Vo ha hb I h λv u s2 x y H2 I2 rx ry q=>ho pins s2 σ H2 x y v u Q I2 rx ry q)
def acN {op:UnaryOp}{r:V->Hp->VK->Prop}(ho:UnR X (unaryOp op) r)(ha:PE X a ta):PE X (.UnaryOp op a pos) (tUn r ta):=by
 intro pins s σ H Q I h;show UnaryOp_ (dM (ha pins s σ H _ I h) λv s1 x H1 I1 r1 q1=>ho pins s1 σ H1 x v Q I1 r1 q1)
def opI {f:Ω->Ω->Sem Ω}{C:Int->Int->Prop}{g:Int->Int->Int}
  (rule:∀i j t u s Q E,C i j->Q (.int (g i j) s.23) { s with toks:=s.23+1 }->wpAny X.mo X.A (f (.int i t) (.int j u)) Q E s) :
  fT X f (rI C λi j=>.int (g i j)):=by
 intro pins s σ H x y v u Q I rx ry h;(show Ϗ (kF h) λi ϐ h2=>?_;subst ϐ);(show au (kF h2) λj ϐ hc q=>?_;subst ϐ);obtain⟨t,rfl⟩:=rx;obtain⟨t',rfl⟩:=ry;show rule i j t t' s _ _ hc (ϧ (.int (g i j)) H (I.tok _) ⟨_,rfl⟩ q)
def Ny {f:Ω->Ω->Sem Ω}{g:Int->Int->Int}
  (rule:∀i j t u s Q E,Q (.int (g i j) s.23) { s with toks:=s.23+1 }->wpAny X.mo X.A (f (.int i t) (.int j u)) Q E s) :
  fT X f (yA λi j=>.int (g i j)):=by
 intro pins s σ H x y v u Q I rx ry h;(show Ϗ (kF h) λi ϐ h2=>?_;subst ϐ);(show Ϗ (kF h2) λj ϐ q=>?_;subst ϐ);obtain⟨t,rfl⟩:=rx;obtain⟨t',rfl⟩:=ry;show rule i j t t' s _ _ (ϧ (.int (g i j)) H (I.tok _) ⟨_,rfl⟩ q)
def YW {f:Ω->Ω->Sem Ω}{g:Int->Int->Bool}
  (rule:∀i j t u s Q E,Q (.bool (g i j)) s->wpAny X.mo X.A (f (.int i t) (.int j u)) Q E s) :
  fT X f (yA λi j=>.bl (g i j)):=by
 intro pins s σ H x y v u Q I rx ry h;(show Ϗ (kF h) λi ϐ h2=>?_;subst ϐ);(show Ϗ (kF h2) λj ϐ q=>?_;subst ϐ);obtain⟨t,rfl⟩:=rx;obtain⟨t',rfl⟩:=ry;show rule i j t t' s _ _ (ϧ (.bl (g i j)) H I rfl q)
abbrev ag4 (i j:Int):Prop:=0<=j/\j<=1000000/\i.99 < 2 ^ 64
abbrev Rq (i j:Int):Prop:=(-(((2 ^ 64))) < i/\i < 2 ^ 64)\/(-(((2 ^ 64))) < j/\j < 2 ^ 64)
def Rq.ok {i j:Int}(h:Rq i j):IntMulOk i j:=by
 rcases h with⟨h1,h2⟩ | ⟨h1,h2⟩
 ·show .of_left (age h1 h2)
 ·show .of_right (age h1 h2)
def JD (k:Nat):(0:Int)<=2 ^ k:=by
 show mq _
def YX:fT X (binaryOp .Add) (yA λi j=>.int (i+j)):=Ny λ_ _ _ _ _ _ _ q=>add_int q
def Rr:fT X (binaryOp .Sub) (yA λi j=>.int (i - j)):=Ny λ_ _ _ _ _ _ _ q=>sub_int q
def YY:fT X (binaryOp .Mult) (rI Rq λi j=>.int (i * j)):=opI λ_ _ _ _ _ _ _ hc q=>mul_int q hc.ok
def fm:fT X (binaryOp .Mod) (rI (λ_ j=>0 < j) λi j=>.int (i % j)):=opI λi j _ _ _ _ _ hc q=>by
 let h1:=hc;show mod_int' () (by rw[Int.fmod_eq_emod_of_nonneg i ()];show q)
def YZ:fT X (binaryOp .LShift) (rI ag4 λi j=>.int (i * 2 ^ j.9)):=opI λ_ _ _ _ _ _ _ hc q=>lshift_int_small hc.1 hc.2.1 hc.2.2 q
def Rs:fT X (binaryOp .RShift) (rI (λ_ j=>0<=j) λi j=>.int (i / 2 ^ j.9)):=opI λi j _ _ _ _ _ hc q=>
 rshift_int hc (by rw[Int.fdiv_eq_ediv_of_nonneg i (JD _)];show q)
def Rt:fT X (binaryOp .BitAnd) (yA λi j=>.int (zd i j)):=Ny λ_ _ _ _ _ _ _ q=>and_int q
def acO:fT X (binaryOp .BitOr) (yA λi j=>.int (aot i j)):=Ny λ_ _ _ _ _ _ _ q=>or_int q
def Ru:fT X (binaryOp .BitXor) (yA λi j=>.int (QG i j)):=Ny λ_ _ _ _ _ _ _ q=>xor_int q
def Vp:fT X (inplaceOp .Add) (yA λi j=>.int (i+j)):=Ny λ_ _ _ _ _ _ _ q=>iadd_int q
def unI {f:Ω->Sem Ω}{g:Int->Int}
  (rule:∀i t s Q E,Q (.int (g i) s.23) { s with toks:=s.23+1 }->wpAny X.mo X.A (f (.int i t)) Q E s) :
  UnR X f (rU λi=>.int (g i)):=by
 intro pins s σ H x v Q I rx h;(show Ϗ (kF h) λi ϐ q=>?_;subst ϐ);obtain⟨t,rfl⟩:=rx;show rule i t s _ _ (ϧ (.int (g i)) H (I.tok _) ⟨_,rfl⟩ q)
def Y0:UnR X (unaryOp .USub) (rU λi=>.int (-((i)))):=unI λ_ _ _ _ _ q=>neg_int q
end
abbrev acP:V->V->Bool
 | .bM,.bM=>true | .bM,.int _=>true | .int _,.bM=>true | .bM,.bl _=>true | .bl _,.bM=>true | .bM,.str _=>true | .str _,.bM=>true
 | .int _,.int _=>true | .bl _,.bl _=>true | .str _,.str _=>true | .Jd _,.Jd _=>true
 | .int _,.str _=>true | .str _,.int _=>true | .bl _,.str _=>true | .str _,.bl _=>true
 | _,_=>false
abbrev rEq:R2:=λx y H Q=>acP x y=true/\Q (.bl (decide (x=y))) H
abbrev rNe:R2:=λx y H Q=>acP x y=true/\Q (.bl (!((decide (x=y))))) H
def Ml {i j:Int}:decide (V.int i=V.int j)=(i == j):=by
 rw[ka];simp
def Rv {i j:Bool}:decide (V.bl i=V.bl j)=(i == j):=by
 rw[ka];simp
def Mm {i j:Str}:decide (V.str i=V.str j)=(i == j):=by
 rw[ka];simp
def Mn {i j:Array UInt8}:decide (V.Jd i=V.Jd j)=(i.34 == j.34):=by
 rw[ka];cases i;cases j;simp
section
variable {X:Cx} {a b:bS} {ta tb tc:TE} 
def bN (I:Inv X pins σ H s)(q:Q (.bl k) H)(e:k=k'):EP X pins σ Q (.bool k') s:=by
 subst e;show(ϧ (.bl k) H I rfl q)
def Rw:fT X (compareOp .Eq) rEq:=by
 intro pins s σ H x y v u Q I rx ry h;obtain⟨hs,q⟩:=h;cases x with
 | bM=>
  cases rx;cases y with
  | bM=>cases ry;show PySem.EqNone.eq_none_none (bN I q ∅)
  | bl j=>cases ry;show PySem.EqNone.eq_none_bool (bN I q ∅)
  | int j=>obtain⟨t',rfl⟩:=ry;show PySem.EqNone.eq_none_int (bN I q ∅)
  | str j=>obtain⟨t',rfl⟩:=ry;show PySem.EqNone.eq_none_str (bN I q ∅)
  | _=>show absurd (hs) ώ
 | bl i=>
  cases rx;cases y with
  | bM=>cases ry;show PySem.EqNone.eq_bool_none (bN I q ∅)
  | bl j=>cases ry;show eq_bool (bN I q Rv)
  | str j=>obtain⟨t',rfl⟩:=ry;show PySem.EqMixed.eq_bool_str (bN I q ∅)
  | _=>show absurd (hs) ώ
 | int i=>
  obtain⟨t,rfl⟩:=rx;cases y with
  | bM=>cases ry;show PySem.EqNone.eq_int_none (bN I q ∅)
  | int j=>obtain⟨t',rfl⟩:=ry;show eq_int (bN I q Ml)
  | str j=>obtain⟨t',rfl⟩:=ry;show PySem.EqMixed.eq_int_str (bN I q ∅)
  | _=>show absurd (hs) ώ
 | str i=>
  obtain⟨t,rfl⟩:=rx;cases y with
  | bM=>cases ry;show PySem.EqNone.eq_str_none (bN I q ∅)
  | bl j=>cases ry;show PySem.EqMixed.eq_str_bool (bN I q ∅)
  | int j=>obtain⟨t',rfl⟩:=ry;show PySem.EqMixed.eq_str_int (bN I q ∅)
  | str j=>obtain⟨t',rfl⟩:=ry;show eq_str (bN I q Mm)
  | _=>show absurd (hs) ώ
 | Jd i=>
  obtain⟨t,rfl⟩:=rx;cases y with
  | Jd j=>obtain⟨t',rfl⟩:=ry;show W.eq_bytes (bN I q Mn)
  | _=>show absurd (hs) ώ
 | _=>cases y<;>show absurd (hs) ώ
def Rx:fT X (compareOp .NotEq) rNe:=by
 intro pins s σ H x y v u Q I rx ry h;obtain⟨hs,q⟩:=h;cases x with
 | bM=>
  cases rx;cases y with
  | bM=>cases ry;show PySem.EqNone.ne_none_none (bN I q ∅)
  | bl j=>cases ry;show PySem.EqNone.ne_none_bool (bN I q ∅)
  | int j=>obtain⟨t',rfl⟩:=ry;show PySem.EqNone.ne_none_int (bN I q ∅)
  | str j=>obtain⟨t',rfl⟩:=ry;show PySem.EqNone.ne_none_str (bN I q ∅)
  | _=>show absurd (hs) ώ
 | bl i=>
  cases rx;cases y with
  | bM=>cases ry;show PySem.EqNone.ne_bool_none (bN I q ∅)
  | bl j=>cases ry;show ne_bool (bN I q (congrArg not Rv))
  | str j=>obtain⟨t',rfl⟩:=ry;show PySem.EqMixed.ne_bool_str (bN I q ∅)
  | _=>show absurd (hs) ώ
 | int i=>
  obtain⟨t,rfl⟩:=rx;cases y with
  | bM=>cases ry;show PySem.EqNone.ne_int_none (bN I q ∅)
  | int j=>obtain⟨t',rfl⟩:=ry;show ne_int (bN I q (congrArg not Ml))
  | str j=>obtain⟨t',rfl⟩:=ry;show PySem.EqMixed.ne_int_str (bN I q ∅)
  | _=>show absurd (hs) ώ
 | str i=>
  obtain⟨t,rfl⟩:=rx;cases y with
  | bM=>cases ry;show PySem.EqNone.ne_str_none (bN I q ∅)
  | bl j=>cases ry;show PySem.EqMixed.ne_str_bool (bN I q ∅)
  | int j=>obtain⟨t',rfl⟩:=ry;show PySem.EqMixed.ne_str_int (bN I q ∅)
  | str j=>obtain⟨t',rfl⟩:=ry;show ne_str (bN I q (congrArg not Mm))
  | _=>show absurd (hs) ώ
 | Jd i=>
  obtain⟨t,rfl⟩:=rx;cases y with
  | Jd j=>obtain⟨t',rfl⟩:=ry;show W.ne_bytes (bN I q (congrArg not Mn))
  | _=>show absurd (hs) ώ
 | _=>cases y<;>show absurd (hs) ώ
def acQ:fT X (compareOp .Lt) (yA λi j=>.bl (decide (i < j))):=YW λ_ _ _ _ _ _ _ q=>lt_int q
def acR:fT X (compareOp .LtE) (yA λi j=>.bl (decide (i<=j))):=YW λ_ _ _ _ _ _ _ q=>le_int q
def acS:fT X (compareOp .Gt) (yA λi j=>.bl (decide (j < i))):=YW λ_ _ _ _ _ _ _ q=>gt_int q
def Nz:fT X (compareOp .In) (λx y H Q=>∃i j,x=.str i/\y=.str j/\Q (.bl (!(((lY j i 0 j.4 1).45)))) H):=by
 intro pins s σ H x y v u Q I rx ry h;(revert h;show gI λi j ϐ gO q=>?_;subst ϐ;subst gO);obtain⟨t,rfl⟩:=rx;obtain⟨t',rfl⟩:=ry;show in_str (bN I q rfl)
abbrev u4 (r r':R2):R2:=λx y H Q=>match x,y with | .int _,.int _=>r x y H Q | _,_=>r' x y H Q
abbrev ER (r r':R2):R2:=λx y H Q=>match x,y with | .str _,.str _=>r x y H Q | _,_=>r' x y H Q
def fT.i2 {f:Ω->Ω->Sem Ω}{r r':R2}(h:fT X f r)(h':fT X f r'):fT X f (u4 r r'):=by
 intro pins s σ H x y v u Q I rx ry q;unfold u4 at q
 split at q
 ·show h pins s σ H _ _ v u Q I rx ry q
 ·show h' pins s σ H _ _ v u Q I rx ry q
def fT.s2 {f:Ω->Ω->Sem Ω}{r r':R2}(h:fT X f r)(h':fT X f r'):fT X f (ER r r'):=by
 intro pins s σ H x y v u Q I rx ry q;unfold ER at q
 split at q
 ·show h pins s σ H _ _ v u Q I rx ry q
 ·show h' pins s σ H _ _ v u Q I rx ry q
def fT.or {f:Ω->Ω->Sem Ω}{r r':R2}(h:fT X f r)(h':fT X f r'):fT X f (λx y H Q=>r x y H Q\/r' x y H Q):=by
 intro pins s σ H x y v u Q I rx ry q;rcases q with q | q
 ·show h pins s σ H x y v u Q I rx ry q
 ·show h' pins s σ H x y v u Q I rx ry q
def aq (b:bS)(h:autoParam (op≠.In) L2.fR._auto_1)(h2:autoParam (op≠.NotIn) L2.fR._auto_1):behindInMarks op b=false:=by
 let e1:(op == aeW)=false:=by cases op<;>first | rfl | show absurd rfl h
 let e2:(op == Ys)=false:=by cases op<;>first | rfl | show absurd rfl h2
 cases b<;>simp[behindInMarks,e1,e2]
def mv {r:R2}(ho:fT X (compareOp op) r)(ha:PE X a ta)(hb:PE X b tb)(hm:behindInMarks op b=false):PE X (.Compare a [op] [b] pos) (tOp r ta tb):=by
 intro pins s σ H Q I h;show aeX (Vo ha hb I h λv u s2 x y H2 I2 rx ry q=>ho pins s2 σ H2 x y v u Q I2 rx ry q) hm
abbrev Xq (t:TE):TT:=λσ H Q=>t σ H λx H'=>onB x λk=>Q k H'
def Ϯ {r:R2}(ho:fT X (compareOp op) r)(ha:PE X a ta)(hb:PE X b tb)(hm:behindInMarks op b=false):PT X (.Compare a [op] [b] pos) (Xq (tOp r ta tb)):=by
 intro pins s σ H Q I h
 show Rc (dM (ha pins s σ H _ I h) λv s1 x H1 I1 r1 q1=>dM (hb pins s1 σ H1 _ I1 q1) λu s2 y H2 I2 r2 q2=>
  dM (ho pins s2 σ H2 x y v u _ I2 r1 r2 q2) λc s3 z H3 I3 r3 q0=>?_) hm
 (show Ϗ (zX q0) λk e q3=>?_);subst e;cases r3;show cv (δ H3 I3 q3)
abbrev RA (r r':R2)(ta tb tc:TE):TE:=λσ H Q=>ta σ H λx H1=>tb σ H1 λy H2=>r x y H2 λz H3=>onB z λk=>
 (if k=true then tc σ H3 λw' H4=>r' y w' H4 Q else Q (.bl false) H3)
def Aa {r r':R2}(ho:fT X (compareOp op) r)(Nt:fT X (compareOp op') r')(ha:PE X a ta)(hb:PE X b tb)(hc:PE X c tc)
  (hm:autoParam (lastMarks [op,op'] [b,c]=false) L2.aco._auto_1):PE X (.Compare a [op,op'] [b,c] pos) (RA r r' ta tb tc):=by
 intro pins s σ H Q I h
 show Compare_chain (dM (ha pins s σ H _ I h) λv s1 x H1 I1 r1 q1=>chain_link (dM (hb pins s1 σ H1 _ I1 q1) λu s2 y H2 I2 r2 q2=>
  dM (ho pins s2 σ H2 x y v u _ I2 r1 r2 q2) λd s3 z H3 I3 r3 q0=>?_)) hm
 (show Ϗ (zX q0) λk e q3=>?_);subst e;cases r3;show cv ?_;cases k with
 | false=>show ite_ff (ϧ (.bl false) H3 I3 rfl q3)
 | true=>show ite_tt (chain_last (dM (hc pins s3 σ H3 _ I3 q3) λw' s4 z' H4 I4 r4 q4=>Nt pins s4 σ H4 y z' u w' Q I4 r2 r4 q4))
def RB {r r':R2}(ho:fT X (compareOp op) r)(Nt:fT X (compareOp op') r')(ha:PE X a ta)(hb:PE X b tb)(hc:PE X c tc)
  (hm:autoParam (lastMarks [op,op'] [b,c]=false) L2.aco._auto_1):PT X (.Compare a [op,op'] [b,c] pos) (Xq (RA r r' ta tb tc)):=by
 intro pins s σ H Q I h
 show isTrue_chain (dM (ha pins s σ H _ I h) λv s1 x H1 I1 r1 q1=>test_link (dM (hb pins s1 σ H1 _ I1 q1) λu s2 y H2 I2 r2 q2=>
  dM (ho pins s2 σ H2 x y v u _ I2 r1 r2 q2) λd s3 z H3 I3 r3 q0=>?_)) hm
 (show Ϗ (zX q0) λk e q3=>?_);subst e;cases r3;show cv ?_;cases k with
 | false=>
  (show Ϗ (zX (x:=.bl false) (R:=λk=>Q k H3) q3) λk' e' q'=>?_);cases e';show ite_ff (δ H3 I3 q')
 | true=>
  show ite_tt (test_last (dM (hc pins s3 σ H3 _ I3 q3) λw' s4 z' H4 I4 r4 q4=>dM (Nt pins s4 σ H4 y z' u w' _ I4 r2 r4 q4) λd' s5 z2 H5 I5 r5 q0=>?_));(show Ϗ (zX q0) λk2 e2 q5=>?_);subst e2;cases r5;show cv (δ H5 I5 q5)
abbrev NA (K:ζ)(x:V)(H:Hp)(k:Bool):Prop:=
 match x with
 | .bM=>k=false
 | .bl b=>k=b
 | .int i=>k=(i != 0)
 | .str y=>y.4<=sizeLine/\k=((y.4:Int) != 0)
 | .Jd y=>y.75<=sizeLine/\k=((y.75:Int) != 0)
 | .ref p=>(∃xs,fK K H p xs/\k=!((xs.isEmpty)))\/(∃xs,iV K H p xs/\k=!((xs.isEmpty)))\/∃kvs,H p=!.dK kvs/\k=!((kvs.isEmpty))
 | _=>False
def JE {vs:-(κ×Ω)}(r:KV kvs vs):(!((vs.isEmpty)))=!((kvs.isEmpty)):=by
 cases r<;>rfl
def Ab (r:Vals xs bn):(!((bn.toArray.isEmpty)))=!((xs.isEmpty)):=by
 cases r<;>simp
def wA:(sizeLine:Nat) < 2 ^ 63:=by rw[qm];decide
def Y1:ag3 X (λx H Q=>∃k,NA X.K x H k/\Q k H):=by
 intro pins s σ H x v Q I rx h;(revert h;show ay λk e q=>?_);let hs:=qm;cases x with
 | bM=>
  cases rx;let e':=e;subst e';show truthy_none (δ H I q)
 | bl b=>
  cases rx;let e':=e;subst e';show cv (δ H I q)
 | int i=>
  obtain⟨t,rfl⟩:=rx;let e':=e;subst e';show PySem.P.truthy_int (δ H I q)
 | str y=>
  obtain⟨t,rfl⟩:=rx;obtain⟨hy,e'⟩:y.4<=sizeLine/\k=((y.4:Int) != 0):=e;subst e';show PySem.P.truthy_str () (δ H (I.tok _) q)
 | Jd y=>
  obtain⟨t,rfl⟩:=rx;obtain⟨hy,e'⟩:y.75<=sizeLine/\k=((y.75:Int) != 0):=e;subst e';show W.truthy_bytes () (δ H (I.tok _) q)
 | ref p=>
  cases rx;let e':=e;rcases e' with⟨xs,hx,e'⟩ | ⟨xs,hx,e'⟩ | ⟨kvs,hx,e'⟩
  ·subst e'
   (show au (I.list hx) λbn r pl hz=>?_);let hlen:=r.4;show wpAny_truthy_list pl.18 (by simp only[Ϟ];lk) (δ H (I.tok _) (by rw[Ab r];show q))
  ·subst e'
   (show au (I.tuple hx) λbn r pl hz=>?_);let hlen:=r.4;show truthy_tuple pl (by simp only[Ϟ];lk) (δ H (I.tok _) (by rw[Ab r];show q))
  ·subst e'
   obtain⟨hz,hS,vs,r,m⟩:kvs.4<=sizeLine/\(p == sysModules)=false/\∃vs,KV kvs vs/\s.heap.DictOf (bX X.29 X.w) p vs:=I.cx p _ hx;let hlen:=Paired.length r;show wpAny_truthy_dict hS m () (δ H (I.tok _) (by rw[JE r];show q))
 | _=>show(e).38
def RC (ha:PE X a ta)(he:∀whole,isTrue a X.8 whole=(do let v <-whole;standAt a.pos;holding [v] (truthy v))) :
  PT X a (λσ H Q=>ta σ H λx H'=>∃k,NA X.K x H' k/\Q k H'):=by
 intro pins s σ H Q I h;show isTrue_plain (dM (ha pins s σ H _ I h) λv s1 x H1 I1 r1 q1=>Y1 pins s1 σ H1 x v Q I1 r1 q1) (he _)
def JF:fT X (binaryOp .Add) (λx y H Q=>∃i j,x=.str i/\y=.str j/\i.4+j.4<=sizeLine/\Q (.str (i++j)) H):=by
 intro pins s σ H x y v u Q I rx ry h;(revert h;show su λi j ϐ gO hz q=>?_;subst ϐ;subst gO);obtain⟨t,rfl⟩:=rx;obtain⟨t',rfl⟩:=ry;show add_str (λt' tk=>(ϧ (.str (i++j)) H (I.tok _) ⟨_,rfl⟩ q)) hz
def vals1 {x:V}(r:Vals [x] us):∃u,us=[u]/\RelV x u:=by
 cases r with
 | cons r1 r2=>cases r2;show(δ _ rfl r1)
def vals2 {x y:V}(r:Vals [x,y] us):∃u w',us=[u,w']/\RelV x u/\RelV y w':=by
 cases r with
 | cons r1 r2=>
  cases r2 with
  | cons r3 r4=>cases r4;show(ϧ _ _ rfl r1 r3)
def NB (hc:X.43=true):dJ X (.builtin "min") (λxs H Q=>∃i j,xs=[.int i,.int j]/\Q (.int (if j < i then j else i)) H):=by
 intro pins s σ H xs us Q I r h;(revert h;show dB λi j ϐ q=>?_;subst ϐ);(show kf (vals2 r) λu w' ϐ gO zz3=>?_;subst ϐ;obtain ⟨t,rfl⟩:=gO;obtain ⟨t',rfl⟩:=zz3);show min_two_ints (I.ok.hd hc) λh' tk k=>(ϧ _ H (I.kept k) ?_ q)
 by_cases hj:j < i
 ·rw[ε hj,ε hj];show⟨_,rfl⟩
 ·rw[Ψ hj,Ψ hj];show⟨_,rfl⟩
def ES:dJ X (.type "str") (λxs H Q=>∃i,xs=[.int i]/\i.70 < 1920/\Q (.str (toString i)) H):=by
 intro pins s σ H xs us Q I r h;(revert h;show ia λi ϐ hz q=>?_;subst ϐ);(show Ϗ (vals1 r) λu ϐ=>uf λt gO=>?_;subst ϐ;subst gO);show PySem.P.str_of_int hz (ϧ (.str _) H (I.tok _) ⟨_,rfl⟩ q)
def RD:dJ X (.builtin "ord") (λxs H Q=>∃x,xs=[.str x]/\x.4=1/\Q (.int (x.cps.getD 0 0:Nat)) H):=by
 intro pins s σ H xs us Q I r h;(revert h;show ia λx ϐ hz q=>?_;subst ϐ);(show Ϗ (vals1 r) λu ϐ=>uf λt gO=>?_;subst ϐ;subst gO);show ord_of_one hz (ϧ (.int _) H (I.tok _) ⟨_,rfl⟩ q)
end
structure JG (h:a9)(x dx C:Ν)(mA:Str->Option Ω):Prop where
 obj:h.get? x=!mP C dx
 ns:h.Ns1 dx mA
 ne:dx≠x
def NC {h:a9}(n:h.Ns1 dx mA):∃od,h.get? dx=!od/\∀name,QH name od=!mA name:=by
 (revert n;show ug λo es ep ho hd hk _ hm=>?_);show(δ o ho (λname=>?_));let e:=hm name;unfold nsFind findBy at e;rw[<-Array.find?_toList] at e;unfold QH;rw[hd];dsimp only
 split
 ·rename_i y q
  rw[q] at e;show congrArg some e
 ·rename_i q
  rw[q] at e;let a:es.toList.any (·.refKey)=false:=by
   rw[List.any_eq_false];intro y hy;(show Ri (hk y (Array.mem_toList_iff.mp hy)) λz t ag7=>?_);simp[ajx,ag7]
  let a':¬es.toList.any (·.refKey)=true:=by rw[a];show ώ
  rw[Ψ a'];show congrArg some e
def JG.look {x:Ν}(I:JG h x dx C mA):∃od,W.InstAt h x (mP C dx) C (!od)/\∀name,QH name od=!mA name:=
 let ⟨od,ho,hl⟩:=NC I.ns
 (δ od ⟨I.27,rfl,rfl,ho⟩ hl)
section
variable {s:ς} {K:ζ} {x:Ν} {v:Ω}
def get_map (X:K.In s.12)(I:JG s.12 x dx C mA)(hg:Gj K C name=true)(hh:QI K C=true)
  (ha:jj K (.ref C) name=!none) (hv:mA name=!v) (hv':ajy v=true) (h:Q v { s with toks:=s.23+1 }) :
  wpAny (model prog w) A (getAttr (.ref x) name expr) Q E s:=by
 (show Ϗ I.look λod J hl=>?_);show W.get_value X J (IV hg).1 (W.findObj_own hh ha rfl (by rw[hl,hv])) hv' h
def RE (X:K.In s.12)(I:JG s.12 x dx C mA)(hg:Gj K C name=true)
  (hf:jj K (.ref C) name=!some (.ref f)) (ht:abb K (.ref f)=true) (hv:mA name=none) (h:Q (.ref f,[.ref x]) s) :
  wpAny (model prog w) A (getMethod (.ref x) name pl) Q E s:=by
 (show Ϗ I.look λod J hl=>?_);show W.method_fn X J (IV hg).1 (IV hg).2 hf (alv.mp ht) (by show(QH name od).map (·.isSome)=!false;rw[hl,hv];rfl) h
def Vq {ns:-Str}(X:K.In s.12)(I:JG s.12 x dx C mA)
  (hs:jj K (.ref C) "__setattr__"=!some (.builtin "object.__setattr__")) (hp:agf K C=true) (ht:Xc K C name=!none) (hh:QI K C=true)
  (hw:PySem.Within mA ns) (ND:ns.4<=sizeLine)
  (h:∀h',JG h' x dx C (λy=>if y=name then some v else mA y)->ql dx s.12 h'->Q Unit.unit { s with heap:=h',toks:=s.23+2 }) :
  wpAny (model prog w) A (setAttr (.ref x) name v) Q E s:=by
 (show Ϗ I.look λod J hl=>?_);show W.set_plain X J hs (W.osa_open X J hp ht λb=>?_);(show Ϗ (W.any_some hh) λcd hc hd'=>?_);show θ (ϫ (θ (θ (wpAny_loadPart I.27 (θ (aou (W.looks_clsIn X hc) ?_))))));rw[hd'];show ϫ (θ (ϫ (θ (wpAny_nsSet1 I.ns λh' hn2 UG=>?_))));(show agD (hn2.count (PySem.Within.cons name v hw)) λoD esD epD hoD hdD hcD=>?_);show θ (wpAny_lookBehind hoD (by rw[hdD];show pastItsLine_dict (ϊ hcD (by rw[ω];lk))) (ϫ (h _ ⟨(UG.2 _ (ό I.ne)).trans I.27,hn2,I.ne⟩ UG)))
def RF {vs:-Ω}(X:K.In s.12)(hm:alw K C=true)
  (hi:jj K (.ref C) "__init__"=!some (.ref f)) (hf:W.typeIn K (.ref f)=!.type "function")
  (h:codeAny (model prog w) (A.under (.builtin "type.__call__" ⟨.ref C::vs,kw⟩)) (.call (.ref f) ⟨.ref (s.5+1)::vs,kw⟩) (W.InitBack (s.5+1) R)
   { s with heap:=(s.heap.push iW).push (mP C s.5) }) :
  codeAny (model prog w) A (.call (.ref C) ⟨vs,kw⟩) R s:=by
 obtain⟨hh,g,d,t,os⟩:=s;show W.make_core (W.makes_of X hm) (W.looks_findIn X hi) (λself=>W.bind_fn X self hf) (.inl rfl) h
end
abbrev qu (f:Str)(v:V):-(Str×V)->-(Str×V)
 | []=>[(f,v)]
 | (g,x)::r=>if g=f then(g,v)::r else(g,x)::qu f v r
def xM (f g:Str)(v:V):∀fs:-(Str×V),(qu f v fs).lookup g=if g=f then some v else fs.lookup g
 | []=>by
  change gs g [(f,v)]=_
  by_cases h:g=f
  ·let hb:(g == f)=true:=alv.mpr h
   simp only[gs,hb,ε h]
  ·let hb:(g == f)=false:=dY.mpr h
   simp only[gs,hb,Ψ h]
 | (k,x)::r=>by
  let ih:=xM f g v r;rw[show qu f v ((k,x)::r)=(if k=f then(k,v)::r else(k,x)::qu f v r) from rfl]
  by_cases hk:k=f
  ·rw[ε hk]
   by_cases h:g=k
   ·let hb:(g == k)=true:=alv.mpr h
    simp only[gs,hb,ε (h.trans hk)]
   ·let hb:(g == k)=false:=dY.mpr h
    simp only[gs,hb,Ψ (λe:g=f=>h (e.trans hk.17))]
  ·rw[Ψ hk]
   by_cases h:g=k
   ·let hb:(g == k)=true:=alv.mpr h
    simp only[gs,hb,Ψ (λe:g=f=>hk (h.symm.trans e))]
   ·let hb:(g == k)=false:=dY.mpr h
    simp only[gs,hb];show ih
def wB (f:Str)(v:V):∀fs:-(Str×V),f∈(qu f v fs).map (·.1)/\∀g,g∈fs.map (·.1)->g∈(qu f v fs).map (·.1)
 | []=>⟨by simp[qu],λg h=>by simp at h⟩
 | (k,x)::r=>by
  obtain⟨i1,i2⟩:=wB f v r;rw[show qu f v ((k,x)::r)=(if k=f then(k,v)::r else(k,x)::qu f v r) from rfl]
  by_cases hk:k=f
  ·rw[ε hk]
   subst hk;show⟨∅,λg h=>by simpa using h⟩
  ·rw[Ψ hk]
   show⟨?_,λg h=>?_⟩
   ·rw[ϒ]
    show ψ _ i1
   ·rw[ϒ] at h ⊢
    rcases Ι.mp h with e | e
    ·show Ι.mpr (.inl e)
    ·show ψ _ (i2 g e)
def xN (f:Str)(v:V):∀fs:-(Str×V),(qu f v fs).4<=fs.4+1
 | []=>by simp[qu]
 | (k,x)::r=>by
  let ih:=xN f v r;rw[show qu f v ((k,x)::r)=(if k=f then(k,v)::r else(k,x)::qu f v r) from rfl]
  by_cases hk:k=f
  ·rw[ε hk,ω,ω];lk
  ·rw[Ψ hk,ω,ω];lk
def nI.zt (r:nI (!v) o):∃u,o=!u/\RelV v u:=by
 cases o with
 | none=>show(r).38
 | some u=>show(δ u rfl r)
def nI.none_of (r:nI none o):o=none:=by
 cases o with
 | none=>rfl
 | some u=>show(r).38
def NE (r:RelV v u):ajy u=true:=by
 cases v with
 | bM=>cases (r);rfl
 | bl b=>cases (r);rfl
 | int i=>obtain⟨t,e⟩:=(r);cases e;rfl
 | str x=>obtain⟨t,e⟩:=(r);cases e;rfl
 | Jd b=>obtain⟨t,e⟩:=(r);cases e;rfl
 | Vi b=>obtain⟨t,e⟩:=(r);cases e;rfl
 | ref a=>cases (r);rfl
 | ty n=>cases (r);rfl
section
variable {P:ah} {H H':Hp} {h h':a9} {fs fs':-(Str×V)}
def zu (cx:uT P w H h)(e:H a=!.ins C dx fs):∃mA,JG h a dx C mA/\(∀f,nI (fs.lookup f) (mA f))/\PySem.Within mA (fs.map (·.1))/\fs.4<=1000/\H dx=!.own a:=by
 (show Vg (cx a _ e) λd z ne ob=>ia λmA n r q=>?_);show(GD mA ⟨ob,n,ne⟩ r q z d)
end
structure DB (K:ζ)(C:Ν):Prop where
 pg:Gj K C ze=true
 hd:QI K C=true
 po:agf K C=true
 sa:jj K (.ref C) "__setattr__"=!some (.builtin "object.__setattr__")
def DB.get {K:ζ}(c:DB K C)(f:Str):Gj K C f=true:=c.pg
abbrev bw (K:ζ)(C:Ν)(f:Str):Prop:=jj K (.ref C) f=!none
def bw.acV {K:ζ}{f:Str}(n:bw K C f):Xc K C f=!none:=by
 unfold Xc;rw[show jj K (.ref C) f=!none from n];rfl
structure JH (K:ζ)(C:Ν)(m:Str)(f:Ν):Prop where
 at_:jj K (.ref C) m=!some (.ref f)
 fn:abb K (.ref f)=true
 kp:ix K (.ref f)=true
section
variable {X:Cx} {σ:St} {H:Hp} {s:ς} {fs:-(Str×V)} {f:Str} {v:V}  
def JI {b:Bool}(I:Inv X pins σ H s)(e:H a=!.ins C dx fs)(c:DB X.K C)(n:bw X.K C f)(l:fs.lookup f=!v)
  (h:∀u s',Inv X pins σ H s'->RelV v u->Q u s'):wpAny X.mo A (getAttr (.ref a) f b) Q E s:=by
 (show Nl (zu I.cx e) λmA O r _ _ _=>?_);(show Ϗ (nI.zt (by rw[<-l];show r f)) λu hu ru=>?_);show get_map I.wm O (c.get f) c.hd n hu (NE ru) (h u _ (I.tok _) ru)
def Ac (I:Inv X pins σ H s)(e:H a=!.ins C dx fs)(c:DB X.K C)(k:JH X.K C m g)(l:fs.lookup m=none)
  (h:Q (.ref g,[.ref a]) s):wpAny X.mo A (getMethod (.ref a) m pl) Q E s:=by
 (show Nl (zu I.cx e) λmA O r _ _ _=>?_);show RE I.wm O (c.get m) k.at_ k.fn (nI.none_of (by rw[<-l];show r m)) h
def JJ (I:Inv X pins σ H s)(e:H a=!.ins C dx fs)(c:DB X.K C)(n:bw X.K C f)(hl:fs.4 < 1000)(ry:RelV y u)
  (h:∀s',Inv X pins σ (upd H a (.ins C dx (qu f y fs))) s'->Q Unit.unit s'):wpAny X.mo A (setAttr (.ref a) f u) Q E s:=by
 (show Nl (zu I.cx e) λmA O r wi _ ho=>?_);let hz:(fs.map (·.1)).4<=sizeLine:=by rw[Η,qm];lk
 show Vq I.wm O c.sa c.po n.acV c.hd wi hz λh' O' sb=>h _ ?_;let hd:∃o,h'.get? dx=!o:=let ⟨o,_,_,e',_⟩:=O'.ns;⟨o,e'⟩;show I.write (by rw[e];show bo) (.inr ho) (λb q hb z=>(sb.2 b hb).trans z) hd ⟨by rw[ν O.ne];show ho,?_,O.ne,O'.27,(ac _ O'.ns (λg=>?_) (λg hg=>?_))⟩
 ·have:=xN f y fs;lk
 ·change nI ((qu f y fs).lookup g) (if g=f then some u else mA g)
  rw[xM]
  by_cases q:g=f
  ·rw[ε q,ε q];show ry
  ·rw[Ψ q,Ψ q];show r g
 ·by_cases q:g=f
  ·rw[q];show(wB f y fs).1
  ·show(wB f y fs).2 g (wi g λz=>hg ?_)
   rw[Ψ q];show z
def Inv.made (I:Inv X pins σ H s):Inv X pins σ (upd (upd H s.5 (.own (s.5+1))) (s.5+1) (.ins C s.5 []))
  { s with heap:=(s.heap.push iW).push (mP C s.5) }:=by
 let e1:(s.heap.push iW).get? s.5=!iW:=ϑ s.12 rfl;let e2:((s.heap.push iW).push (mP C s.5)).get? (s.5+1)=!mP C s.5:=by
  have:=ϑ (s.heap.push iW) (o:=mP C s.5) rfl
  rwa [bp] at this
 let e3:(s.heap.push iW).Ns s.5 (λ_=>none):=(aL iW (#[]) _ e1 rfl (λe he=>absurd he ∅) (λ_=>rfl))
 show (I.laid (o:=.own (s.5+1)) (t':=s.23) (λb u q=>Χ _ q) (ξ _) ⟨_,e1⟩).laid (λb u q=>Χ _ q) (IW (bp _ _)) ?_;let ne:s.5≠s.5+1:=Ϫ (fh _);show⟨by rw[ν ne,Δ],Ϝ _,ne,e2,(ac (λ_=>none) ((alx e3).at λo q=>Χ _ q) (λ_=>bo) (λy hy=>absurd rfl hy))⟩
def Vr (hb:attributeBase e f env (eval e env)=eval e env)
  (h:wpAny (model prog w) A (eval e env) (λo s₁=>wpAny (model prog w) A (getAttr o f true) Q E s₁) E s):wpAny (model prog w) A (eval (.Attribute e f pos) env) Q E s:=
 Attribute_any_ h (by rw[arm_eval_Attribute,hb])
end
abbrev Y2 (K:ζ)(ta:TE)(f:Str):TE:=λσ H Q=>ta σ H λx H1=>YK x λa=>∃C dx fs,H1 a=!.ins C dx fs/\DB K C/\bw K C f/\∃v,fs.lookup f=!v/\Q v H1
abbrev ag8 (K:ζ)(ta tv:TE)(f:Str):TS:=λD σ H=>tv σ H λy H1=>ta σ H1 λx H2=>YK x λa=>∃C dx fs,H2 a=!.ins C dx fs/\DB K C/\bw K C f/\fs.4 < 1000/\
 D.nx σ (upd H2 a (.ins C dx (qu f y fs)))
section
variable {X:Cx} {o:bS} {f:Str} {ta tv:TE}
def Y3 (he:PE X e ta)(hb:attributeBase e f X.8 (eval e X.8)=eval e X.8):PE X (.Attribute e f pos) (Y2 X.K ta f):=by
 intro pins s σ H Q I h;show Vr hb (dM (he pins s σ H _ I h) λu s1 x H1 I1 rx q0=>?_);(show Ϗ (EL q0) λa ex=>Ve λC dx fs ea c n=>ay λv l q=>?_);subst ex;obtain rfl:u=cC a:=rx;show JI I1 ea c n l λu' s2 I2 ru=>(ϧ v H1 I2 ru q)
def bU (ha:PE X o ta)(hv:PE X value tv)(hs:swapsWith value (!.Attribute o f pos') pos.60 X.8=pure false):PS X (.Assign [.Attribute o f pos'] value pos) (ag8 X.K ta tv f):=by
 intro pins s σ H D I h;show plainObj_wpAny_Assign_Attribute (dM (hv pins s σ H _ I h) λu s1 y H1 I1 ry q=>dM (ha pins s1 σ H1 _ I1 q) λov s2 x H2 I2 rx q0=>?_) hs;(show Ϗ (EL q0) λa ex=>ug λC dx fs ea c n l q2=>?_);subst ex;obtain rfl:ov=cC a:=rx;show JJ I2 ea c n l ry λs3 I3=>(cJ σ _ I3 q2)
end
section
variable {X:Cx} {σ:St} {H:Hp} {s:ς} {Q:Ω->ς->Prop} {c:Ω} {b:Bool}
inductive mT (K:ζ) (H:Hp):V->Ω->Prop where
 | bM:mT K H .bM (.type "NoneType")
 | bl (x:Bool):mT K H (.bl x) (.type "bool")
 | int (i:Int):mT K H (.int i) (.type "int")
 | str (x:Str):mT K H (.str x) (.type "str")
 | Vi (x:UInt64):mT K H (.Vi x) (.type "float")
 | lst {a:Ν} {xs:-V} (e:H a=!.lst xs):mT K H (.ref a) (.type "list")
 | Nq {a:Ν} {o:Obj} {xs:-V} (e:H a=!.Nq o (.lst xs)):mT K H (.ref a) (.type "list")
 | tup {a:Ν} {xs:-V} (e:H a=!.tup xs):mT K H (.ref a) (.type "tuple")
 | dK {a:Ν} {kvs:-(Key×V)} (e:H a=!.dK kvs):mT K H (.ref a) (.type "dict")
 | dT {a:Ν} {kvs:-(-Key×V)} (e:H a=!.dT kvs):mT K H (.ref a) (.type "dict")
 | ins {a C dx:Ν} {fs:-(Str×V)} (e:H a=!.ins C dx fs) (cl:DB K C) (ha:jj K (.ref C) "__class__"=!some (.builtin "object.__class__"))
   (hn:W.specialIn K (.builtin "object.__class__") "__get__"=!some (.builtin "getset_descriptor.__get__")) (Vs:W.takesIn K (.builtin "object.__class__")=!true)
   (hm:W.mroIn K C (.type "object")=!true):mT K H (.ref a) (.ref C)
def DC {x:V}{t:Ω}(I:Inv X pins σ H s)(rx:RelV x u)(ty:mT X.K H x t)(e:QJ X.K t c=!b)(h:∀tk,Q (.bool b) { s with toks:=tk }) :
  wpAny X.mo A (call (.builtin "isinstance") [u,c]) Q E s:=by
 cases ty with
 | bM=>cases (rx);show gU W.kitx_none I.wm bo e (λz=>nomatch z) h
 | bl y=>cases (rx);show gU W.kitx_bool I.wm bo e (λz=>nomatch z) h
 | int i=>obtain⟨t,q⟩:=(rx);cases q;show gU W.kitx_int I.wm bo e (λz=>nomatch z) h
 | str y=>obtain⟨t,q⟩:=(rx);cases q;show gU W.kitx_str I.wm bo e (λz=>nomatch z) h
 | Vi y=>obtain⟨t,q⟩:=(rx);cases q;show gU W.kitx_float I.wm bo e (λz=>nomatch z) h
 | @lst a xs ea=>
  cases (rx);(show uZ (I.cx a _ ea) λ_=>dB λ_ n _ h1=>?_);show gU agg I.wm (δ _ h1 rfl) e (λz=>nomatch z) h
 | @Nq a ob xs ea=>
  cases (rx);(show cW (I.cx a _ ea) λ_ _=>dB λ_ n _ h1=>?_);show gU agg I.wm (δ _ h1 rfl) e (λz=>nomatch z) h
 | @tup a xs ea=>
  cases (rx);(show uZ (I.cx a _ ea) λ_=>ay λ_ _ p=>?_);(revert p;show ia λo h1 h2 _=>?_);show gU W.kitx_tuple I.wm (δ o h1 h2) e (λz=>nomatch z) h
 | @dK a kvs ea=>
  cases (rx);(show cW (I.cx a _ ea) λ_ _=>ay λvs _ p=>?_);(revert p;show wv λo es ep h1 h2 _=>?_);show gU agh I.wm (δ o h1 h2.1) e (λz=>nomatch z) h
 | @dT a kvs ea=>
  cases (rx);(show cW (I.cx a _ ea) λ_ _=>ay λxs _=>wv λo es ep h1 h2 _=>?_);show gU agh I.wm (δ o h1 h2.1) e (λz=>nomatch z) h
 | @ins a C dx fs ea cl ha hn Vs hm=>
  cases (rx);(show Ϗ (zu I.cx ea) λmA O _=>?_);(show Ϗ O.look λod J _=>?_);show gU (W.kitx_own (cl.get _) cl.hd ha hn Vs hm) I.wm J e (λz=>nomatch z) h
end
structure ga (k:Nat)(A:sY):Prop where
 hd:A.41=none
 dp:A.63+3 * k+5 < recursionLimit
 un:A.20+16 * k+200 < cLine
def ga.mono (r:ga k A)(h:j<=k):ga j A:=⟨r.hd,by have:=r.dp;lk,by have:=r.un;lk⟩
def ga.deeper (r:ga (k+1) A)(env:Env):ga k (A.deeper env):=
 ⟨r.hd,by have:=r.dp;change A.63+1+3 * k+5 < _;lk,by have:=r.un;change A.20+3+16 * k+200 < _;lk⟩
def JK :(A.under (.builtin "type.__call__" ⟨.ref C::us,kw⟩)).63=A.63+1:=by
 first | rfl | simp[Code.weight]
def JL :(A.under (.builtin "type.__call__" ⟨.ref C::us,kw⟩)).20=A.20+1:=by
 first | rfl | simp[Code.cUnits]
def ga.make (r:ga (k+1) A)(C:Ν)(us:-Ω)(kw:-(Str×Ω)):ga k (A.under (.builtin "type.__call__" ⟨.ref C::us,kw⟩)):=
 ⟨r.hd,by have:=r.dp;rw[JK];lk,by have:=r.un;rw[JL];lk⟩
def ga.depth (r:ga k A):A.63 < recursionLimit:=by have:=r.dp;lk
def ga.units (r:ga k A):A.20+64 < cLine:=by have:=r.un;lk
abbrev RG:TA:=λ_ H Q=>Q [] H
abbrev Mo (ta:TE)(tr:TA):TA:=λσ H Q=>ta σ H λx H1=>tr σ H1 λxs H2=>Q (x::xs) H2
section
variable {X:Cx} {te:TE} {t:TA} 
def eR:PA X [] RG:=λ_ _ _ _ H Q I h=>cf (ϧ ([]) H I (.nil) h)
theorem RH (X:Cx)(e:bS)(es:-bS):Prop:=starEach (e::es) X.8=(false,eval e X.8)::starEach es X.8
def ϕ (ha:PE X e te)(hr:PA X es t)(hs: ~~~(RH X e es)):PA X (e::es) (Mo te t):=by
 intro pos pins s σ H Q I h;rw[hs];show aM (dM (ha pins s σ H _ I h) λu s1 x H1 I1 r1 q1=>zW (hr pos pins s1 σ H1 _ I1 q1) λus s2 xs H2 I2 r2 q2=>(ϧ (x::xs) H2 I2 (.cons r1 r2) q2))
abbrev ag9 (t:TA):TE:=λσ H Q=>t σ H λxs H1=>xs.4<=sizeLine/\∀p,H1 p=none->Q (.ref p) (upd H1 p (.tup xs))
abbrev ag' (t:TA):TE:=λσ H Q=>t σ H λxs H1=>xs.4<=sizeLine/\∀p,H1 p=none->Q (.ref p) (upd H1 p (.lst xs))
def bi {x1}(h:PA X es t):PE X (.Tuple es x1 pos) (ag9 t):=by
 intro pins s σ H Q I hq;show wpAny_Tuple_spliced (iZ (h pos pins s σ H _ I hq) λus s1 η=>ww η λxs H1 I1 r z q=>⟨by rw[<-r.4];show z,?_⟩);show(ϧ (.ref s1.5) (upd H1 s1.5 (.tup xs)) (I1.laid (λb u e=>Χ _ e) (ξ _) ?_) rfl (q _ (I1.cx.fresh (ξ _))));show⟨z,(δ us r (ac _ (ϑ _ rfl) rfl (qq _ rfl)))⟩
def ap (h:PA X es t):PE X (.List es pos) (ag' t):=by
 intro pins s σ H Q I hq;show wpAny_List_spliced (iZ (h pos pins s σ H _ I hq) λus s1 η=>ww η λxs H1 I1 r z q=>⟨by rw[<-r.4];show z,?_⟩);show(ϧ (.ref s1.5) (upd H1 s1.5 (.lst xs)) (I1.laid (λb u e=>Χ _ e) (ξ _) ?_) rfl (q _ (I1.cx.fresh (ξ _))));show⟨z,(cJ us 0 r (ϑ _ rfl))⟩
end
noncomputable abbrev Sp:=-V->Hp->VK->XK->Prop
noncomputable abbrev RI:=-Env->Hp->ς->XK->Ω->ς->Prop
structure JM (P:ah)(w:dX)(K:ζ)(mg:Str->Option Ω)(base:a9)(A:sY)(outer:-Env)(s:ς)(H:Hp):Prop where
 frames:A.50=!outer
 mod:Mod K mg base
 bs:∀b o,base.get? b=!o->s.heap.get? b=!o/\H b=none
 Vl:base.7<=s.5
 wx:s.heap.FunFrames base outer
 Xm:∀b∈Ju outer,H b=none
 cx:uT P w H s.12
 bare:sZ s.69
abbrev CE (outer:-Env)(P:ah)(w:dX)(H:Hp)(s:ς)(Q:VK)(u:Ω)(s':ς):Prop:=
 ∃v H',s'.os=s.os/\sZ s'.69/\Un (Ju outer) [] H H' s.12 s'.12/\uT P w H' s'.12/\RelV v u/\Q v H'
abbrev CR (CX:RI)(outer:-Env)(P:ah)(w:dX)(H:Hp)(s:ς)(Q:VK)(E:XK)(r:QK)(s':ς):Prop:=
 match r with
 | .ok (.ret u)=>CE outer P w H s Q u s'
 | .ok _=>False
 | .error e=>CX outer H s E e s'
structure qv (P:ah)(w:dX)(K:ζ)(mg:Str->Option Ω)(base:a9)(CX:RI)(k:Nat)(f:Ν)(fd:fF)(ps:-Str)(sp:Sp):Prop where
 len:∀vs H Q E,sp vs H Q E->vs.4=ps.4
 run:∀(A:sY) (outer:-Env) (s:ς) (H:Hp) (args:Args) (us:-Ω) (vs:-V) (Q:VK) (E:XK),ga k A->JM P w K mg base A outer s H->Gq s fd args (ps.zip us)->Vals vs us->sp vs H Q E->
  codeAny (model P w) A (.call (.ref f) args) (CR CX outer P w H s Q E) s
def JM.make {K:ζ}(e:JM P w K mg base A outer s H)(C:Ν)(us:-Ω)(kw:-(Str×Ω)) :
  JM P w K mg base (A.under (.builtin "type.__call__" ⟨.ref C::us,kw⟩)) outer s H:=⟨by first | show e.50 | (simpa [apP,Code.envs,Code.isFrame,pushEnvs] using e.50),e.mod,e.bs,e.Vl,e.wx,e.Xm,e.cx,e.52⟩
section
variable {X:Cx} {σ:St} {H:Hp} {s:ς}
def Inv.acX (I:Inv X pins σ H s):JM X.29 X.w X.K X.mg X.49 X.A X.37 s H:=
 ⟨I.ok.50,I.96,I.bs,ϊ I.ok.Vl I.sz,I.37,I.Md,I.cx,I.52⟩
def Inv.after (I:Inv X pins σ H s)(h:CE X.37 X.29 X.w H s Q u s'):EP X pins σ Q u s':=by
 (revert h;show yx λv H' os bare un cx=>ke λr q=>?_);obtain⟨hh,g,d,t,os'⟩:=s';obtain rfl:os'=s.os:=os;show(ϧ v H' (I.call un cx bare (λb z=>absurd z ∅)) r q)
end
abbrev Xr (sp:Sp)(Ad:-V)(E:XK)(t:TA):TE:=λσ H Q=>t σ H λvs H1=>sp (vs++Ad) H1 Q E
abbrev RJ (C:Ν)(m:Str)(sp:Sp)(Ad:-V)(E:XK)(ta:TE)(t:TA):TE:=λσ H Q=>ta σ H λx H1=>YK x λa=>∃dx fs,H1 a=!.ins C dx fs/\fs.lookup m=none/\
 t σ H1 λvs H2=>sp (x::(vs++Ad)) H2 Q E
abbrev Xt (C:Ν)(sp:Sp)(Ad:-V)(E:XK)(t:TA):TE:=λσ H Q=>t σ H λvs H1=>∀x dx,H1 x=none->H1 dx=none->dx≠x->
 sp (.ref x::(vs++Ad)) (upd (upd H1 dx (.own x)) x (.ins C dx [])) (λv H2=>v=.bM/\Q (.ref x) H2) E
abbrev Binds (K:ζ)(fd:fF)(ps:-Str)(ds:-Ω):Prop:=
 ∀s us,K.In s.12->(us++ds).4=ps.4->Gq s fd ⟨us,[]⟩ (ps.zip (us++ds))
def Binds.all {K:ζ}(h:∀us:-Ω,us.4=ps.4->bindArgs fd ⟨us,[]⟩=pure (ps.zip us)):Binds K fd ps []:=λs us _ hl=>by
 rw[cV] at hl ⊢;show .of_eq (h us hl)
abbrev Passes (CX:RI)(X:Cx)(E:XK):Prop:=∀pins σ H s e s',Inv X pins σ H s->CX X.37 H s E e s'->X.xe e s'
section
variable {X:Cx} {CX:RI} {k:Nat} {ps:-Str} {sp:Sp} {Ad:-V} {E:XK} {m:Str} {o:bS} {ta:TE} {t:TA}
noncomputable abbrev Cx.Fo (X:Cx):=qv X.29 X.w X.K X.mg X.49
def ET {vs:-V}(F:X.Fo CX k f fd ps sp)(hr:ga k X.A)(hb:Binds X.K fd ps ds)(hd:Vals Ad ds)(hx:Passes CX X E)
  (I:Inv X pins σ H s) (r:Vals vs us) (h:sp (vs++Ad) H Q E):wpAny X.mo X.A (call (.ref f) us) (EP X pins σ Q) X.xe s:=by
 let r2:=r.append hd;let hl:(us++ds).4=ps.4:=by rw[<-r2.4];show F.len _ _ _ _ h
 show IY (ii (F.run X.A X.37 s H ⟨us,[]⟩ (us++ds) (vs++Ad) Q E hr I.acX (hb s us I.wm hl) r2 h) λr s' hq=>?_);cases r with
 | error e=>show hx pins σ H s e s' I hq
 | ok fl=>
  cases fl with
  | ret u=>show I.after hq
  | next=>show bB hq
  | brk=>show bB hq
  | cont=>show bB hq
theorem Xu (X:Cx)(pos:Pos)(es:-bS):Prop:=(backTo pos (starEach es X.8)).any (·.1)=false
def Vt (F:X.Fo CX k f fd ps sp)(hr:ga k X.A)(hg:Gl X x)(hm:X.mg x=!.ref f)(hk:ix X.K (.ref f)=true)(hb:Binds X.K fd ps ds)(hd:Vals Ad ds)(hx:Passes CX X E)
  (ha:PA X (e::es) t) (RK:autoParam (EM x) L2.fR._auto_1) (he: ~~~(RH X e es)) (lZ: ~~~(Xu X pos es)) :
  PE X (.Call (.Name x p) (e::es) [] pos) (Xr sp Ad E t):=by
 intro pins s σ H Q I h;show bW (zr I hg hm (zg I.64 hk (zW (ha pos pins s σ H _ I h) λus s1 vs H1 I1 r q=>⟨I1.wm,?_⟩) he lZ) RK);show ET F hr hb hd hx I1 r q
def zw (he:PE X o ta)(c:DB X.K C)(hm:JH X.K C m f)(F:X.Fo CX k f fd ps sp)(hr:ga k X.A)(hb:Binds X.K fd ps ds)(hd:Vals Ad ds)(hx:Passes CX X E)(ha:PA X (e::es) t)
  (iA: ~~~(RH X e es)) (lZ: ~~~(Xu X pos es))
  (ht:autoParam (eval (.Call (.Attribute o m apos) (e::es) [] pos) X.8=(do
   let ov <-eval o X.8
   standAt apos.atName
   let (f,first) <-holding [ov] (getMethod ov m pl)
   callWith pos f first (backTo pos (starEach (e::es) X.8)) (backToKw pos (keywordEach [] X.8)))) L2.ai._auto_1) :
  PE X (.Call (.Attribute o m apos) (e::es) [] pos) (RJ C m sp Ad E ta t):=by
 intro pins s σ H Q I h;show Yu (dM (he pins s σ H _ I h) λu s1 x H1 I1 rx q0=>?_) ht;(show Ϗ (EL q0) λa ex=>gI λdx fs ea l q=>?_);subst ex;obtain rfl:u=cC a:=rx;show Ac I1 ea c hm l (zg I.64 hm.kp (zW (ha pos pins s1 σ H1 _ I1 q) λus s2 vs H2 I2 r q2=>⟨I2.wm,?_⟩) iA lZ);show ET (vs:=.ref a::vs) F hr hb hd hx I2 (.cons rfl r) q2
def nJ (he:PE X o ta)(c:DB X.K C)(hm:JH X.K C m f)(F:X.Fo CX k f fd ps sp)(hr:ga k X.A)(hb:Binds X.K fd ps ds)(hd:Vals Ad ds)(hx:Passes CX X E)
  (ht:autoParam (eval (.Call (.Attribute o m apos) [] [] pos) X.8=(do
   let ov <-eval o X.8
   standAt apos.atName
   let (f,first) <-holding [ov] (getMethod ov m pl)
   callWith pos f first (backTo pos (starEach [] X.8)) (backToKw pos (keywordEach [] X.8)))) L2.ai._auto_1) :
  PE X (.Call (.Attribute o m apos) [] [] pos) (RJ C m sp Ad E ta RG):=by
 intro pins s σ H Q I h;show Yu (dM (he pins s σ H _ I h) λu s1 x H1 I1 rx q0=>?_) ht;(show Ϗ (EL q0) λa ex=>gI λdx fs ea l q=>?_);subst ex;obtain rfl:u=cC a:=rx;show Ac I1 ea c hm l (ab' I1.wm hm.kp (ET (vs:=[.ref a]) F hr hb hd hx I1 (.cons rfl .nil) q))
structure Mk (K:ζ)(C f:Ν):Prop where
 makes:alw K C=true
 init:jj K (.ref C) "__init__"=!some (.ref f)
 fn:abb K (.ref f)=true
 kp:ix K (.ref C)=true
def GK {vs:-V}(M:Mk X.K C f)(F:X.Fo CX k f fd ps sp)(hr:ga (k+1) X.A)(hb:Binds X.K fd ps ds)(hd:Vals Ad ds)
  (hx:Passes CX X E) (I:Inv X pins σ H s) (r:Vals vs us)
  (h:∀x dx,H x=none->H dx=none->dx≠x->sp (.ref x::(vs++Ad)) (upd (upd H dx (.own x)) x (.ins C dx [])) (λv H2=>v=.bM/\Q (.ref x) H2) E) :
  wpAny X.mo X.A (call (.ref C) us) (EP X pins σ Q) X.xe s:=by
 let hq:=h (s.5+1) s.5 (I.cx.fresh (gD _)) (I.cx.fresh (ξ _)) (Ϫ (fh _));let I2:=Inv.made (C:=C) I;let r2:Vals (V.ref (s.5+1)::(vs++Ad)) (cC (s.5+1)::(us++ds)):=.cons rfl (r.append hd);let hl:(cC (s.5+1)::us++ds).4=ps.4:=by
  let e:=r2.4;rw[F.len _ _ _ _ hq] at e;show e.17
 show IY (RF I.wm M.makes M.init (alv.mp M.fn) (ii (F.run _ X.37 _ _ ⟨cC (s.5+1)::us,[]⟩ (cC (s.5+1)::(us++ds)) _ _ E (hr.make C us [])
  (I2.acX.make C us []) (hb _ (cC (s.5+1)::us) I2.wm hl) r2 hq) λr s' hq'=>?_))
 cases r with
 | error e=>show hx pins σ _ _ e s' I2 hq'
 | ok fl=>
  cases fl with
  | ret u=>
   (show ww (I2.after hq') λv H' I3 rv ev q3=>?_);subst ev;show⟨rv,(ϧ (V.ref (s.5+1)) H' I3 rfl q3)⟩
  | next=>show bB hq'
  | brk=>show bB hq'
  | cont=>show bB hq'
def zx (M:Mk X.K C f)(F:X.Fo CX k f fd ps sp)(hr:ga (k+1) X.A)(hg:Gl X x)(hm:X.mg x=!.ref C)(hb:Binds X.K fd ps ds)(hd:Vals Ad ds)(hx:Passes CX X E)
  (ha:PA X (e::es) t) (RK:autoParam (EM x) L2.fR._auto_1) (he: ~~~(RH X e es)) (lZ: ~~~(Xu X pos es)) :
  PE X (.Call (.Name x p) (e::es) [] pos) (Xt C sp Ad E t):=by
 intro pins s σ H Q I h;show bW (zr I hg hm (zg I.64 M.kp (zW (ha pos pins s σ H _ I h) λus s1 vs H1 I1 r q=>⟨I1.wm,?_⟩) he lZ) RK);show GK M F hr hb hd hx I1 r q
def qH (M:Mk X.K C f)(F:X.Fo CX k f fd ps sp)(hr:ga (k+1) X.A)(hg:Gl X x)(hm:X.mg x=!.ref C)(hb:Binds X.K fd ps ds)(hd:Vals Ad ds)(hx:Passes CX X E)
  (RK:autoParam (EM x) L2.fR._auto_1):PE X (.Call (.Name x p) [] [] pos) (Xt C sp Ad E RG):=by
 intro pins s σ H Q I h;show bW (zr I hg hm (ab' I.wm M.kp (GK M F hr hb hd hx I .nil h)) RK)
end
structure ρ (N P:-Str)(sc:rN):Prop where
 kind:sc.57=.function
 co:sc.isCoroutine=false
 gen:sc.isGenerator=false
 nd:N.13
 pre:N.take P.4=P
 par:∀x∈P,sc.names.lookup x=!.local\/sc.names.lookup x=!.cell
 Y4:∀y∈sc.31,y.2≠.free
def DD {kindOf:Str->Option dZ}:∀{binds:-(Str×Ω)} {m:Str->Option Ω},(∀v,(x,v)∉binds)->bindL kindOf binds m x=m x
 | [],_,_=>rfl
 | (n,v)::r,m,h=>by
  unfold bindL;rw[DD λw hw=>h w (ψ _ hw)]
  split
  ·have:x≠n:=by rintro rfl;show h v Ϭ
   simp[this]
  ·rfl
def DE {kindOf:Str->Option dZ}:∀{binds:-(Str×Ω)} {m:Str->Option Ω},(∀v,(x,v)∉binds)->bindC kindOf binds m x=m x
 | [],_,_=>rfl
 | (n,v)::r,m,h=>by
  unfold bindC;rw[DE λw hw=>h w (ψ _ hw)]
  split
  ·rfl
  ·have:x≠n:=by rintro rfl;show h v Ϭ
   simp[this]
def DF {kindOf:Str->Option dZ}{v:Ω}:∀{P:-Str} {vs:-Ω} {i:Nat} {m:Str->Option Ω},P.13->P[i]?=!x->vs[i]?=!v->kindOf x=!.local->
  bindL kindOf (P.zip vs) m x=!v
 | [],_,_,_,_,h,_,_=>by simp at h
 | _::_,[],_,_,_,_,h,_=>by simp at h
 | p::P,w::vs,0,m,nd,h1,h2,hk=>by
  simp at h1 h2;subst h1;subst h2;change bindL kindOf ((p,w)::P.zip vs) m p=_;unfold bindL;rw[DD λv hv=>(Ϛ.mp nd).1 (zK hv).1,ε hk];simp
 | p::P,w::vs,i+1,m,nd,h1,h2,hk=>by
  change bindL kindOf ((p,w)::P.zip vs) m x=_;unfold bindL;show DF (i:=i) (Ϛ.mp nd).2 (by simpa using h1) (by simpa using h2) hk
def DG {kindOf:Str->Option dZ}{v:Ω}:∀{P:-Str} {vs:-Ω} {i:Nat} {m:Str->Option Ω},P.13->P[i]?=!x->vs[i]?=!v->kindOf x≠!.local->
  bindC kindOf (P.zip vs) m x=!v
 | [],_,_,_,_,h,_,_=>by simp at h
 | _::_,[],_,_,_,_,h,_=>by simp at h
 | p::P,w::vs,0,m,nd,h1,h2,hk=>by
  simp at h1 h2;subst h1;subst h2;change bindC kindOf ((p,w)::P.zip vs) m p=_;unfold bindC;rw[DE λv hv=>(Ϛ.mp nd).1 (zK hv).1,Ψ hk];simp
 | p::P,w::vs,i+1,m,nd,h1,h2,hk=>by
  change bindC kindOf ((p,w)::P.zip vs) m x=_;unfold bindC;show DG (i:=i) (Ϛ.mp nd).2 (by simpa using h1) (by simpa using h2) hk
abbrev start (N:-Str)(vs:-V):St:=vs.map some++dH (N.4 - vs.4) none
abbrev Ae (CX:RI)(P:ah)(w:dX)(K:ζ)(mg:Str->Option Ω)(base:a9)(N:-Str)(qual:Str)(scope:rN)(f:Ν)(cd:Ω)(A:sY)(outer:-Env)(s:ς)(H:Hp)(E:XK):Cx where
 prog:=P
 w:=w
 K:=K
 mg:=mg
 base:=base
 A:=A.deeper (envOfC qual scope s.5 f cd)
 N:=N
 s₀:=s
 H₀:=H
 env:=envOfC qual scope s.5 f cd
 outer:=outer
 stack:=envOfC qual scope s.5 f cd::outer
 ex:=[]
 calm:=true
 fn:=λ_=>true
 pn:=[]
 xe:=λe s'=>wpAny (model P w) (A.deeper (envOfC qual scope s.5 f cd)) (leaving (envOfC qual scope s.5 f cd) e) (λ_ UH=>CX outer H s E e UH) (λe' UH=>CX outer H s E e' UH) s'
def GL (h:sc.names.lookup x=!.cell):∃c,(cellsFrom n sc.31 []).lookup x=!c:=by
 show aJ.mp (Xd sc.31 n [] (.inl h))
def DH {K:ζ}{E:XK}{us:-Ω}{vs:-V}
  (S:ρ N ps scope) (hd:A.41=none) (e0:JM P w K mg base A outer s H) (hl:vs.4=ps.4) (r:Vals vs us)
  (x:InCallC s s.5 (bindL (envOfC qual scope s.5 f cd).kindOf (ps.zip us) λ_=>none) (cellsFrom (s.5+1) scope.31 []) (bindC (envOfC qual scope s.5 f cd).kindOf (ps.zip us) λ_=>none) s1) :
  Inv (Ae CX P w K mg base N qual scope f cd A outer s H E) [] (start N vs) H s1:=by
 let lZ:ps.4<=N.4:=by have:=congrArg be S.pre;rw[af] at this;lk
 (show zU x.done λh1 tk ϐ hk=>?_;subst ϐ);let noA:∀b:Ν,b∉(Ae CX P w K mg base N qual scope f cd A outer s H E).ex:=λb z=>absurd (show b∈([]:-Ν) from z) ∅
 show⟨⟨e0.mod,S.kind,rfl,rfl,ξ _,λy z c h1 h2=>?_,λy hy=>?_,λy c _ h=>?_,λ_=>hd,apQ e0.50,.inr ⟨rfl,rfl⟩,λb z=>absurd z (noA b),e0.bs,e0.Vl,λb _ _=>noA b,λb z=>absurd z (noA b),e0.wx,e0.Xm⟩,
  rfl,e0.52,Un.kept hk,(δ _ x.toInCall.ns (λi y v h1 h2 h3=>?_)),λy c h=>⟨_,x.cell y c h⟩,e0.cx.fresh (ξ _),λy c h=>?_,λp hp=>absurd (show p∈([]:-(Ν×Obj)) from hp) ∅,e0.cx.kept hk,?_⟩
 ·show name_of_addr x.apart (PySem.mem_of_lookup h1) (PySem.mem_of_lookup h2)
 ·let hy:=hy
  rcases hy with hy | hy
  ·show GL hy
  ·show absurd rfl (S.Y4 _ (PySem.mem_of_lookup hy))
 ·show xF (x.above y c (PySem.mem_of_lookup h))
 ·let hi:i < vs.4:=by
   unfold start at h2
   by_cases hi:i < vs.4
   ·show hi
   ·rw[Ϙ (by simpa using hi)] at h2
    rw[Gk] at h2
    split at h2<;>cases h2
  let ha:vs[i]?=!v:=by
   unfold start at h2;rw[ϟ (by simpa using hi),Ξ] at h2;cases e:vs[i]? with
   | none=>rw[e] at h2;cases h2
   | some a=>rw[e] at h2;cases h2;rfl
  (show Ϗ (r.get ha) λu hu rv=>?_);let hp:ps[i]?=!y:=by
   rw[<-S.pre,nz ()];show h1
  let ndP:ps.13:=by rw[<-S.pre];show S.nd.sublist (List.take_sublist _ _)
  show(δ u rv ?_);rcases S.par y (Β hp) with k | k
  ·show .inl ⟨k,DF ndP hp hu k⟩
  ·obtain⟨c,e⟩:=GL k
   show .inr ⟨.inl k,(δ c e ?_)⟩;let q:=x.cell y c e;rw[DG ndP hp hu (by show scope.names.lookup y≠_;rw[k];decide)] at q;show q
 ·show e0.cx.fresh (xF (x.above y c (PySem.mem_of_lookup h)))
 ·unfold start
  change _=N.4;rw[Ρ,Η,dI];lk
def Xv {K:ζ}{base:a9}{k:Nat}{dV kV:Ω}
     (lk:K.lookup f=!⟨oc,od,.func (gp name qual params body scope dV kV doc pm an gX ct),GA⟩) (zq:qy K gX qual=true) (S:ρ N ps scope)
  (len:∀vs H Q E,sp vs H Q E->vs.4=ps.4)
  (Af:∀(A:sY) (outer:-Env) (s:ς) (H:Hp) (vs:-V) (Q:VK) (E:XK),ga k (A.deeper (envOfC qual scope s.5 f gX))->sp vs H Q E->
   ∃t,Je (Ae CX P w K mg base N qual scope f gX A outer s H E) body t/\t { nx:=λ_ H'=>Q .bM H',rt:=Q } (start N vs) H) :
  qv P w K mg base CX (k+1) f (gp name qual params body scope dV kV doc pm an gX ct) ps sp:=by
 show⟨len,λA outer s H args us vs Q E hr e0 hb r oN=>?_⟩;let KX:=e0.mod.Xl.keeps λb o e=>(e0.bs b o e).1;let ac0:∀y∈ps.zip us,scope.names.lookup y.1=!.local\/(scope.names.lookup y.1=!.cell/\((cellsFrom (s.5+1) scope.31 []).lookup y.1).11=true):=λ⟨n,v⟩ hy=>by
  rcases S.par n (zK hy).1 with q | q
  ·show .inl q
  ·show .inr ⟨q,Xd _ _ _ (.inl q)⟩
 show codeAny_call_function hr.63 (KX _ _ lk) rfl S.co S.gen rfl (ae0 KX zq) (hb _ _ _ _ (wpAny_newFunctionEnv_cells S.kind ac0 λenv he s1 x=>?_));subst he;show⟨(e0.mod.nolimit.keeps λb o e=>(e0.bs b o e).1).keeps x.toInCall.keep,codeAny_func ?_⟩;(show Ϗ (Af A outer s H vs Q E (hr.deeper _) oN) λt ht hq=>?_);let I:Inv (Ae CX P w K mg base N qual scope f gX A outer s H E) [] (start N vs) H s1:=DH S hr.hd e0 (len _ _ _ _ oN) r x;show fV (ht [] s1 (start N vs) H _ I hq) (λfl s' hs=>?_) λe s' hs=>hs;let fin:∀{σ':St} {H':Hp} {v:V} {u:Ω},Inv (Ae CX P w K mg base N qual scope f gX A outer s H E) [] σ' H' s'->RelV v u->Q v H'->CE outer P w H s Q u s':=
  λ{σ' H' v u} J rv q=>(Vf v H' J.os J.52 J.49 J.cx rv q)
 cases fl with
 | ret u=>
  (revert hs;show wv λv σ' H' J rv q=>?_);show fin J rv q
 | next=>
  (revert hs;show dB λσ' H' J q=>?_);show fin (v:=V.bM) J rfl q
 | brk=>
  (revert hs;show dB λ_ _ _ q=>?_);show bB q
 | cont=>
  (revert hs;show dB λ_ _ _ q=>?_);show bB q
section
variable {X:Cx} {t:TA} {id:String} {r:-V->Hp->VK->Prop}
abbrev tCB (r:-V->Hp->VK->Prop)(t:TA):TE:=λσ H Q=>t σ H λvs H1=>r vs H1 Q
def Ϲ (hc:dJ X (.builtin id) r)(hg:Gl X x)(hm:X.mg x=none)(hv:bootBuiltins x=!.builtin id)(ha:PA X (e::es) t)(hn:autoParam (x ≠ "__name__") L2.fR._auto_1)(RK:autoParam (EM x) L2.fR._auto_1)
  (he: ~~~(RH X e es)) (lZ: ~~~(Xu X pos es)):PE X (.Call (.Name x p) (e::es) [] pos) (tCB r t):=by
 intro pins s σ H Q I h;show bW (kG I hg hm hv (sr (zW (ha pos pins s σ H _ I h) λus s1 vs H1 I1 r1 q1=>hc pins s1 σ H1 vs us Q I1 r1 q1) he lZ) hn RK)
def bP (hc:dJ X (.type T) r)(hg:Gl X x)(hm:X.mg x=none)(hv:bootBuiltins x=!.type T)(ha:PA X (e::es) t)(hn:autoParam (x ≠ "__name__") L2.fR._auto_1)(RK:autoParam (EM x) L2.fR._auto_1)
  (he: ~~~(RH X e es)) (lZ: ~~~(Xu X pos es)):PE X (.Call (.Name x p) (e::es) [] pos) (tCB r t):=by
 intro pins s σ H Q I h;show bW (kG I hg hm hv (ba (zW (ha pos pins s σ H _ I h) λus s1 vs H1 I1 r1 q1=>hc pins s1 σ H1 vs us Q I1 r1 q1) he lZ) hn RK)
end
end
variable {Q:VK}{te ta to tv td:TE}{tb tR:TS}{σ:St}{H H1 H2 H':Hp}{xs ys Ad:-V}{y:V}{CX:RI}{sp:Sp}{kvs:-(Key×V)}{tt:TT}{J:It}{rows:-(-V)}{U:V->Hp->Prop}
namespace HT
open PySem PyProof.Rows
section
variable {s:ς}
abbrev oO (n d:Nat):Option Int->Nat
 | none=>d
 | some v=>if v < 0 then(v+(n:Int)).9 else min v.9 n
def Ag (n d:Nat):oO n d none=d:=rfl
def rR (n d k:Nat):oO n d (!(k:Int))=min k n:=by
 show(if k < 0 then(k+(n:Int)).9 else min (k:Int).toNat n)=min k n;rw[Ψ (),bG]
def RL (n d:Nat)(hd:d<=n)(o:Option Int):oO n d o<=n:=by
 cases o with
 | none=>show hd
 | some v=>
  show(if v < 0 then(v+(n:Int)).9 else min v.9 n)<=n
  by_cases hv:v < 0
  ·rw[ε hv];lk
  ·rw[Ψ hv];show zh _ _
end
end HT
section
open PySem PySem.Spec PyProof.Rows
noncomputable abbrev TO:=St->Hp->(Option Int->Hp->Prop)->Prop
abbrev PO (X:Cx)(e:Option bS)(t:TO):Prop:=
 ∀pins s σ H Q,Inv X pins σ H s->t σ H Q->
  wpAny X.mo X.A (evalPart e X.8) (λu s'=>∃o H',Inv X pins σ H' s'/\ae1 u o/\Q o H') X.xe s
abbrev Vu:TO:=λ_ H Q=>Q none H
abbrev ac1 (t:TE):TO:=λσ H Q=>t σ H λx H1=>∃i,x=.int i/\Q (!i) H1
def intsAre_of:∀{us:-Ω},Vals (ns.map V.int) us->Gr us ns:=by
 induction ns with
 | nil=>intro us r;cases r;show .nil
 | cons n ns ih=>
  intro us r;cases r with
  | cons r1 r2=>
   obtain⟨t,e⟩:=r1;subst e;show .cons n t (ih r2)
section
variable {X:Cx} {lo hi:Option bS} {tl th:TO} {p2:Pos}
def gy:PO X none Vu:=by
 intro pins s σ H Q I h;show ϫ (ϧ none H I (.none) h)
def fo (h:PE X e te):PO X (!e) (ac1 te):=by
 intro pins s σ H Q I hw;show dM (h pins s σ H _ I hw) λu s1 x H1 I1 r1 q1=>?_;(revert q1;show ay λi ϐ q=>?_;subst ϐ);obtain⟨t,rfl⟩:=r1;show(ϧ (!i) H1 I1 (.int i t) q)
abbrev Vv (X:Cx)(r:V->Option Int->Option Int->Hp->VK->Prop):Prop:=
 ∀pins s σ H x v vl vu lo hi sl Q,Inv X pins σ H s->RelV x v->s.heap.IsSliceOf sl vl vu .none->ae1 vl lo->ae1 vu hi->r x lo hi H Q->
  ∃T id,typeLookup (.type T) "__getitem__"=pure (!.builtin id)/\s.TypeIs v T/\wpAny X.mo X.A (getItem v (.ref sl)) (EP X pins σ Q) X.xe s
def Vv.or {r r':V->Option Int->Option Int->Hp->VK->Prop}(h:Vv X r)(h':Vv X r'):Vv X (λx lo hi H Q=>r x lo hi H Q\/r' x lo hi H Q):=by
 intro pins s σ H x v vl vu lo hi sl Q I rx hs pl pu q;rcases q with q | q
 ·show h pins s σ H x v vl vu lo hi sl Q I rx hs pl pu q
 ·show h' pins s σ H x v vl vu lo hi sl Q I rx hs pl pu q
abbrev tSl (r:V->Option Int->Option Int->Hp->VK->Prop)(te:TE)(tl th:TO):TE:=λσ H Q=>te σ H λx H1=>tl σ H1 λl H2=>th σ H2 λu H3=>r x l u H3 Q
def dR {r:V->Option Int->Option Int->Hp->VK->Prop}(hr:Vv X r)(he:PE X e te)(hl:PO X lo tl)(hu:PO X hi th):PE X (.Subscript e (.Slice lo hi none p2) pos) (tSl r te tl th):=by
 intro pins s σ H Q I h;show Xe (dM (he pins s σ H _ I h) λv s1 x H1 I1 r1 q1=>wpAny_Slice (iZ (hl pins s1 σ H1 _ I1 q1) λvl s2 η=>kf η λl H2 I2 pl q2=>iZ (hu pins s2 σ H2 _ I2 q2) λvu s3 η=>kf η λu H3 I3 pu q3=>?_));show ϫ ?_;let I4:Inv X pins σ H3 { s3 with heap:=s3.heap.push { cls:=.type "slice",data:=.fields #[vl,vu,.none] } }:=I3.kept λb ob q=>Χ _ q;(show kf (hr pins { s3 with heap:=s3.heap.push { cls:=.type "slice",data:=.fields #[vl,vu,.none] } } σ H3 x v vl vu l u s3.5 Q I4 r1 (Yv ..) pl pu q3) λT id hT ht hg=>?_);show Ut ht hT hg (by with_unfolding_all rfl)
abbrev oP (xs:-V)(lo hi:Option Int):-V:=(xs.drop (HT.oO xs.4 0 lo)).take (HT.oO xs.4 xs.4 hi - HT.oO xs.4 0 lo)
def GM (xs:-V)(lo hi:Option Int):(oP xs lo hi).4<=xs.4:=by
 unfold oP;rw[af,gG];show ϊ (zh _ _) (ae2 _ _)
end
abbrev Y5 (n:Nat)(i:Int):Option Nat:=if 0<=i then(if i < n then some i.9 else none) else if -(((n:Int)))<=i then some (i+n).9 else none
abbrev NF (xs:-α)(i:Int):Option α:=(Y5 xs.4 i).bind λj=>xs[j]?
def Mp {i:Int}(h:Y5 n i=!j):seqIndex? i n=!j/\j < n/\-(((n:Int)))<=i/\i < n:=by
 unfold Y5 at h
 by_cases h0:0<=i
 ·rw[ε h0] at h
  by_cases h1:i < n
  ·rw[ε h1] at h
   let e:=ϲ h;show⟨by rw[Uu h0 h1,e],(),(),h1⟩
  ·rw[Ψ h1] at h;cases h
 ·rw[Ψ h0] at h
  by_cases h1:-(((n:Int)))<=i
  ·rw[ε h1] at h
   let e:=ϲ h;show⟨by rw[seqIndex_neg () h1,e],(),h1,()⟩
  ·rw[Ψ h1] at h;cases h
def EU {xs:-α}{i:Int}(h:NF xs i=!v):∃j,seqIndex? i xs.4=!j/\xs[j]?=!v/\j < xs.4/\-(((xs.4:Int)))<=i/\i < xs.4:=by
 unfold NF at h;cases e:Y5 xs.4 i with
 | none=>rw[e] at h;cases h
 | some j=>
  rw[e] at h;(show Vh (Mp e) λh1 h2 h3 h4=>?_);show(GD j h1 h h2 h3 h4)
def u5 {xs:-α}{v:α}(h:xs[j]?=!v):NF xs (j:Int)=!v:=by
 let hj:=(Α.mp h).1;let e:Y5 xs.4 j=!j:=by
  unfold Y5;rw[ε (),ε ()];simp
 unfold NF;rw[e];show h
abbrev EV (b:bS):Prop:=∀o i,subscripted b false o i=operate [o,i] (getItem o i)
abbrev QT (X:Cx)(r:R2):Prop:=
 ∀value slice pins s σ H x y v u Q,Inv X pins σ H s->RelV x v->RelV y u->r x y H Q->
  subscripted slice false v u=operate [v,u] (getItem v u)->wpAny X.mo X.A (subscriptTail value slice v u) (EP X pins σ Q) X.xe s
abbrev Xw (X:Cx)(id:String)(r:V->-V->Hp->VK->Prop):Prop:=
 ∀pins s σ H x xs v us Q,Inv X pins σ H s->RelV x v->Vals xs us->r x xs H Q->
  wpAny X.mo X.A (call (.builtin id) (v::us)) (EP X pins σ Q) X.xe s
section
variable {X:Cx} {a b:bS} {tb:TE} 
def QT.or {r r':R2}(h:QT X r)(h':QT X r'):QT X (λx y H Q=>r x y H Q\/r' x y H Q):=by
 intro value slice pins s σ H x y v u Q I rx ry q hs;rcases q with q | q
 ·show h value slice pins s σ H x y v u Q I rx ry q hs
 ·show h' value slice pins s σ H x y v u Q I rx ry q hs
def ac2 {r:R2}(hr:QT X r)(ha:PE X a ta)(hb:PE X b tb)(hs:EV b):PE X (.Subscript a b pos) (tOp r ta tb):=by
 intro pins s σ H Q I h;show Xe (Vo ha hb I h λv u s2 x y H2 I2 rx ry q=>hr a b pins s2 σ H2 x y v u Q I2 rx ry q (hs _ _))
abbrev Y6 (K:ζ):R2:=λx y H Q=>∃p xs i v,x=.ref p/\y=.int i/\fK K H p xs/\NF xs i=!v/\Q v H
abbrev Y7 (K:ζ):R2:=λx y H Q=>∃p xs i v,x=.ref p/\y=.int i/\iV K H p xs/\NF xs i=!v/\Q v H
abbrev ahb:R2:=λx y H Q=>∃z i c,x=.str z/\y=.int i/\z.4<=sizeLine/\NF z.6 i=!c/\Q (.str ⟨#[c]⟩) H
def Vw:QT X (Y6 X.K):=by
 intro value slice pins s σ H x y v u Q I rx ry h hs;(revert h;show oK λp xs i z ϐ=>yz λgO hq he q=>?_;subst ϐ;subst gO);cases rx;obtain⟨t,rfl⟩:=ry;(show au (I.list hq) λbn r pl hz=>?_);(show Nl (EU he) λj h1 h2 h3 h4 h5=>?_);(show Ϗ (r.get h2) λw ew Ah=>?_);let hl:=r.4;let hn:=wA;let fin:EP X pins σ Q w s:=(ϧ z H I Ah q)
 by_cases h0:0<=i
 ·let hj:i.9=j:=by
   rw[Uu h0 h5] at h1;show ϲ h1
  show item_listR pl.18 h0 () (by rw[hj];simpa using ew) fin hs
 ·let hj:(i+(bn.19:Int)).9=j:=by
   rw[seqIndex_neg () h4] at h1;rw[Ϟ,<-hl];show ϲ h1
  show QL pl.isList.35 Yw.lookup
   (wpAny_getItem_list_neg pl.18 () (by rw[Ϟ]<;>lk) () (by rw[hj];simpa using ew) ⟨rfl,fin⟩) hs
def Y8:QT X (Y7 X.K):=by
 intro value slice pins s σ H x y v u Q I rx ry h hs;(revert h;show oK λp xs i z ϐ=>yz λgO hq he q=>?_;subst ϐ;subst gO);cases rx;obtain⟨t,rfl⟩:=ry;(show au (I.tuple hq) λbn r pl hz=>?_);(show Nl (EU he) λj h1 h2 h3 h4 h5=>?_);(show Ϗ (r.get h2) λw ew Ah=>?_);let hn:=wA;let fin:EP X pins σ Q w s:=(ϧ z H I Ah q)
 show QL pl.35 slot_tuple_getitem.82
  (getItem_tuple pl () () (by rw[Ϟ,<-r.4];show h1) (by simpa using ew) ⟨rfl,fin⟩) hs
def Y9:QT X ahb:=by
 intro value slice pins s σ H x y v u Q I rx ry h hs;(revert h;show ug λz i c ϐ gO hz he q=>?_;subst ϐ;subst gO);obtain⟨t,rfl⟩:=rx;obtain⟨t',rfl⟩:=ry;(show Nl (EU he) λj h1 h2 h3 h4 h5=>?_);let hl:z.cps.toList.4=z.4:=by simp[ae3]
 rw[hl] at h1 h4 h5;let hn:=wA
 show Ut (oB s z t) slot_str_getitem.82 (getItem_str (by
  let e1:decide (i < -(((2 ^ 63:Int))))=false:=ae ();let e2:decide (i≥2 ^ 63)=false:=ae ()
  rw[e1,e2,Bool.or_false]) (by rw[h1];simpa using h2) (ϧ (.str ⟨#[c]⟩) H (I.tok _) ⟨_,rfl⟩ q)) hs
def JN (bn:-Ω)(n j:Nat)(u:Ω):Dv (·.setIfInBounds j u) { cls:=.type "list",data:=.seq bn.10 n }={ cls:=.type "list",data:=.seq (bn.set j u).toArray n }:=by
 simp[Dv]
def Inv.lst {p:Ν}(I:Inv X pins σ H s)(h:H p=!.lst xs) :
  ∃bn n,Vals xs bn/\s.heap.get? p=some { cls:=.type "list",data:=.seq bn.10 n }/\xs.4<=sizeLine:=by
 (show uZ (I.cx p _ h) λz=>dB λbn n r e=>?_);show(ϧ bn n r e z)
def Inv.Y' {p:Ν}{f:Obj->Obj}(I:Inv X pins σ H s)(h:H p=!.lst xs)
  (ho:s.heap.get? p=some { cls:=.type "list",data:=.seq bn.10 n }) (hf:f { cls:=.type "list",data:=.seq bn.10 n }={ cls:=.type "list",data:=.seq wy.10 n' }) (r:Vals ys wy) (hz:ys.4<=sizeLine) (t:Nat) :
  Inv X pins σ (upd H p (.lst ys)) { s with heap:=s.heap.update p f,toks:=t }:=by
 let e:(s.heap.update p f).get? p=some { cls:=.type "list",data:=.seq wy.10 n' }:=by
  rw[IZ f ho (by rw[hf]<;>rfl),hf]
 show I.write (by rw[h];trivial) (.inl rfl) (λb u hb q=>(Gs _ _ (ό hb)).trans q) ⟨_,e⟩ ?_;show⟨hz,(cJ wy n' r e)⟩
abbrev Xx:V->V->V->Hp->(Hp->Prop)->Prop:=λo i v H Q=>∃p xs k j,o=.ref p/\i=.int k/\H p=!.lst xs/\Y5 xs.4 k=!j/\Q (upd H p (.lst (xs.set j v)))
def set_list:YR X Xx:=by
 intro pins s σ H o i v ov iv u Q I ro ri rv h;(revert h;show oK λp xs k j ϐ=>yz λgO hp hj q=>?_;subst ϐ;subst gO);cases ro;obtain⟨t,rfl⟩:=ri;(show kf (I.lst hp) λbn n r ho hz=>?_);(show Vh (Mp hj) λh1 h2 h3 h4=>?_);let hl:=r.4;let hn:=wA;let I':=
  I.Y' hp ho (JN bn n j u) (r.set rv j) (by rw[bq];show hz) s.23
 by_cases h0:0<=k
 ·let hk:k.9=j:=by
   rw[Uu h0 h4] at h1;show ϲ h1
  show W.ki_setAt ho h0 () (by rw[Ϟ,<-hl];show h4) (by rw[hk];show(δ _ I' q))
 ·let hk:(k+(bn.19:Int)).9=j:=by
   rw[seqIndex_neg () h3] at h1;rw[Ϟ,<-hl];show ϲ h1
  show W.ki_setBack ho () (by rw[Ϟ,<-hl];show h3) () (by rw[hk];show(δ _ I' q))
def EW (lo hi:Option Int)(n:Nat):(sliceBounds lo hi none n).1=((HT.oO n 0 lo:Nat):Int)/\(sliceBounds lo hi none n).2.1=((HT.oO n n hi:Nat):Int)/\(sliceBounds lo hi none n).2.2=1:=by
 let k:∀i,(sliceBounds (!i) none none n).1=((HT.oO n 0 (!i):Nat):Int):=λi=>by
  simp only[sliceBounds,HT.oO,apR,show(1:Int) > 0 by decide,if_true]
  by_cases h:i < 0
  ·simp only[h,if_true];rw[U4 ()];show Int.toNat_eq_max _ ▸ Int.max_comm _ _
  ·simp only[h,if_false];obtain⟨k,rfl⟩:=Int.eq_ofNat_of_zero_le (Int.not_lt.mp h);rw[bG];rcases Nat.le_total k n with z | z
   ·rw[fL z,U4 (abc.2 z)];show Uv (mq _)
   ·rw[zi z,Int.min_eq_right (abc.2 z)];show Uv (mq _)
 show⟨?_,?_,rfl⟩
 ·cases lo with
  | none=>rfl
  | some i=>show k i
 ·cases hi with
  | none=>rfl
  | some i=>show k i
def CL (bn:-Ω)(lo hi:Option Int):slicePick bn.10 lo hi none=((bn.drop (HT.oO bn.4 0 lo)).take (HT.oO bn.4 bn.4 hi - HT.oO bn.4 0 lo)).10:=by
 (show cW (EW lo hi bn.19) λh1 h2 h3=>?_);unfold slicePick;rw[h1,h2,h3];simp only[ae4,pick_run]<;>rfl
abbrev ac3 (K:ζ):V->Option Int->Option Int->Hp->VK->Prop:=λx lo hi H Q=>∃a xs,x=.ref a/\fK K H a xs/\∀p,H p=none->Q (.ref p) (upd H p (.lst (oP xs lo hi)))
def Vx:Vv X (ac3 X.K):=by
 intro pins s σ H x v vl vu lo hi sl Q I rx hs pl pu h;(revert h;show gI λa xs ϐ hx q=>?_;subst ϐ);cases rx;(show au (I.list hx) λbn r ht hz=>?_);let hlen:=r.4;show(ϧ ("list") _ Yw.lookup ht.isList.35 (wpAny_getItem_list_slice ht.18 hs pl pu .none ∅ ?_ (by rw[Ϟ]<;>lk)));rw[CL,<-hlen];show(ϧ (.ref s.5) _ (I.laid (λb ob q=>Χ _ q) (ξ _) ?_) rfl (q _ (I.cx.fresh (ξ _))));show⟨ϊ (GM xs lo hi) hz,(cJ _ 0 ((r.drop (HT.oO xs.4 0 lo)).take (HT.oO xs.4 xs.4 hi - HT.oO xs.4 0 lo)) (ϑ _ rfl))⟩
abbrev nK:V->Bool
 | .bM=>true
 | .bl _=>true
 | .int _=>true
 | .str _=>true
 | _=>false
abbrev Xy:V->V->Bool
 | .bM,.bM=>true
 | .bl a,.bl b=>a == b
 | .bl a,.int b=>(if a then 1 else 0) == b
 | .int a,.bl b=>a == (if b then 1 else 0)
 | .int a,.int b=>a == b
 | .str a,.str b=>a == b
 | _,_=>false
def Za {x:V}(ry:RelV y u)(rx:RelV x v)(fy:nK y=true)(fx:nK x=true):abd A s u v (Xy y x):=by
 cases y with
 | bM=>
  cases ry;cases x with
  | bM=>cases rx;show agi _
  | bl b=>cases rx;show agj b
  | int b=>obtain⟨t,rfl⟩:=rx;show agk b t
  | str b=>obtain⟨t,rfl⟩:=rx;show agl b t
  | _=>show absurd (fx) ώ
 | bl a=>
  cases ry;cases x with
  | bM=>cases rx;show agm a
  | bl b=>cases rx;show agn a b
  | int b=>obtain⟨t,rfl⟩:=rx;show ago a b t
  | str b=>obtain⟨t,rfl⟩:=rx;show agp a b t
  | _=>show absurd (fx) ώ
 | int a=>
  obtain⟨t',rfl⟩:=ry;cases x with
  | bM=>cases rx;show agq a t'
  | bl b=>cases rx;show agr a t' b
  | int b=>obtain⟨t,rfl⟩:=rx;show ags a t' b t
  | str b=>obtain⟨t,rfl⟩:=rx;show ED a t' b t
  | _=>show absurd (fx) ώ
 | str a=>
  obtain⟨t',rfl⟩:=ry;cases x with
  | bM=>cases rx;show agt a t'
  | bl b=>cases rx;show agu a t' b
  | int b=>obtain⟨t,rfl⟩:=rx;show EF a t' b t
  | str b=>obtain⟨t,rfl⟩:=rx;show agv a t' b t
  | _=>show absurd (fx) ώ
 | _=>show absurd (fy) ώ
abbrev JO (x:V)(u:Ω):Bool:=match u with
 | .none=>Xy .bM x
 | .bool b=>Xy (.bl b) x
 | .int i _=>Xy (.int i) x
 | .str z _=>Xy (.str z) x
 | _=>false
def RM {x:V}(r:RelV y u)(f:nK y=true):JO x u=Xy y x:=by
 cases y with
 | bM=>cases r;rfl
 | bl b=>cases r;rfl
 | int i=>obtain⟨t,rfl⟩:=r;rfl
 | str z=>obtain⟨t,rfl⟩:=r;rfl
 | _=>show absurd (f) ώ
def zy {x:V}{xs:-V}{us:-Ω}(r:Vals xs us)(f:xs.all nK=true):us.any (JO x)=xs.any λy=>Xy y x:=by
 induction r with
 | nil=>rfl
 | cons r t ih=>rw[EG,bd] at f;rw[jG,jG,RM r f.1,ih f.2]
def u6 {s:ς}{x:V}{v:Ω}(rx:RelV x v)(fx:nK x=true){xs:-V}{us:-Ω}(r:Vals xs us)(f:xs.all nK=true):∀u∈us,abd A s u v (JO x u):=by
 induction r with
 | nil=>intro u hu;cases hu
 | cons r t ih=>
  intro u hu;rw[EG,bd] at f;rcases Ι.mp hu with rfl | hu
  ·rw[RM r f.1];show Za r rx f.1 fx
  ·show ih f.2 u hu
abbrev JP (x:V)(xs:-V):Bool:=xs.any λy=>Xy y x
abbrev Zb (K:ζ)(neg:Bool):R2:=λx y H Q=>∃p xs,y=.ref p/\(fK K H p xs\/iV K H p xs)/\nK x=true/\xs.all nK=true/\Q (.bl (if neg then !((JP x xs)) else JP x xs)) H
def NG:fT X (compareOp .In) (Zb X.K false):=by
 intro pins s σ H x y v u Q I rx ry h;(revert h;show yx λp xs ϐ hq fx fs q=>?_;subst ϐ);cases ry;rcases hq with hq | hq
 ·(show au (I.list hq) λbn r pl hz=>?_)
  show SeqAt.in_listAt (JO x) pl.18 (λw hw=>u6 rx fx r fs w (by simpa using hw)) (ϧ (.bl _) H I rfl ?_);rw[show bn.toArray.any (JO x)=bn.any (JO x) by simp,zy r fs];show q
 ·(show au (I.tuple hq) λbn r pl hz=>?_)
  show SeqAt.in_tupleAt (JO x) pl (λw hw=>u6 rx fx r fs w (by simpa using hw)) (ϧ (.bl _) H I rfl ?_);rw[show bn.toArray.any (JO x)=bn.any (JO x) by simp,zy r fs];show q
def EX:fT X (compareOp .NotIn) (Zb X.K true):=by
 intro pins s σ H x y v u Q I rx ry h;(revert h;show yx λp xs ϐ hq fx fs q=>?_;subst ϐ);cases ry;rcases hq with hq | hq
 ·(show au (I.list hq) λbn r pl hz=>?_)
  show SeqAt.notIn_listAt (JO x) pl.18 (λw hw=>u6 rx fx r fs w (by simpa using hw)) (ϧ (.bl _) H I rfl ?_);rw[show bn.toArray.any (JO x)=bn.any (JO x) by simp,zy r fs];show q
 ·(show au (I.tuple hq) λbn r pl hz=>?_)
  show SeqAt.notIn_tupleAt (JO x) pl (λw hw=>u6 rx fx r fs w (by simpa using hw)) (ϧ (.bl _) H I rfl ?_);rw[show bn.toArray.any (JO x)=bn.any (JO x) by simp,zy r fs];show q
def EY:fT X (compareOp .NotIn) (λx y H Q=>∃i j,x=.str i/\y=.str j/\Q (.bl (!(((!(((lY j i 0 j.4 1).45))))))) H):=by
 intro pins s σ H x y v u Q I rx ry h;(revert h;show gI λi j ϐ gO q=>?_;subst ϐ;subst gO);obtain⟨t,rfl⟩:=rx;obtain⟨t',rfl⟩:=ry;show notIn_str (ϧ (.bl _) H I rfl q)
def EZ:dJ X (.builtin "len") (λxs H Q=>∃p ys,xs=[.ref p]/\(fK X.K H p ys\/iV X.K H p ys)/\Q (.int ys.4) H):=by
 intro pins s σ H xs us Q I r h;(revert h;show gI λp ys ϐ hq q=>?_;subst ϐ);(show Ϗ (vals1 r) λu ϐ rx=>?_;subst ϐ);cases rx;let hn:=wA;rcases hq with hq | hq
 ·(show au (I.list hq) λbn r' pl hz=>?_)
  let hlen:=r'.4;show Calls.call_len_list pl.18 (by simp only[Ϟ]<;>lk) (ϧ (.int ys.4) H (I.tok _) ⟨s.23+1,by rw[Ϟ,hlen]⟩ q)
 ·(show au (I.tuple hq) λbn r' pl hz=>?_)
  let hlen:=r'.4;show len_tuple pl (by simp only[Ϟ]<;>lk) (ϧ (.int ys.4) H (I.tok _) ⟨s.23+1,by rw[Ϟ,hlen]⟩ q)
def E1:dJ X (.builtin "len") (λxs H Q=>∃z,xs=[.str z]/\z.4<=sizeLine/\Q (.int z.4) H):=by
 intro pins s σ H xs us Q I r h;(revert h;show ia λz ϐ hz q=>?_;subst ϐ);(show Ϗ (vals1 r) λu ϐ=>uf λt gO=>?_;subst ϐ;subst gO);let hn:=wA;show len_str () (ϧ (.int z.4) H (I.tok _) ⟨_,rfl⟩ q)
def dJ.or {f:Ω}{r r':-V->Hp->VK->Prop}(h:dJ X f r)(h':dJ X f r'):dJ X f (λxs H Q=>r xs H Q\/r' xs H Q):=by
 intro pins s σ H xs us Q I rs q;rcases q with q | q
 ·show h pins s σ H xs us Q I rs q
 ·show h' pins s σ H xs us Q I rs q
def E2:dJ X (.type "list") (λxs H Q=>∃p ys,xs=[.ref p]/\(fK X.K H p ys\/iV X.K H p ys)/\∀l,H l=none->Q (.ref l) (upd H l (.lst ys))):=by
 intro pins s σ H xs us Q I r h;(revert h;show gI λp ys ϐ hq q=>?_;subst ϐ);(show Ϗ (vals1 r) λu ϐ rx=>?_;subst ϐ);cases rx;let fin:∀bn,Vals ys bn->ys.4<=sizeLine->∀h' c',(∀b o',s.heap.get? b=!o'->h'.get? b=!o')->
   h'.get? s.5=some { cls:=.type "list",dict:=none,data:=.seq bn.10 c',slots:=#[] }->EP X pins σ Q (.ref s.5) { s with heap:=h' }:=λbn r' hz h' c' kp e=>
  (ϧ (.ref s.5) _ (I.laid kp (ξ _) (show fW X.29 X.w _ h' _ (.lst ys) from⟨hz,(cJ bn c' r' e)⟩)) rfl (q _ (I.cx.fresh (ξ _))))
 rcases hq with hq | hq
 ·(show au (I.list hq) λbn r' pl hz=>?_)
  let hlen:=r'.4;(show au pl.18 λo ho hc=>uf λn hd=>?_);show agw p (.inl rfl) ho hc hd (λh' c' kp e=>fin bn r' hz h' c' kp e) (by simp only[Ϟ]<;>lk)
 ·(show au (I.tuple hq) λbn r' pl hz=>?_)
  let hlen:=r'.4;(revert pl;show ia λo ho hc=>uf λn hd=>?_);show agw p (.inr rfl) ho hc hd (λh' c' kp e=>fin bn r' hz h' c' kp e) (by simp only[Ϟ]<;>lk)
abbrev tyV (K:ζ)(T:String)(x:V)(H:Hp):Prop:=match x with
 | .str _=>T="str"
 | .int _=>T="int"
 | .ref p=>(T="list" /\ ∃xs,fK K H p xs)\/(T="tuple" /\ ∃o,K.lookup p=!o/\o.98=.type "tuple" /\ o.59=none)\/
   (T="dict" /\ ((∃kvs,H p=!.dK kvs)\/∃kvs,H p=!.dT kvs))\/(T="set" /\ ∃S n,H p=!.set S n)
 | _=>False
def Zc {x:V}(I:Inv X pins σ H s)(r:RelV x v)(ty:tyV X.K T x H) :
  s.TypeIs v T/\∀a,v=.ref a->∃ob,s.heap.get? a=!ob/\ob.59=none:=by
 cases x with
 | str z=>
  obtain⟨t,rfl⟩:=r;cases (ty);show⟨oB s z t,λ_ e=>nomatch e⟩
 | int i=>
  obtain⟨t,rfl⟩:=r;cases (ty);show⟨typeIs_int s i t,λ_ e=>nomatch e⟩
 | ref p=>
  cases r;rcases ty with⟨rfl,xs,hq⟩ | ⟨rfl,o,hk,hc,hd⟩ | ⟨rfl,hk⟩ | ⟨rfl,S,n,hk⟩
  ·(show au (I.list hq) λbn _ pl _=>?_)
   show⟨pl.isList.35,λa e=>?_⟩;cases e;(revert pl;show su λo n e c hd _=>?_);show(δ o e hd)
  ·show⟨(δ o (I.wm p o hk) hc),λa e=>?_⟩
   cases e;show(δ o (I.wm _ o hk) hd)
  ·let z:∃o,s.heap.get? p=!o/\o.ExactDict:=by
    rcases hk with⟨kvs,hk⟩ | ⟨kvs,hk⟩
    ·(show cW (I.cx p _ hk) λ_ _=>ay λ_ _=>wv λo _ _ e ex _=>?_)
     show(δ o e ex)
    ·(show cW (I.cx p _ hk) λ_ _=>ay λ_ _=>wv λo _ _ e ex _=>?_)
     show(δ o e ex)
   (revert z;show ay λo e ex=>?_);show⟨(δ o e ex.1),λa e2=>?_⟩;cases e2;show(δ o e ex.2.1)
  ·(show acl (I.cx p _ hk) λo _ _ _ e=>ke λex _=>?_)
   show⟨(δ o e ex.1),λa e2=>?_⟩;cases e2;show(δ o e ex.2.1)
 | _=>show bB ty
abbrev tBM (K:ζ)(T:String)(r:V->-V->Hp->VK->Prop)(to:TE)(t:TA):TE:=λσ H Q=>to σ H λx H1=>tyV K T x H1/\t σ H1 λxs H2=>r x xs H2 Q
variable {o:bS} {t:TA} {id:String} {r:V->-V->Hp->VK->Prop}
def ac4 (pa:aov T)(slot:Slot T name id)(hty:typeOf (.builtin id)=pure (.type "method_descriptor"))(hm:Xw X id r)(ho:PE X o to)(ha:PA X (e::es) t)
  (GN: ~~~(attributeBase o name X.8 (eval o X.8)=eval o X.8))
  (RN:autoParam (((backTo gN (starEach (e::es) X.8)).all (λx=>!((x.1))) && (backToKw gN (keywordEach [] X.8)).all (λx=>x.1.11)
   && decide ((e::es).4+([]:-nj).4+(if ([]:-nj).45 then 0 else 1) < 30))=true) L2.ai._auto_1)
  (GO: ~~~((apos.66 == gN.60)=true)) (hs: ~~~(RH X e es)) (ui: ~~~((backTo gN (starEach es X.8)).any (·.1)=false)) :
  PE X (.Call (.Attribute o name apos) (e::es) [] gN) (tBM X.K T r to t):=by
 intro pins s σ H Q I h;show QM GN RN GO rfl (iZ (ho pins s σ H _ I h) λv s1 η=>ww η λx H1 I1 r1 ty q1=>?_);obtain⟨h1,h2⟩:=Zc I1 r1 ty;show(Vf T id pa slot hty h1 h2 ?_);let hA:=ha gN pins s1 σ H1 _ I1 q1;rw[hs] at hA ⊢;show fB (by show(false || (backTo gN (starEach es X.8)).any (·.1))=false;rw[ui]<;>rfl) (gq (iZ hA λus s2 η=>kf η λvs H2 I2 r2 q2=>hm pins s2 σ H2 x vs v us Q I2 r1 r2 q2))
end
abbrev MtM (X:Cx)(id:String)(r:V->-V->Hp->VK->Prop):Prop:=
 ∀pins s σ H x xs v us Q,Inv X pins σ H s->RelV x v->Vals xs us->r x xs H Q->
  wpAny X.mo X.A (call (.builtin id) (v::us)) (EP X pins σ Q) X.xe s
def Vals.one {x:V}{us:-Ω}(h:Vals [x] us):∃u,us=[u]/\RelV x u:=by
 cases h with | cons r t=>cases t;show(δ _ rfl r)
section
variable {X:Cx} {s:ς} {l:Ν} {zs:-V}
def Inv.ac5 {f:Array Ω->Array Ω}(I:Inv X pins σ H s)(hH:H l=!.lst xs)
  (e:s.heap.get? l=some { cls:=.type "list",data:=.seq bn.10 n }) (hf:f bn.10=wy.10) (hv:Vals ys wy) (hz:ys.4<=sizeLine) :
  Inv X pins σ (upd H l (.lst ys)) { s with heap:=s.heap.update l (Dv f),toks:=t' }:=by
 let q:=PySem.IsL.update e f;rw[hf] at q;show I.write (by rw[hH];show trivial) (.inl rfl) (λb' u hb hu=>(Gs s.12 (Dv f) (ό hb)).trans hu) ⟨_,q⟩ ?_;show⟨hz,(cJ wy _ hv q)⟩
def Inv.ac6 (I:Inv X pins σ H s)(hv:Vals ys bn)(hz:ys.4<=sizeLine) :
  Inv X pins σ (upd H s.5 (.lst ys)) { s with heap:=s.heap.push { cls:=.type "list",data:=.seq bn.10 },toks:=t' }:=
 I.laid (λ_ _ q=>Χ _ q) (ξ _) ⟨hz,(cJ bn 0 hv (ϑ _ rfl))⟩
def Inv.fresh (I:Inv X pins σ H s):H s.5=none:=I.cx.fresh (ξ _)
def Inv.Zd (I:Inv X pins σ H s)(hH:H l=!.lst xs):xs.4<=sizeLine/\∃bn n,Vals xs bn/\xs.4=bn.4/\s.heap.get? l=some { cls:=.type "list",data:=.seq bn.10 n }:=by
 (show uZ (I.cx l _ hH) λz=>dB λbn n r e=>?_);show⟨z,(ϧ bn n r r.4 e)⟩
def RO (h:n<=sizeLine):wq n=false:=by
 show ae ()
end
section
variable {X:Cx}
abbrev Vy:V->-V->Hp->VK->Prop:=λx vs H Q=>∃l xs y,x=.ref l/\vs=[y]/\H l=!.lst xs/\xs.4 < sizeLine/\Q .bM (upd H l (.lst (xs++[y])))
def bE:MtM X "list.append" Vy:=by
 intro pins s σ H x vs v us Q I rx rv h;(revert h;show ug λl xs y ϐ gO hH hz q=>?_;subst ϐ;subst gO);cases rx;(show Ϗ rv.one λu ϐ ru=>?_;subst ϐ);(show uZ (I.Zd hH) λz=>gI λbn n r hl e=>?_);show zj PySem.F.slot_list_append (δ _ e rfl) PySem.F.entry_list_append (PySem.F.args_list_append_2 _ _) (PySem.list_append l bn.10 n u (by rw[Ϟ];lk)) ⟨e,?_⟩;show(ϧ (.bM) _ (I.ac5 hH e ∅ (r.append (.cons ru .nil)) ?_) rfl q);rw[Ρ,ϯ];lk
abbrev Vz:V->-V->Hp->VK->Prop:=λx vs H Q=>∃l b xs zs,x=.ref l/\vs=[.ref b]/\H l=!.lst xs/\H b=!.lst zs/\xs.4+zs.4<=sizeLine/\Q .bM (upd H l (.lst (xs++zs)))
def DI:MtM X "list.extend" Vz:=by
 intro pins s σ H x vs v us Q I rx rv h;(revert h;show oK λl b xs zs ϐ=>yw λgO hH hB hz q=>?_;subst ϐ;subst gO);cases rx;(show Ϗ rv.one λu ϐ ru=>?_;subst ϐ);cases ru;(show uZ (I.Zd hH) λz=>gI λbn n r hl e=>?_);(show uZ (I.Zd hB) λz2=>gI λJQ n2 r2 CN e2=>?_);let ND:bn.19+JQ.19<=sizeLine:=by rw[Ϟ,Ϟ];lk
 let ac7:¬(!((bn.toArray.isEmpty)) && wq (bn.19+JQ.19))=true:=by
  rw[RO ND,U5];show ώ
 show zj PySem.F.slot_list_extend (δ _ e rfl) PySem.F.entry_list_extend (PySem.F.args_list_extend_2 _ _)
  (aly l bn.10 n b JQ.10 n2 ac7 (by rw[Ϟ];lk) ()) ⟨e,e2,?_⟩
 show(ϧ (.bM) _ (I.ac5 hH e ∅ (r.append r2) ?_) rfl q);rw[Ρ];lk
end
end
namespace Att
open PySem PySem.W PySem.Calls PyProof.Rows
def yB :∀ns vs,WellAll P h vs (ns.map aca)->Gr vs ns:=by
 intro ns
 induction ns with
 | nil=>
  intro vs w;cases w;show .nil
 | cons n ns ih=>
  intro vs w;cases w with
  | cons a b=>
   cases a;show .cons _ _ (ih _ b)
def NH {l:ajz}(hn:l.most=!n)
  (VA:l.row.toRowW.claim.pre args=true) (RP:WellAll P h vals args) :
  ∃a vs ns,vals=[cC a]/\args=[WData.list (ns.map aca)]/\h.get? a=some { cls:=.type "list",data:=.seq vs.10 }/\Gr vs ns/\ns.4<=n:=by
 (show kf (hasAllW_cons ((aow VA).1)) λd r ϐ h1 h2=>?_;subst ϐ);obtain rfl:=hasAllW_nil h2;(show Ϗ (hasW_list h1) λxs ϐ h3=>?_;subst ϐ);obtain⟨ns,rfl⟩:=items_int h3;let hlen:ns.4<=n:=by
  let h4:(WTm.not (.lt (.lit (.int n)) (.len (.arg 0)))).holds [] { args:=[.list (ns.map .int)] }=true:=by
   let h4:=(holds_andW ((aow VA).2)).1;rw[hn] at h4;show h4
  let h5:=condW_of h4 (w_not (w_lt w_lit (w_len_list (w_arg rfl))));rw[Η] at h5;show zk λq=>?_
  first
   | (rw[ϱ q'] at h5;show absurd h5 "!")
   | (simp at h5;lk)
 cases RP with
 | cons w1 w2=>
  cases w2;cases w1 with
  | list ho RQ=>show(dL _ _ ns rfl rfl ho (yB ns _ RQ) hlen)
def NI (l:ajz)(args:-WData):l.row.toRowW.claim.post args (.bool true) args=true:=
 postW_of
  (by first | rfl | decide | simp[apS])
  (show(WTm.eq .res (.lit (.bool true))).value [] { args:=args,res:=!.bool true,after:=args }=!.bool (true == true) from w_eq_bool (w_res rfl) w_lit) rfl
def GP {l:ajz}{d:DefRec}
  (hn:l.most=!n) (hdf:d.58=[])
  (call:∀(w:dX) (s₀ s₁:ς) (mg mb:Str->Option Ω) (fa:Ν) (o:Obj) (pm cd doc:Ω) (a:Ν) (vs:-Ω) (ns:-Int),
   Ground q loose [] XP w s₀ mg mb s₁.12->YP w s₁.12->
   s₁.heap.get? fa=!o->o.65=.func (docDef d.47 d.40 d.body d.scope pm cd doc)->s₁.heap.CodeRec cd d.47->mg d.47=!.ref fa->
   s₁.heap.get? a=some { cls:=.type "list",data:=.seq vs.10 }->Gr vs ns->ns.4<=n->s₁.69=#[]->
   codeAny (model l.29 w) callerA (.call (.ref fa) ⟨[.ref a],[]⟩) (λr s'=>r=.ok (.ret (.bool true))/\OldK s₁.12 s'.12/\s'.os=s₁.os/\sZ s'.69) s₁) :
  WalkO q loose XP YP l.76 d [] (λf vs=>PySem.call f vs):=by
 intro w s₀ s₁ mg mb G Y fa o pm cd doc dV kV ho hd zq hD hmg hg args vals as VA alX hrd RP hlo;obtain rfl:dV=.none:=Dflts.none hD hdf;obtain rfl:kV=.none:=Dflts.noKw hD;(show agE (NH hn VA RP) λa vs ns ϐ gO Ze hints hlen=>?_;subst ϐ;subst gO);show enter_call (ii (call w s₀ s₁ mg mb fa o pm cd doc a vs ns G Y ho (fd_plain hd) zq hmg Ze hints hlen hg) λr s' hq=>?_);(revert hq;show yz λϐ h2 h3 h4=>?_;subst ϐ);show⟨.inl (dL (.bool true) (.bool true) ([]) rfl (λ_=>rfl) (.bool true) (NI l _) (λ_=>⟨abe,λ_ hm=>(nomatch hm)⟩)),h2,h3,h4⟩
end Att
section
open PySem PySem.Spec PyProof.Rows
def DJ:∀{vs:-Ω} {ns:-Int},Gr vs ns->Vals (ns.map V.int) vs
 | _,_,.nil=>.nil
 | _,_,.cons n t h=>.cons ⟨t,rfl⟩ (DJ h)
abbrev Zf (H:Hp):Prop:=∀b,H b=none\/∃o xs,H b=!.Nq o (.lst xs)
def RS {K:ζ}{mb:Str->Option Ω}{CX:RI}{s₁:ς}{vs:-Ω}
  (KX:K.In s₁.12) (hns:s₁.heap.Ns mainGlobals mg) (hb:s₁.heap.Ns builtinsNs mb) (hbb:∀x:Str,x ≠ "__name__" -> mb x=bootBuiltins x) (ahe:s₁.heap.NoLimit) (hg:s₁.69=#[])
  (ha:s₁.heap.get? a=some { cls:=.type "list",data:=.seq vs.10 }) (hi:Gr vs ns) (hl:ns.4<=sizeLine) (hr:ga k callerA)
  (F:∀base:a9,K.In base->base.Ns mainGlobals mg->qv P w K mg base CX k fa fd [x] sp) (ac':∀(s:ς) (u:Ω),Gq s fd ⟨[u],[]⟩ [(x,u)])
  (oN:∀H:Hp,Zf H->fK K H a (ns.map V.int)->sp [.ref a] H (λv _=>v=.bl true) λ_ _ _=>False)
  (hCX:∀H e s',CX [] H s₁ (λ_ _ _=>False) e s'->False) :
  codeAny (model P w) callerA (.call (.ref fa) ⟨[.ref a],[]⟩) (λr s'=>r=.ok (.ret (.bool true))/\OldK s₁.12 s'.12/\s'.os=s₁.os/\sZ s'.69) s₁:=by
 let rv:=DJ hi;let core:∀H:Hp,Zf H->fK K H a (ns.map V.int)->uT P w H s₁.12->(∀b,H b≠none->b=a)->(H a≠none->K.lookup a=none)->
   codeAny (model P w) callerA (.call (.ref fa) ⟨[.ref a],[]⟩) (λr s'=>r=.ok (.ret (.bool true))/\OldK s₁.12 s'.12/\s'.os=s₁.os/\sZ s'.69) s₁:=by
  intro H hO hS cx hA hK;let base_of:∀{b:Ν} {o:Obj},s₁.heap.get? b=!o->H b=none->(GH s₁.12 H).get? b=!o:=λe n=>Rm e n;let noA:∀{b:Ν} {o:Obj} {es:Array rO} {ep:Nat},s₁.heap.get? b=!o->o.65=.dict es ep->H b=none:=λ{b o es ep} e d=>by
   cases q:H b with
   | none=>rfl
   | some u=>
    let e':=hA b (by rw[q];simp);subst e';rw[ha] at e;cases e;let d':=d;cases d'
  let nsK:∀{b:Ν} {m:Str->Option Ω},s₁.heap.Ns b m->(GH s₁.12 H).Ns b m:=λ{b m} ⟨o,es,ep,e,d,r⟩=>(Nj o es ep (base_of e (noA e d)) d r)
  let hKb:=λb o e=>base_of (KX b o e) (by
   cases q:H b with
   | none=>rfl
   | some u=>
    let e':=hA b (by rw[q];simp);subst e'
    rw[hK (by rw[q];simp)] at e;cases e)
  let hM:Mod K mg (GH s₁.12 H):=⟨hKb,nsK hns,(δ mb (nsK hb) hbb),let ⟨mc,h1,h2⟩:=ahe;(δ mc (nsK h1) h2)⟩
  let e0:JM P w K mg (GH s₁.12 H) callerA [] s₁ H:=⟨rfl,hM,λb o e=>Vj e,IW (Nr _ _),trivial,λb hb=>absurd (show b∈([]:-Ν) from hb) ∅,cx,.of_eq hg⟩
  show ii ((F _ hKb (nsK hns)).run callerA [] s₁ H ⟨[.ref a],[]⟩ [.ref a] [.ref a] _ _ hr e0 (ac' s₁ (.ref a)) (.cons rfl .nil) (oN H hO hS)) λr s' h=>?_;cases r with
  | error e=>show(hCX H e s' h).38
  | ok fl=>
   cases fl with
   | next=>show bB h
   | brk=>show bB h
   | cont=>show bB h
   | ret u=>
    (revert h;show yx λv H' os bare un ahg=>ke λr' q=>?_);let q':=q;subst q';obtain rfl:u=LX true:=r';show⟨rfl,OldK.of_keep λb o e=>?_,os,bare⟩;cases q:H b with
    | none=>show un.keep b o e q (by intro z;show absurd (show b∈([]:-Ν) from z) ∅) ∅
    | some u=>
     rcases hO b with z | ⟨ob,xs,z⟩
     ·rw[q] at z;cases z
     ·let z2:=un.EJ b ob _ z
      obtain⟨e1,_⟩:=cx b _ z;obtain⟨e2,_⟩:=ahg b _ z2;rw[e] at e1;cases e1;show e2
 cases hk:K.lookup a with
 | some o=>
  let e:=KX a o hk;rw[ha] at e;cases e;show core (λ_=>none) (λ_=>.inl rfl) (.inr (zS _ vs.10 _ hk rfl rfl rfl (by rw[Ϟ,hi.4];show hl) (by simpa using rv))) (λb u z=>by let z':=z;cases z') (λb z=>absurd rfl z) λz=>absurd rfl z
 | none=>
  show core (λb=>if b=a then some (.Nq { cls:=.type "list",data:=.seq vs.10 } (.lst (ns.map V.int))) else none) (λb=>?_) (.inl (.inr ⟨{ cls:=.type "list",data:=.seq vs.10 },ε rfl⟩)) (λb u z=>?_) (λb z=>?_) λ_=>hk
  ·by_cases hb:b=a
   ·show .inr (uY _ _ (ε hb))
   ·show .inl (Ψ hb)
  ·by_cases hb:b=a
   ·let z':=(ε hb).symm.trans z
    cases z';subst hb;show⟨ha,by rw[Η];show hl,(cJ vs _ rv ha)⟩
   ·let z':=(Ψ hb).symm.trans z
    cases z'
  ·by_cases hb:b=a
   ·show hb
   ·show absurd (Ψ hb) z
theorem KOf {K:ζ}{h:a9}(_:K.In h):ζ:=K
def VB {l:alz}{d:DefRec}{K:aox->ζ}{CX:dX->RI}{sp:dX->Sp}
  (hn:l.most=!n) (hn2:n<=sizeLine) (hdf:d.58=[]) (hr:ga k callerA)
  (hY:∀(w:dX) (h:a9),YP w h->(K w.40).In h)
  (F:∀(w:dX) (mg:Str->Option Ω) (fa:Ν) (h:a9),(K w.40).In h->h.Ns mainGlobals mg->mg d.47=!.ref fa->
   ∃fd:fF,(∀(s:ς) (u:Ω),Gq s fd ⟨[u],[]⟩ [(x,u)])/\
    ∀base:a9,(K w.40).In base->base.Ns mainGlobals mg->qv l.29 w (K w.40) mg base (CX w) k fa fd [x] (sp w))
  (oN:∀(w:dX) (H:Hp) (a:Ν) (ns:-Int),ns.4<=n->Zf H->fK (K w.40) H a (ns.map V.int)->sp w [.ref a] H (λv _=>v=.bl true) λ_ _ _=>False)
  (hCX:∀(w:dX) (H:Hp) (s:ς) (e:Ω) (s':ς),CX w [] H s (λ_ _ _=>False) e s'->False) :
  apT q loose XP YP l.76 d [] (λf vs=>PySem.call f vs):=by
 show Att.GP hn hdf λw s₀ s₁ mg mb fa o pm cd doc a vs ns G Y ho hd zq hmg Ze hints hlen hg=>?_;let KX:=hY w _ Y;(show Ϗ (F w mg fa _ KX G.T.g hmg) λfd hb hF=>?_);show RS KX G.T.g G.T.b G.T.builtins G.T.nolimit hg Ze hints (ϊ hlen hn2) hr hF hb (λH hO hS=>oN w H a ns hlen hO hS) λH e s'=>hCX w H s₁ e s'
abbrev inClass (s:ϩ)(j:Nat):ϩ:=match s with
 | .ClassDef _ _ _ body _ _ _ _ _ _ _=>body.getD j (.Pass ⟨0,0,0,0⟩)
 | _=>.Pass ⟨0,0,0,0⟩
abbrev dF (s:ϩ):Arguments:=match s with
 | .FunctionDef _ a _ _ _ _ _ _ _ _=>a
 | _=>{ posonlyargs:=[],args:=[],vararg:=none,kwonlyargs:=[],kw_defaults:=[],kwarg:=none,defaults:=[] }
abbrev cD (s:ϩ):-ϩ:=match s with
 | .FunctionDef _ _ b _ _ _ _ _ _ _=>b
 | _=>[]
abbrev Υ (s:ϩ):rN:=match s with
 | .FunctionDef _ _ _ _ _ _ sc _ _ _=>sc
 | _=>{ kind:=.function,names:=[],isGenerator:=false,isCoroutine:=false }
theorem Jf:RI:=λ_ _ _ _ _ _=>False
theorem E0:XK:=λ_ _ _=>False
def ϋ :Passes Jf X E0:=λ_ _ _ _ _ _ _ h=>h.38
structure UI (K:ζ)(x qual:Str)(st:ϩ)(f:Ν)(fd:fF):Prop where
 ex:∃(oc:Ω) (od:Option Ν) (kV doc pm:Ω) (an:Option Ν) (gX ct:Ω) (GA:Array (Option Ω)),
  fd=gp x qual (dF st) (cD st) (Υ st) .none kV doc pm an gX ct/\K.lookup f=!⟨oc,od,.func fd,GA⟩/\qy K gX qual=true
 kp:ix K (.ref f)=true
section
variable {P:ah} {K:ζ} {base:a9}
def UI.ok {st:ϩ}(F:UI K x qual st f fd)(S:ρ N ps (Υ st))(len:∀vs H Q E,sp vs H Q E->vs.4=ps.4)
  (Af:∀(gX:Ω) (A:sY) (outer:-Env) (s:ς) (H:Hp) (vs:-V) (Q:VK) (E:XK),ga k (A.deeper (envOfC qual (Υ st) s.5 f gX))->sp vs H Q E->
   ∃t,Je (Ae Jf P w K mg base N qual (Υ st) f gX A outer s H E).YO (cD st) t/\t { nx:=λ_ H'=>Q .bM H',rt:=Q } (start N vs) H):qv P w K mg base Jf (k+1) f fd ps sp:=by
 (show Rj F.ex λoc od kV doc pm an=>wv λgX ct GA ϐ lk zq=>?_;subst ϐ);show Xv lk zq S len λA outer s H vs Q E hr oN=>?_;(show Ϗ (Af gX A outer s H vs Q E hr oN) λt h q=>?_);show(δ t h.YO q)
def UI.binds {st:ϩ}(F:UI K x qual st f fd)
  (h:∀(kV doc pm:Ω) (an:Option Ν) (gX ct:Ω) (us:-Ω),us.4=ps.4->bindArgs (gp x qual (dF st) (cD st) (Υ st) .none kV doc pm an gX ct) ⟨us,[]⟩=pure (ps.zip us)):Binds K fd ps []:=by
 (show Rj F.ex λoc od kV doc pm an=>wv λgX ct GA ϐ lk zq=>?_;subst ϐ);show .all (h kV doc pm an gX ct)
def wC {st:ϩ}{kV:Ω}(l:K.lookup f=!⟨oc,od,.func (gp x qual (dF st) (cD st) (Υ st) .none kV doc pm an gX ct),GA⟩)
  (c:qy K gX qual=true) (k:ix K (.ref f)=true):UI K x qual st f (gp x qual (dF st) (cD st) (Υ st) .none kV doc pm an gX ct):=⟨(zT oc od kV doc pm an (Nj gX ct GA rfl l c)),k⟩
end
def ada (hr:ga k A):A.20+1 < cLine:=υ (Nat.add_le_add_left "!" _) hr.20
section
variable {X:Cx}
def pv (i:Nat)(hN: ~~~(X.N[i]?=!x))(hv:autoParam (Vk X.16 x) L2.Rl._auto_1)(hd:autoParam (EM x) L2.fR._auto_1)
  (zq:autoParam (Cdt x) L2.fR._auto_1):PE X (.Name x pos) (zY i):=YL hN hv hd zq
end
def E3 {c A B:Prop}[Decidable c](h1:c->A)(h2:¬c->B):if c then A else B:=by
 by_cases h:c
 ·rw[ε h]
  show h1 h
 ·rw[Ψ h]
  show h2 h
abbrev ι (H H':Hp):Prop:=∀b o,H b=!o->H' b=!o
def ι.refl (H:Hp):ι H H:=λ_ _ h=>h
def ι.trans (a:ι H H1)(b:ι H1 H2):ι H H2:=λc o h=>b c o (a c o h)
def ι.free (e:ι H H')(h:H' l=xG):H l=xG:=by
 cases q:H l with
 | none=>rfl
 | some o=>
  rw[e l o q] at h;cases h
def ι.seq {K:ζ}(e:ι H H')(h:fK K H a xs):fK K H' a xs:=by
 rcases h with(h | ⟨o,h⟩) | h
 ·show .inl (.inl (e _ _ h))
 ·show .inl (.inr ⟨o,e _ _ h⟩)
 ·show .inr h
section
variable [DecidableEq κ]
abbrev a8 (kvs:-(κ×V))(k:κ):Option V:=(kvs.find? λkv=>decide (kv.1=k)).map (·.2)
abbrev putK (kvs:-(κ×V))(k:κ)(v:V):-(κ×V):=
 if (kvs.any λkv=>decide (kv.1=k))=true then kvs.map (λkv=>if kv.1=k then(kv.1,v) else kv) else kvs++[(k,v)]
abbrev gP (kvs:-(κ×V))(k:κ):-(κ×V):=kvs.filter λkv=>decide (kv.1≠k)
def RT :a8 ([]:-(κ×V)) k=none:=rfl
def dC {p:κ×V}{r:-(κ×V)}(e:p.1=k):a8 (p::r) k=!p.2:=by simp[a8,d4,e]
def cK {p:κ×V}{r:-(κ×V)}(e:¬p.1=k):a8 (p::r) k=a8 r k:=by simp[a8,d4,e]
def nM (k:κ):∀kvs:-(κ×V),(kvs.any λkv=>decide (kv.1=k))=(a8 kvs k).11
 | []=>rfl
 | p::r=>by
  rw[jG]
  by_cases e:p.1=k
  ·simp only[dC e,ϱ e,Bool.true_or,apU]
  ·rw[cK e,ae e,Bool.false_or];show nM k r
def GQ (k j:κ)(y:V):∀kvs:-(κ×V),a8 (kvs.map λkv=>if kv.1=k then(kv.1,y) else kv) j=(a8 kvs j).map λx=>if j=k then y else x
 | []=>rfl
 | p::r=>by
  let ih:=GQ k j y r;rw[ϒ]
  by_cases h:p.1=k
  ·rw[ε h]
   by_cases e:p.1=j
   ·rw[dC (p:=(p.1,y)) e,dC e,pD,ε (e.symm.trans h)]
   ·rw[cK (p:=(p.1,y)) e,cK e,ih]
  ·rw[Ψ h]
   by_cases e:p.1=j
   ·rw[dC (p:=p) e,dC e,pD,Ψ (λz=>h (e.trans z))]
   ·rw[cK (p:=p) e,cK e,ih]
def DK (k j:κ)(y:V):∀kvs:-(κ×V),a8 kvs k=none->a8 (kvs++[(k,y)]) j=if j=k then some y else a8 kvs j
 | [],_=>by
  by_cases e:k=j
  ·rw[ε e.17];show dC (p:=(k,y)) e
  ·rw[Ψ (λz=>e z.17)];show cK (p:=(k,y)) e
 | p::r,hn=>by
  rw[dA];let hk:¬p.1=k:=λz=>by rw[dC z] at hn;cases hn
  rw[cK hk] at hn;let ih:=DK k j y r hn
  by_cases e:p.1=j
  ·rw[dC e,dC e,Ψ (λz=>hk (e.trans z))]
  ·rw[cK e,cK e,ih]
def jA (kvs:-(κ×V))(k j:κ)(y:V):a8 (putK kvs k y) j=if j=k then some y else a8 kvs j:=by
 unfold putK
 by_cases a:(kvs.any λkv=>decide (kv.1=k))=true
 ·rw[ε a,GQ]
  rw[nM] at a
  by_cases e:j=k
  ·obtain⟨x,hx⟩:=aJ.mp a
   rw[ε e,e,hx,pD,ε rfl]
  ·rw[Ψ e]
   cases a8 kvs j with
   | none=>rfl
   | some x=>rw[pD,Ψ e]
 ·rw[Ψ a]
  show DK k j y kvs ?_;rw[nM] at a;cases q:a8 kvs k with
  | none=>rfl
  | some x=>rw[q] at a;show(a rfl).38
def dm (kvs:-(κ×V))(k:κ)(v:V):(putK kvs k v).4<=kvs.4+1:=by
 unfold putK
 split
 ·rw[Η];lk
 ·rw[Ρ,ω,aF];lk
def RU {kvs:-(κ×V)}{k:κ}(v:V)(h:a8 kvs k=none):putK kvs k v=kvs++[(k,v)]:=by
 unfold putK;rw[nM,h];show Ψ "!"
def nI.nN {u:Option Ω}(r:nI o u):o.11=u.11:=by
 cases o with
 | none=>cases u with
  | none=>rfl
  | some _=>show(r).38
 | some _=>cases u with
  | none=>show(r).38
  | some _=>rfl
def nI.getD {u:Option Ω}{d:V}(r:nI o u)(rd:RelV d d'):RelV (o.getD d) (u.getD d'):=by
 cases o with
 | none=>cases u with
  | none=>show rd
  | some _=>show(r).38
 | some _=>cases u with
  | none=>show(r).38
  | some _=>show r
def KV.val {kvs:-(κ×V)}{vs:-(κ×Ω)}(r:KV kvs vs)(k:κ):nI (a8 kvs k) (valueAt vs k):=by
 induction r with
 | nil=>show bo
 | @cons p q ps qs h t ih=>
  obtain⟨h1,h2⟩:=h
  by_cases e:p.1=k
  ·let e':=h1.symm.trans e
   let b:valueAt (q::qs) k=!q.2:=by simp[valueAt,d4,e']
   rw[dC e,b];show h2
  ·let e':¬q.1=k:=λz=>e (h1.trans z)
   let b:valueAt (q::qs) k=valueAt qs k:=by simp[valueAt,d4,e']
   rw[cK e,b];show ih
def KV.any {kvs:-(κ×V)}{vs:-(κ×Ω)}(r:KV kvs vs)(k:κ):(kvs.any λkv=>decide (kv.1=k))=vs.any λkv=>decide (kv.1=k):=by
 induction r with
 | nil=>rfl
 | cons h t ih=>rw[jG,jG,ih,h.1]
def KV.Zg {kvs:-(κ×V)}{vs:-(κ×Ω)}(r:KV kvs vs)(k:κ)(ry:RelV y u) :
  KV (kvs.map λkv=>if kv.1=k then(kv.1,y) else kv) (vs.map λkv=>if kv.1=k then(kv.1,u) else kv):=by
 induction r with
 | nil=>show .nil
 | @cons p q ps qs h t ih=>
  rw[ϒ,ϒ];show .cons ?_ ih;obtain⟨h1,h2⟩:=h
  by_cases e:p.1=k
  ·rw[ε e,ε (h1.symm.trans e)];show⟨h1,ry⟩
  ·rw[Ψ e,Ψ (λz=>e (h1.trans z))];show⟨h1,h2⟩
def KV.put {kvs:-(κ×V)}{vs:-(κ×Ω)}(r:KV kvs vs)(k:κ)(ry:RelV y u):KV (putK kvs k y) (stored vs k u):=by
 unfold putK stored;rw[r.any k]
 by_cases e:(vs.any λkv=>decide (kv.1=k))=true
 ·rw[ε e,ε e];show r.Zg k ry
 ·rw[Ψ e,Ψ e];show Paired.snoc r ⟨rfl,ry⟩
def KV.drop {kvs:-(κ×V)}{vs:-(κ×Ω)}(r:KV kvs vs)(k:κ):KV (gP kvs k) (without vs k):=by
 unfold gP without
 induction r with
 | nil=>show .nil
 | @cons p q ps qs h t ih=>
  obtain⟨h1,h2⟩:=h;rw[jx,jx]
  by_cases e:p.1=k
  ·let a:¬decide (p.1≠k)=true:=by simp[e]
   let b:¬decide (q.1≠k)=true:=by simp[h1.symm.trans e]
   rw[Ψ a,Ψ b];show ih
  ·let e':¬q.1=k:=λz=>e (h1.trans z)
   let a:decide (p.1≠k)=true:=by simp[e]
   let b:decide (q.1≠k)=true:=by simp[e']
   rw[ε a,ε b];show .cons ⟨h1,h2⟩ ih
def KV.length {kvs:-(κ×V)}{vs:-(κ×Ω)}(r:KV kvs vs):kvs.4=vs.4:=Paired.length r
def Ai (kvs:-(κ×V))(k:κ):(gP kvs k).4<=kvs.4:=cw _ _
end
def tw (r:RelV (kV k) u):(bX P w).is k u=true:=by
 cases k with
 | inl i=>obtain⟨t,e⟩:=(r);subst e;show GE P w i t
 | inr x=>obtain⟨t,e⟩:=(r);subst e;show xK P w x t
def DL {P:ah}:∀{ks:-Key} {us:-Ω},Vals (ks.map kV) us->ItemsAre (bX P w) ks us
 | [],_,r=>by rw[wt] at r;cases r;show .nil
 | k::ks,_,r=>by
  rw[ϒ] at r;cases r with
  | cons h t=>show .cons (tw h) (DL t)
theorem KT (H:Hp):-(-Key×V)->-(-Key×Ν×Ω)->Prop:=Paired λp q=>p.1=q.1/\H q.2.1=!.tup (p.1.map kV)/\RelV p.2 q.2.2
def KT.val {kvs:-(-Key×V)}{xs:-(-Key×Ν×Ω)}(r:KT H kvs xs)(k:-Key):nI (a8 kvs k) ((atKey xs k).map (·.2)):=by
 induction r with
 | nil=>show bo
 | @cons p q ps qs h t ih=>
  (revert h;show qp λh1 _ h2=>?_)
  by_cases e:p.1=k
  ·let e':=h1.symm.trans e
   let b:atKey (q::qs) k=!q.2:=by simp[atKey,d4,e']
   rw[dC e,b];show h2
  ·let e':¬q.1=k:=λz=>e (h1.trans z)
   let b:atKey (q::qs) k=atKey qs k:=by simp[atKey,d4,e']
   rw[cK e,b];show ih
def KT.Zg {kvs:-(-Key×V)}{xs:-(-Key×Ν×Ω)}(r:KT H kvs xs)(k:-Key)(ry:RelV y u) :
  KT H (kvs.map λkv=>if kv.1=k then(kv.1,y) else kv) (xs.map (putAt k u)):=by
 induction r with
 | nil=>show .nil
 | @cons p q ps qs h t ih=>
  rw[ϒ,ϒ];show .cons ?_ ih;(revert h;show qp λh1 h2 h3=>?_);unfold putAt
  by_cases e:p.1=k
  ·rw[ε e,ε (h1.symm.trans e)];show⟨h1,h2,ry⟩
  ·rw[Ψ e,Ψ (λz=>e (h1.trans z))];show⟨h1,h2,h3⟩
def KT.put {kvs:-(-Key×V)}{xs:-(-Key×Ν×Ω)}(r:KT H kvs xs)(k:-Key)(hb:H b=!.tup (k.map kV))(ry:RelV y u) :
  KT H (putK kvs k y) (storedH xs k b u):=by
 let e:(kvs.any λkv=>decide (kv.1=k))=(atKey xs k).11:=by
  rw[nM,(r.val k).nN,uW]
 unfold putK storedH;rw[e]
 by_cases q:(atKey xs k).11=true
 ·rw[ε q,ε q];show r.Zg k ry
 ·rw[Ψ q,Ψ q];show Paired.snoc r ⟨rfl,hb,ry⟩
def KT.keeps {kvs:-(-Key×V)}{xs:-(-Key×Ν×Ω)}(r:KT H kvs xs)(ht:∀b ys,H b=!.tup ys->H' b=!.tup ys):KT H' kvs xs:=
 Paired.YI r λ_ _ z=>⟨z.1,ht _ _ z.2.1,z.2.2⟩
section
variable {P:ah} {h:a9} 
def Xz {u:HO}(ok:uT P w H h)(e:Rd H a u):fW P w H h a u:=e.ok ok
def xO (ok:uT P w H h)(e:Rd H a (.dK kvs)):kvs.4<=sizeLine/\(a == sysModules)=false/\∃vs,KV kvs vs/\h.DictOf (bX P w) a vs:=
 show fW P w H h a (.dK kvs) from Xz ok e
def xP (ok:uT P w H h)(e:H a=!.dK kvs):kvs.4<=sizeLine/\(a == sysModules)=false/\∃vs,KV kvs vs/\h.DictOf (bX P w) a vs:=xO ok (.inl e)
def wD (ok:uT P w H h)(e:H a=!.tup (ks.map kV)):(tupleKind (bX P w)).is h ks a:=by
 (show uZ (ok a _ e) λ_=>ay λbn r=>ia λo h1 h2=>uf λn h3=>?_);show(aL o bn.10 n h1 h2 h3 (by simpa using DL r))
def Aj {kvs:-(-Key×V)}(ok:uT P w H h)(e:Rd H a (.dT kvs)):kvs.4<=sizeLine/\(a == sysModules)=false/\
  ∃xs,KT H kvs xs/\h.DictOfH (tupleKind (bX P w)) a xs:=by
 (show cW (Xz ok e) λz y=>ay λxs r=>ug λo es ep h1 h2 h3 h4 h5=>?_);show⟨z,y,(δ xs r (zS o es ep h1 h2 h3 h4 (λx hx=>?_) h5))⟩;let all:∀{l:-(-Key×V)} {m:-(-Key×Ν×Ω)},KT H l m->∀x∈m,(tupleKind (bX P w)).is h x.1 x.2.1:=by
  intro l m q
  induction q with
  | nil=>intro x hx;show nomatch hx
  | @cons p q ps qs hq t ih=>
   intro x hx;rcases Ι.mp hx with e | hx
   ·subst e
    show wD ok (by rw[<-hq.1];show hq.2.1)
   ·show ih x hx
 show all r x hx
def adb {kvs:-(-Key×V)}(ok:uT P w H h)(e:H a=!.dT kvs):kvs.4<=sizeLine/\(a == sysModules)=false/\
  ∃xs,KT H kvs xs/\h.DictOfH (tupleKind (bX P w)) a xs:=Aj ok (.inl e)
end
abbrev bH (H:Hp)(a:Ν)(y:V)(r:Option V):Prop:=
 (∃kvs k,Rd H a (.dK kvs)/\y=kV k/\r=a8 kvs k)\/∃kvs k b,Rd H a (.dT kvs)/\y=.ref b/\H b=!.tup (k.map kV)/\r=a8 kvs k
abbrev jN (H:Hp)(a:Ν)(y v:V)(H':Hp):Prop:=
 (∃kvs k,H a=!.dK kvs/\y=kV k/\kvs.4 < sizeLine/\H'=upd H a (.dK (putK kvs k v)))\/
 ∃kvs k b,H a=!.dT kvs/\y=.ref b/\H b=!.tup (k.map kV)/\kvs.4 < sizeLine/\H'=upd H a (.dT (putK kvs k v))
def bH.k {k:Key}(e:H a=!.dK kvs):bH H a (kV k) (a8 kvs k):=.inl (ϧ kvs k (.inl e) rfl rfl)
def jN.k {k:Key}(e:H a=!.dK kvs)(hl:kvs.4 < sizeLine):jN H a (kV k) v (upd H a (.dK (putK kvs k v))):=.inl (fk kvs k e rfl hl rfl)
section
variable {X:Cx} {s:ς} {v:V} {r:Ω} {o:Option V}  
def Inv.big (I:Inv X pins σ H s):sysModules < s.5:=by
 show gL "!" ((I.mod.glob.keeps I.bk).lt)
def NJ {Q:Ω->ς->Prop}(hu:A.20+1 < cLine)(I:Inv X pins σ H s)(g:bH H a y (!v))(ry:RelV y u)(h:∀w' s',Inv X pins σ H s'->RelV v w'->Q w' s') :
  wpAny X.mo A (getItem (.ref a) u) Q E s:=by
 rcases g with⟨kvs,k,e,ey,l⟩ | ⟨kvs,k,b,e,ey,eb,l⟩
 ·subst ey
  (show cW (xO I.cx e) λz hd=>ay λvs rel dd=>?_);(show Ϗ (nI.zt (by rw[l];show rel.val k)) λw' hw Ah=>?_);show abf (tw ry) dd.92 hw (h w' _ (I.tok _) Ah)
 ·subst ey
  cases (ry);(show cW (Aj I.cx e) λz hd=>ay λxs rel dd=>?_);(show Ϗ (nI.zt (by rw[l];show rel.val k)) λw' hw Ah=>?_);(show Ϗ (χ.mp hw) λp hp xQ=>?_);show wpAny_getItem_heap (i4 hu) (wD I.cx eb) dd hp ?_;rw[xQ];show h w' _ (I.tok _) Ah
def ahh {Q:Ω->ς->Prop}(hu:A.20+1 < cLine)(I:Inv X pins σ H s)(g:bH H a y o)(ry:RelV y u)(h:∀s',Inv X pins σ H s'->Q (.bool o.11) s') :
  wpAny X.mo A (compareOp .In u (.ref a)) Q E s:=by
 rcases g with⟨kvs,k,e,ey,l⟩ | ⟨kvs,k,b,e,ey,eb,l⟩
 ·subst ey
  (show cW (xO I.cx e) λz hd=>ay λvs rel dd=>?_);show wpAny_in_of (tw ry) hd dd.92 ?_;rw[<-(rel.val k).nN,<-l];show h _ (I.tok _)
 ·subst ey
  cases (ry);(show cW (Aj I.cx e) λz hd=>ay λxs rel dd=>?_);show wpAny_in_heap (i4 hu) (wD I.cx eb) hd dd ?_;let q:=(rel.val k).nN;rw[uW] at q;rw[<-q,<-l];show h _ (I.tok _)
def VC {Q:Ω->ς->Prop}(hu:A.20+1 < cLine)(I:Inv X pins σ H s)(g:bH H a y o)(ry:RelV y u)(h:∀s',Inv X pins σ H s'->Q (.bool (!((o.isSome)))) s') :
  wpAny X.mo A (compareOp .NotIn u (.ref a)) Q E s:=by
 rcases g with⟨kvs,k,e,ey,l⟩ | ⟨kvs,k,b,e,ey,eb,l⟩
 ·subst ey
  (show cW (xO I.cx e) λz hd=>ay λvs rel dd=>?_);show wpAny_notIn_of (tw ry) hd dd.92 ?_;rw[<-(rel.val k).nN,<-l];show h _ (I.tok _)
 ·subst ey
  cases (ry);(show cW (Aj I.cx e) λz hd=>ay λxs rel dd=>?_);show wpAny_notIn_heap (i4 hu) (wD I.cx eb) hd dd ?_;let q:=(rel.val k).nN;rw[uW] at q;rw[<-q,<-l];show h _ (I.tok _)
def u7 (I:Inv X pins σ H s)(mu:Mut (H a))(hs:ql a s.12 h')(he:∃q,h'.get? a=!q)(new:fW X.29 X.w (upd H a ob) h' a ob) :
  Inv X pins σ (upd H a ob) { s with heap:=h',toks:=t' }:=
 I.write mu (.inl rfl) (λb q hb z=>(hs.2 b hb).trans z) he new
def Ak {vs:-(Key×Ω)}(z:kvs.4<=sizeLine)(hd:(a == sysModules)=false)(rel:KV kvs vs)(dd:h'.DictOf (bX P w) a vs) :
  fW P w H' h' a (.dK kvs):=⟨z,hd,(δ vs rel dd)⟩
def NK {Q:Unit->ς->Prop}(hu:A.20+1 < cLine)(I:Inv X pins σ H s)(g:jN H a y v H')(ry:RelV y u)(rv:RelV v r)(h:∀s',Inv X pins σ H' s'->Q Unit.unit s') :
  wpAny X.mo A (setItem (.ref a) u r) Q E s:=by
 rcases g with⟨kvs,k,e,ey,l,eH⟩ | ⟨kvs,k,b,e,ey,eb,l,eH⟩
 ·subst ey eH
  (show cW (xP I.cx e) λz hd=>ay λvs rel dd=>?_);let hz:vs.4<=sizeLine:=by rw[<-rel.4];show z
  let hl:(putK kvs k v).4<=sizeLine:=by have:=dm kvs k v;lk
  show wpAny_setItem_pairs (tw ry) dd λh' JR hs=>h _ ?_;let he:∃q,h'.get? a=!q:=let ⟨q,_,_,hq,_⟩:=JR;⟨q,hq⟩;show u7 I (by rw[e];show bo) hs he (Ak hl hd (rel.put k rv) JR)
 ·subst ey eH
  cases (ry);(show cW (adb I.cx e) λz hd=>ay λxs rel dd=>?_);let hz:xs.4<=sizeLine:=by rw[<-Paired.length rel];show z
  let hl:(putK kvs k v).4<=sizeLine:=by have:=dm kvs k v;lk
  show wpAny_setItem_heap (i4 hu) (wD I.cx eb) dd λh' JR hs=>h _ ?_;(revert JR;show ug λq es ep hq h2 h3 h4=>ke λ_ h5=>?_);show u7 I (by rw[e];show bo) hs ⟨q,hq⟩ ⟨hl,hd,(δ _ ((rel.put k eb rv).keeps λc ys ec=>?_) (dL q es ep hq h2 h3 h4 h5))⟩;rw[ν (dQ ec e (λz=>nomatch z))];show ec
end
section
variable {X:Cx} {s:ς} {k:Key}   
def XA {Q:Ω->ς->Prop}(I:Inv X pins σ H s)(e:H a=!.dK kvs)(ry:RelV (kV k) u)(l:a8 kvs k=!v)(hm:more=[]\/∃x,more=[x])
  (h:∀w' s',Inv X pins σ (upd H a (.dK (gP kvs k))) s'->RelV v w'->Q w' s'):wpAny X.mo A (call (.builtin "dict.pop") (.ref a::u::more)) Q E s:=by
 (show cW (xP I.cx e) λz hd=>ay λvs rel dd=>?_);(show Ϗ (nI.zt (by rw[<-l];show rel.val k)) λw' hw Ah=>?_);let hp:(keyPart u).11=true:=by
  cases k with
  | inl i=>obtain⟨t,q⟩:=(ry);subst q;rfl
  | inr x=>obtain⟨t,q⟩:=(ry);subst q;rfl
 let ha:argsOk "dict.pop" ⟨.ref a::u::more,[]⟩:=by
  rcases hm with q | ⟨x,q⟩
  ·subst q;show PySem.F.args_dict_pop_2 _ _
  ·subst q;show PySem.F.args_dict_pop_3 _ _ _
 show tq PySem.F.slot_dict_pop dd.35 PySem.F.entry_dict_pop ha (meets_dict_pop_there (bX X.29 X.w) a (tw ry) more hm hp)
  (fk vs w' dd (by rw[<-rel.4];show z) hw (λh' JR hs=>h w' _ ?_ Ah))
 let he:∃q,h'.get? a=!q:=let ⟨q,_,_,hq,_⟩:=JR;⟨q,hq⟩;show u7 I (by rw[e];show bo) hs he (Ak (ϊ (Ai kvs k) z) hd (rel.drop k) JR)
def Zh {r:Ω}{Q:Ω->ς->Prop}(I:Inv X pins σ H s)(e:H a=!.dK kvs)(ry:RelV (kV k) u)(l:a8 kvs k=none)(h:∀s',Inv X pins σ H s'->Q r s') :
  wpAny X.mo A (call (.builtin "dict.pop") [.ref a,u,r]) Q E s:=by
 (show cW (xP I.cx e) λz hd=>ay λvs rel dd=>?_);let hp:(keyPart u).11=true:=by
  cases k with
  | inl i=>obtain⟨t,q⟩:=(ry);subst q;rfl
  | inr x=>obtain⟨t,q⟩:=(ry);subst q;rfl
 show tq PySem.F.slot_dict_pop dd.35 PySem.F.entry_dict_pop (PySem.F.args_dict_pop_3 _ _ _) (meets_dict_pop_default (bX X.29 X.w) a (tw ry) hd hp r) (ac vs dd (nI.none_of (by rw[<-l];show rel.val k)) (h _ (I.tok _)))
def adc {Q:Ω->ς->Prop}(I:Inv X pins σ H s)(e:Rd H a (.dK kvs))(h:∀t s',Inv X pins σ H s'->Q (.int kvs.4 t) s'):wpAny X.mo A (call (.builtin "len") [.ref a]) Q E s:=by
 (show cW (xO I.cx e) λz hd=>ay λvs rel dd=>?_);show call_len_dict hd dd (by rw[<-rel.4];rw[qm] at z;lk) ?_;rw[<-rel.4];show h _ _ (I.tok _)
end
def GR (I:Inv X pins σ H s)(g:bH H a y o):s.TypeIs (.ref a) "dict":=by
 rcases g with⟨kvs,k,e,_,_⟩ | ⟨kvs,k,b,e,_,_,_⟩
 ·(show cW (xO I.cx e) λ_ _=>ay λvs _ dd=>?_)
  show dd.35
 ·(show cW (Aj I.cx e) λ_ _=>ay λxs _ dd=>?_)
  show dd.35
def GS (h:a9)(hb:sysModules < h.7):fW P w H (h.push { cls:=.type "dict",data:=.dict #[] }) h.7 (.dK []):=
 ⟨Ϝ _,dY.mpr (ό (Ϫ hb)),(δ ([]) (.nil) (ae5 h))⟩
abbrev Zi:TE:=λ_ H Q=>∀p,H p=none->Q (.ref p) (upd H p (.dK []))
section
variable {X:Cx} 
def gb:PE X (.Dict [] [] pos) Zi:=λpins s σ H Q I h=>
 abg (ϧ (.ref s.5) _ (I.laid (λ_ _ q=>Χ _ q) (ξ _) (GS s.12 I.big)) rfl (h _ (I.cx.fresh (ξ _))))
end
abbrev JS:-(TE×TE)->St->Hp->(-(V×V)->Hp->Prop)->Prop
 | [],_,H,Q=>Q [] H
 | (tk,tv)::r,σ,H,Q=>tk σ H λx H1=>tv σ H1 λy H2=>JS r σ H2 λps H3=>Q ((x,y)::ps) H3
theorem VV:-(V×V)->-(Ω×Ω)->Prop:=Paired λp q=>RelV p.1 q.1/\RelV p.2 q.2
abbrev PPs (X:Cx)(pos:Pos)(keys:-(Option bS))(values:-bS)(VD:-(TE×TE)):Prop:=
 ∀pins s σ H Q,Inv X pins σ H s->JS VD σ H Q->
  wpAny X.mo X.A (evalPairs (pairTrees keys values X.8 pos)) (λvs s'=>∃ps H',Inv X pins σ H' s'/\VV ps vs/\Q ps H') X.xe s
def zA :PPs X pos [] [] []:=λpins s σ H Q I h=>pairTrees_nil_walk (ϧ ([]) H I (.nil) h)
def eS {vs:-bS}{tk:TE}(hk:PE X k tk)(hv:PE X v tv)(hr:PPs X pos ks vs VD) :
  PPs X pos (some k::ks) (v::vs) ((tk,tv)::VD):=λpins s σ H Q I h=>
 pairTrees_cons_walk (dM (hk pins s σ H _ I h) λu s1 x H1 I1 rx q1=>dM (hv pins s1 σ H1 _ I1 q1) λw2 s2 y H2 I2 ry q2=>
  iZ (hr pins s2 σ H2 _ I2 q2) λws s3 η=>kf η λps H3 I3 rel q3=>(ϧ ((x,y)::ps) H3 I3 (.cons ⟨rx,ry⟩ rel) q3))
abbrev jO (kvs more:-(Key×V)):-(Key×V):=more.foldl (λacc kv=>putK acc kv.1 kv.2) kvs
def KV.merge:∀{more:-(Key×V)} {rs:-(Key×Ω)} {kvs:-(Key×V)} {vs:-(Key×Ω)},KV more rs->KV kvs vs->KV (jO kvs more) (merged vs rs):=by
 intro more rs kvs vs r
 induction r generalizing kvs vs with
 | nil=>intro q;show q
 | @cons p q ps qs h t ih=>
  intro r0;let e:KV (putK kvs p.1 p.2) (stored vs q.1 q.2):=by
   have:=r0.put p.1 h.2;rw[<-h.1];show this
  show ih e
def tz:∀(more kvs:-(Key×V)),(jO kvs more).4<=kvs.4+more.4
 | [],kvs=>by show kvs.4<=kvs.4+0;lk
 | p::r,kvs=>by
  let h1:=tz r (putK kvs p.1 p.2);let h2:=dm kvs p.1 p.2;show(jO (putK kvs p.1 p.2) r).4<=_;rw[ω];lk
def Al {P:ah}{w:dX}:∀{kvs:-(Key×V)} {ws:-(Ω×Ω)},VV (kvs.map λkv=>(kV kv.1,kv.2)) ws->∃rs,Carries (bX P w) ws rs/\KV kvs rs
 | [],_,r=>by rw[wt] at r;cases r;show(δ ([]) bo (.nil))
 | p::kvs,_,r=>by
  rw[ϒ] at r;cases r with
  | @cons a b as bs h t=>
   (show Ϗ (Al (P:=P) (w:=w) t) λrs c q=>?_);obtain⟨b1,b2⟩:=b;show(δ ((p.1,b2)::rs) ⟨tw h.1,rfl,c⟩ (.cons ⟨rfl,h.2⟩ q))
abbrev adf (VD:-(TE×TE)):TE:=λσ H Q=>∀p,H p=none->JS VD σ (upd H p (.dK [])) λps H2=>H2 p=!.dK []/\∃kvs,ps=kvs.map (λkv=>(kV kv.1,kv.2))/\kvs.4<=15/\Q (.ref p) (upd H2 p (.dK (jO [] kvs)))
def zB (h:PPs X pos keys values VD)(RQ:keys.all (·.isSome)=true)(hl:keys.4=values.4)(h0:keys≠[])
  (h15:keys.4<=15):PE X (.Dict keys values pos) (adf VD):=by
 intro pins s σ H Q I q;show wpAny_Dict_walk (knd:=bX X.29 X.w) RQ hl h0 h15 (iZ (h pins _ σ _ _ (I.laid (λ_ _ q=>Χ _ q) (ξ _) (GS s.12 I.big)) (q _ (I.cx.fresh (ξ s.5)))) λws s2 η=>ww η λps H2 I2 rel e=>ia λkvs ep lk q2=>?_);subst ep;(show Ϗ (Al (P:=X.29) (w:=X.w) rel) λrs c rk=>?_);(show cW (xP I2.cx e) λz hd=>ay λvs0 r0 dd=>?_);cases r0;show(ac rs c dd (λh' JR hs=>(ϧ (.ref s.5) _ ?_ rfl q2)));let hz:(jO [] kvs).4<=sizeLine:=by
  let h1:=tz kvs [];rw[aF] at h1;rw[qm];lk
 let he:∃q,h'.get? s.5=!q:=let ⟨q,_,_,hq,_⟩:=JR;⟨q,hq⟩;show u7 I2 (by rw[e];show bo) hs he (Ak hz hd (rk.merge .nil) JR)
structure M1 (X:Cx)(o:bS)(m:Str)(apos:Pos)(e:bS)(gN:Pos):Prop where
 base:attributeBase o m X.8 (eval o X.8)=eval o X.8
 few:((backTo gN (starEach [e] X.8)).all (λx=>!((x.1))) && (backToKw gN (keywordEach [] X.8)).all (λx=>x.1.11)
  && decide (([e]:-bS).4+([]:-nj).4+(if ([]:-nj).45 then 0 else 1) < 30))=true
 line:(apos.66 == gN.60)=true
 trees:backTo gN (starEach [e] X.8)=[(false,eval e X.8)]
structure M2 (X:Cx)(o:bS)(m:Str)(apos:Pos)(e f:bS)(gN:Pos):Prop where
 base:attributeBase o m X.8 (eval o X.8)=eval o X.8
 few:((backTo gN (starEach [e,f] X.8)).all (λx=>!((x.1))) && (backToKw gN (keywordEach [] X.8)).all (λx=>x.1.11)
  && decide (([e,f]:-bS).4+([]:-nj).4+(if ([]:-nj).45 then 0 else 1) < 30))=true
 line:(apos.66 == gN.60)=true
 trees:backTo gN (starEach [e,f] X.8)=[(false,eval e X.8),(false,eval f X.8)]
abbrev IsD (H:Hp)(a:Ν):Prop:=(∃kvs,Rd H a (.dK kvs))\/∃kvs,Rd H a (.dT kvs)
def JT (I:Inv X pins σ H s)(d:IsD H a) :
  s.TypeIs (.ref a) "dict" /\ (∀b,cC a=.ref b->∃ob,s.heap.get? b=!ob/\ob.59=none)/\(a == sysModules)=false:=by
 rcases d with⟨kvs,e⟩ | ⟨kvs,e⟩
 ·(show cW (xO I.cx e) λ_ hd=>ay λvs _ dd=>?_)
  show⟨dd.35,λb q=>?_,hd⟩;cases q;(revert dd;show wv λob _ _ h1 h2 _=>?_);show(δ ob h1 h2.2.1)
 ·(show cW (Aj I.cx e) λ_ hd=>ay λxs _ dd=>?_)
  show⟨dd.35,λb q=>?_,hd⟩;cases q;(revert dd;show wv λob _ _ h1 h2 _=>?_);show(δ ob h1 h2.2.1)
section
variable {X:Cx} {s:ς} {d:V} {r:Ω} {o:Option V}  
def Zj {Q:Ω->ς->Prop}(hu:A.20+1 < cLine)(I:Inv X pins σ H s)(g:bH H a y o)(ry:RelV y u)(rd:RelV d r)(h:∀w' s',Inv X pins σ H s'->RelV (o.getD d) w'->Q w' s') :
  wpAny X.mo A (call (.builtin "dict.get") [.ref a,u,r]) Q E s:=by
 rcases g with⟨kvs,k,e,ey,l⟩ | ⟨kvs,k,b,e,ey,eb,l⟩
 ·subst ey
  (show cW (xO I.cx e) λz hd=>ay λvs rel dd=>?_);show tq PySem.F.slot_dict_get dd.35 PySem.F.entry_dict_get (PySem.F.args_dict_get_3 _ _ _) (meets_dict_get_default (bX X.29 X.w) a (tw ry) hd r) (δ _ dd.92 (h _ _ (I.tok _) ?_));rw[l];show(rel.val k).getD rd
 ·subst ey
  cases (ry);(show cW (Aj I.cx e) λz hd=>ay λxs rel dd=>?_);show tq PySem.F.slot_dict_get dd.35 PySem.F.entry_dict_get (PySem.F.args_dict_get_3 _ _ _) (meetsH_dict_get_default (tupleKind (bX X.29 X.w)) a b hd r) ⟨i4 hu,(ϧ k xs (wD I.cx eb) dd (h _ _ (I.tok _) ?_))⟩;rw[l];show(rel.val k).getD rd
end
abbrev Zk (td ty tx:TE):TE:=λσ H Q=>td σ H λx H1=>∃a,x=.ref a/\IsD H1 a/\ty σ H1 λy H2=>tx σ H2 λz H3=>∃o,bH H3 a y o/\Q (o.getD z) H3
abbrev Zl (td ty:TE):TE:=λσ H Q=>td σ H λx H1=>∃a,x=.ref a/\IsD H1 a/\ty σ H1 λy H2=>∃kvs k v,H2 a=!.dK kvs/\y=kV k/\a8 kvs k=!v/\Q v (upd H2 a (.dK (gP kvs k)))
abbrev Zm (td ty tx:TE):TE:=λσ H Q=>td σ H λx H1=>∃a,x=.ref a/\IsD H1 a/\ty σ H1 λy H2=>tx σ H2 λz H3=>∃kvs k,H3 a=!.dK kvs/\y=kV k/\
 (∀v,a8 kvs k=!v->Q v (upd H3 a (.dK (gP kvs k))))/\(a8 kvs k=none->Q z H3)
section
variable {X:Cx} {o f:bS} {ty tx:TE}
def Am (hu:X.A.20+1 < cLine)(ho:PE X o td)(he:PE X e ty)(hf:PE X f tx)(m:M2 X o "get" apos e f gN):PE X (.Call (.Attribute o "get" apos) [e,f] [] gN) (Zk td ty tx):=by
 intro pins s σ H Q I h;show Ct m.49 m.few m.60 PySem.F.plainAttrs_dict PySem.F.slot_dict_get PySem.F.type_dict_get (iZ (ho pins s σ H _ I h) λu s1 η=>kf η λx H1 I1 rx=>ia λa ex d q1=>?_);subst ex;obtain rfl:u=cC a:=rx;(show cW (JT I1 d) λt1 t2 _=>?_);show⟨t1,t2,?_⟩;rw[m.trees]
 show fB rfl (gq (aM (dM (he pins s1 σ H1 _ I1 q1) λiv s2 y H2 I2 ry q2=>
  aM (iZ (hf pins s2 σ H2 _ I2 q2) λfv s3 η=>kf η λz H3 I3 rz=>ay λov g q3=>cf ?_))))
 show Zj hu I3 g ry rz λw' s4 I4 Ah=>(ϧ _ H3 I4 Ah q3)
def GT (ho:PE X o td)(he:PE X e ty)(m:M1 X o "pop" apos e gN):PE X (.Call (.Attribute o "pop" apos) [e] [] gN) (Zl td ty):=by
 intro pins s σ H Q I h;show Ct m.49 m.few m.60 PySem.F.plainAttrs_dict PySem.F.slot_dict_pop PySem.F.type_dict_pop (iZ (ho pins s σ H _ I h) λu s1 η=>kf η λx H1 I1 rx=>ia λa ex d q1=>?_);subst ex;obtain rfl:u=cC a:=rx;(show cW (JT I1 d) λt1 t2 _=>?_);show⟨t1,t2,?_⟩;rw[m.trees];show fB rfl (gq (aM (iZ (he pins s1 σ H1 _ I1 q1) λiv s2 η=>kf η λy H2 I2 ry=>Ve λkvs k v ea ey l q2=>cf ?_)));subst ey;show XA I2 ea ry l (.inl rfl) λw' s3 I3 Ah=>(ϧ v _ I3 Ah q2)
def RV (ho:PE X o td)(he:PE X e ty)(hf:PE X f tx)(m:M2 X o "pop" apos e f gN):PE X (.Call (.Attribute o "pop" apos) [e,f] [] gN) (Zm td ty tx):=by
 intro pins s σ H Q I h;show Ct m.49 m.few m.60 PySem.F.plainAttrs_dict PySem.F.slot_dict_pop PySem.F.type_dict_pop (iZ (ho pins s σ H _ I h) λu s1 η=>kf η λx H1 I1 rx=>ia λa ex d q1=>?_);subst ex;obtain rfl:u=cC a:=rx;(show cW (JT I1 d) λt1 t2 _=>?_);show⟨t1,t2,?_⟩;rw[m.trees]
 show fB rfl (gq (aM (dM (he pins s1 σ H1 _ I1 q1) λiv s2 y H2 I2 ry q2=>
  aM (iZ (hf pins s2 σ H2 _ I2 q2) λfv s3 η=>kf η λz H3 I3 rz=>su λkvs k ea ey q3 q4=>cf ?_))))
 subst ey;cases l:a8 kvs k with
 | some v=>show XA I3 ea ry l (.inr ⟨fv,rfl⟩) λw' s4 I4 Ah=>(ϧ v _ I4 Ah (q3 v l))
 | none=>show Zh I3 ea ry l λs4 I4=>(ϧ z H3 I4 rz (q4 l))
end
end
section
open PySem PySem.Spec PyProof.Rows
section
variable {X:Cx}
def NL:dJ X (.builtin "len") (λxs H Q=>∃a kvs,xs=[V.ref a]/\H a=!.dK kvs/\Q (.int kvs.4) H):=by
 intro pins s σ H xs us Q I r h;(revert h;show gI λa kvs ϐ ha q=>?_;subst ϐ);(show Ϗ (vals1 r) λu ϐ ru=>?_;subst ϐ);cases ru;show adc I (.inl ha) λt s' I'=>(ϧ (.int kvs.4) H I' ⟨t,rfl⟩ q)
end
section
variable [DecidableEq κ]
def NM {p:κ×V}{r:-(κ×V)}(e:p.1=k):gP (p::r) k=gP r k:=by
 unfold gP;rw[jx,Ψ (by simp[e])]
def NN {p:κ×V}{r:-(κ×V)}(e:¬p.1=k):gP (p::r) k=p::gP r k:=by
 unfold gP;rw[jx,ε (by simp[e])]
end
abbrev bY (cells:-(Str×Ν)):-(Str×dZ)->-(Str×Ν)->-(Str×Ν)
 | [],cs=>cs
 | (n,k)::r,cs=>if k=aA then(match cells.lookup n with | some a=>bY cells r ((n,a)::cs) | none=>bY cells r cs) else bY cells r cs
def xR {env:Env}:∀(names:-(Str×dZ)) (cs:-(Str×Ν)),(∀y∈names,y.2=aA->∃c,env.cells.lookup y.1=!c)->
  (forIn names cs λ(x:Str×dZ) r=>match x with
   | (name,kind)=>if (kind == aA)=true then do let a <-cellOf env name;pure (gH ((name,a)::r)) else pure (gH r))=(pure (bY env.53 names cs):Sem (-(Str×Ν)))
 | [],cs,_=>rfl
 | (n,k)::r,cs,h=>by
  let ih:=λVE=>xR (env:=env) r VE λy hy=>h y (ψ _ hy);rw[List.forIn_cons]
  by_cases hk:k=aA
  ·obtain⟨c,hc⟩:=h (n,k) Ϭ hk
   let Gm:env.cells.lookup n=!c:=hc;let Dy:cellOf env n=pure c:=by unfold cellOf;rw[Gm]
   let e1:bY env.53 ((n,k)::r) cs=bY env.53 r ((n,c)::cs):=by
    rw[bY,ε hk,Gm]
   rw[e1,<-ih ((n,c)::cs)];subst hk;dsimp only;rw[Dy];rfl
  ·let hb:(k == aA)=false:=by simpa using hk
   let e1:bY env.53 ((n,k)::r) cs=bY env.53 r cs:=by
    rw[bY,Ψ hk]
   rw[e1,<-ih cs];dsimp only;rw[hb];rfl
def Ao (h:∀y∈scope.31,y.2=aA->∃c,env.cells.lookup y.1=!c):closureFor scope env=pure (bY env.53 scope.31 []):=by
 show(congrArg (λt:Sem (-(Str×Ν))=>t >>= λs=>pure s) (xR scope.31 [] h)).trans rfl
def cE:∀(names:-(Str×dZ)) (cs:-(Str×Ν)),(∀x c,cs.lookup x=!c->cells.lookup x=!c)->∀x c,(bY cells names cs).lookup x=!c->cells.lookup x=!c
 | [],cs,h,x,c,e=>h x c e
 | (n,k)::r,cs,h,x,c,e=>by
  by_cases hk:k=aA
  ·cases q:cells.lookup n with
   | none=>
    rw[bY,ε hk,q] at e;show cE r cs h x c e
   | some a=>
    rw[bY,ε hk,q] at e;show cE r _ (λy d z=>?_) x c e;rw[ag] at z
    by_cases hy:(y == n)=true
    ·rw[hy] at z
     let Mq:y=n:=by simpa using hy
     subst Mq;show q.trans z
    ·let Mq:(y == n)=false:=by simpa using hy
     rw[Mq] at z;show h y d z
  ·rw[bY,Ψ hk] at e
   show cE r cs h x c e
def mx:∀(names:-(Str×dZ)) (cs:-(Str×Ν)) (x:Str),(cs.lookup x).11=true->((bY cells names cs).lookup x).11=true
 | [],cs,x,h=>h
 | (n,k)::r,cs,x,h=>by
  by_cases hk:k=aA
  ·cases q:cells.lookup n with
   | none=>rw[bY,ε hk,q];show mx r cs x h
   | some a=>
    rw[bY,ε hk,q];show mx r _ x ?_;rw[ag];cases hy:x == n with
    | true=>rfl
    | false=>show h
  ·rw[bY,Ψ hk];show mx r cs x h
def kH:∀(names:-(Str×dZ)) (cs:-(Str×Ν)) (x:Str),(x,aA)∈names->(cells.lookup x).11=true->((bY cells names cs).lookup x).11=true
 | [],cs,x,h,_=>by simp at h
 | (n,k)::r,cs,x,h,hc=>by
  rcases Ι.mp h with e | e
  ·cases e
   obtain⟨c,Gm⟩:=aJ.mp hc;rw[bY,ε rfl,Gm];show mx r _ _ ?_;rw[ag,beq_self_eq_true];rfl
  ·by_cases hk:k=aA
   ·cases q:cells.lookup n with
    | none=>rw[bY,ε hk,q];show kH r cs x e hc
    | some a=>rw[bY,ε hk,q];show kH r _ x e hc
   ·rw[bY,Ψ hk];show kH r cs x e hc
def lookup_mem:∀{l:-(Str×α)} {x:Str} {a:α},l.lookup x=!a->(x,a)∈l
 | [],x,a,h=>by simp at h
 | (n,k)::r,x,a,h=>by
  rw[ag] at h;cases hx:x == n with
  | true=>
   rw[hx] at h;let e:x=n:=by simpa using hx
   subst e;cases h;show Ϭ
  | false=>
   rw[hx] at h;show ψ _ (lookup_mem h)
def fq:∀(names:-(Str×dZ)) (x:Str) (k:dZ),
  (names.map λ(p:Str×dZ)=>match p with | (n,k)=>if (k == aA && env.28 == .function && env.kindOf n == some .cell) then(n,zL) else(n,k)).lookup x=!k->
   names.lookup x=!k\/(k=.cell/\names.lookup x=!.free)
 | [],x,k,h=>by simp at h
 | (n,k₀)::r,x,k,h=>by
  rw[ϒ] at h;dsimp only at h;cases hx:x == n with
  | true=>
   rw[ag,hx]
   by_cases hc:(k₀ == aA && env.28 == .function && env.kindOf n == some .cell)=true
   ·rw[ε hc,ag,hx] at h
    cases h;have:k₀=.free:=by
     simp only[bd] at hc;simpa using hc.1.1
    subst this;show .inr ⟨rfl,rfl⟩
   ·rw[Ψ hc,ag,hx] at h
    show .inl h
  | false=>
   rw[ag,hx]
   by_cases hc:(k₀ == aA && env.28 == .function && env.kindOf n == some .cell)=true
   ·rw[ε hc,ag,hx] at h
    show fq r x k h
   ·rw[Ψ hc,ag,hx] at h
    show fq r x k h
def oQ:∀(names:-(Str×dZ)) (x:Str),names.lookup x=!.free->
  (names.map λ(p:Str×dZ)=>match p with | (n,k)=>if (k == aA && env.28 == .function && env.kindOf n == some .cell) then(n,zL) else(n,k)).lookup x=!.free\/
  (names.map λ(p:Str×dZ)=>match p with | (n,k)=>if (k == aA && env.28 == .function && env.kindOf n == some .cell) then(n,zL) else(n,k)).lookup x=!.cell
 | [],x,h=>by simp at h
 | (n,k₀)::r,x,h=>by
  rw[ϒ];dsimp only;cases hx:x == n with
  | true=>
   rw[ag,hx] at h;cases h
   by_cases hc:(aA == aA && env.28 == .function && env.kindOf n == some .cell)=true
   ·rw[ε hc,ag,hx]
    show .inr rfl
   ·rw[Ψ hc,ag,hx]
    show .inl rfl
  | false=>
   rw[ag,hx] at h
   by_cases hc:(k₀ == aA && env.28 == .function && env.kindOf n == some .cell)=true
   ·rw[ε hc,ag,hx]
    show oQ r x h
   ·rw[Ψ hc,ag,hx]
    show oQ r x h
abbrev XB (x y:Str):Str:=if y=x then ze else y
theorem blk (X:Cx)(x:Str)(scope:rN)(M:-Str)(C:Ν)(s₀:ς)(H₀:Hp)(fp:-Ν):Cx:=
 { X with N:=x::M,s₀:=s₀,H₀:=H₀,env:=compEnvC scope (bY X.env.53 scope.31 []) C X.8,outer:=X.37,stack:=X.37,ex:=fp,fn:=λ_=>false,pn:=[],xe:=λ_ _=>False }
structure JU (N M:-Str)(sc:rN)(x:Str)(scope:rN):Prop where
 kind:scope.57=.function
 cell:∀y∈scope.31,y.2≠.cell
 names:∀y∈scope.31,y.2=.local->scope.names.lookup y.1=!.local
 own:scope.names.lookup x=!.local
 free:∀y∈scope.31,y.2=.free->sc.names.lookup y.1=!.cell\/sc.names.lookup y.1=!.free
 hid:N.map (XB x)=M
 nd:(x::M).13
 others:∀y∈M,scope.names.lookup y≠!.local
 void:scope.names.lookup ze=none
abbrev RW (wi:TI)(tt:TT)(te:TE):TE:=λσ H Q=>wi σ H λJ H1=>∀D,H1 D=none->∃W:Nat->Nat->-V->Hp->Prop,(∃m,W 0 m [] (upd H1 D (.lst [])))/\∀i m ys H2,W i m ys H2->
 (J.stop i H2/\H2 D=!.lst ys/\Q (.ref D) H2)\/(J.go i H2/\ys.4 < sizeLine/\∀x H3,J.Mh i H2 x H3->tt (some x::σ) H3 λb H4=>
  if b=true then te (some x::σ) H4 λy H5=>H5 D=!.lst ys/\∃m',m' < m/\W (i+1) m' (ys++[y]) (upd H5 D (.lst (ys++[y]))) else ∃m',m' < m/\W (i+1) m' ys H4)
abbrev CO:TT:=λ_ H Q=>Q true H
section
variable {R:QK->ς->Prop} {s:ς}
def GU {it acc:Ω}(Jv:Nat->ς->Prop)
  (turn:∀n s,Jv n s->wpAny (model prog w) A (pyNext it) (λr s₁=>match r with
   | none=>R (.ok .next) s₁
   | some v=>wpAny (model prog w) A (letOwnedTupleGo target it v) (λ_ s₀=>wpAny (model prog w) A (assign target env v) (λ_ s₂=>
     wpAny (model prog w) A (forIn ifs true λc r=>if r=true then do let ok <-isTrue c env (eval c env);pure (gH ok) else pure (gH r)) (λok s₃=>
      if ok=true then wpAny (model prog w) A (eval elt env) (λx s₄=>wpAny (model prog w) A (call (.builtin "list.append") [acc,x]) (λ_ s₅=>∃m,m < n/\Jv m s₅) (λ_ _=>False) s₄) (λ_ _=>False) s₃
      else ∃m,m < n/\Jv m s₃) (λ_ _=>False) s₂) (λ_ _=>False) s₀) (λ_ _=>False) s₁) (λ_ _=>False) s)
  (n:Nat) (h:Jv n s):codeAny (model prog w) A (.compLoop (.ListComp elt [⟨target,iter,ifs,0⟩] scope pos) 0 it acc env) R s:=by
 let no:∀{α:Type} {t:Sem α} {Q:α->ς->Prop} {E:Ω->ς->Prop} {s':ς},wpAny (model prog w) A t Q (λ_ _=>False) s'->wpAny (model prog w) A t Q E s':=λh=>fV h (λ_ _ q=>q) λ_ _ f=>f.38;show codeAny_loop rfl Jv (λn s hI=>wpAny_noted ?_) n h;show θ (LZ (θ (iZ (no (turn n s hI)) λr s₁ h₁=>?_)));cases r with
 | none=>show ϫ h₁
 | some v=>
  show θ (iZ (no h₁) λ_ s₀ h₀=>θ (iZ (no h₀) λ_ s₂ h₂=>θ (iZ (no h₂) λok s₃ h₃=>?_)));cases ok with
  | false=>show ϫ ⟨rfl,h₃⟩
  | true=>show θ (θ (iZ (no h₃) λx s₄ h₄=>θ (iZ (no h₄) λ_ s₅ h₅=>ϫ (ϫ ⟨rfl,h₅⟩))))
end
abbrev RX (xs:-Str)(y:Str):Str:=if y∈xs then ze else y
theorem sv (X:Cx)(xs:-Str)(scope:rN)(M:-Str)(C:Ν)(s₀:ς)(H₀:Hp)(fp:-Ν):Cx:=
 { X with N:=xs++M,s₀:=s₀,H₀:=H₀,env:=compEnvC scope (bY X.env.53 scope.31 []) C X.8,outer:=X.37,stack:=X.37,ex:=fp,fn:=λ_=>false,pn:=[],xe:=λ_ _=>False }
structure rS (N M:-Str)(sc:rN)(xs:-Str)(scope:rN):Prop where
 kind:scope.57=.function
 cell:∀y∈scope.31,y.2≠.cell
 names:∀y∈scope.31,y.2=.local->scope.names.lookup y.1=!.local
 free:∀y∈scope.31,y.2=.free->sc.names.lookup y.1=!.cell\/sc.names.lookup y.1=!.free
 hid:N.map (RX xs)=M
 others:∀y∈M,scope.names.lookup y≠!.local
 void:scope.names.lookup ze=none
abbrev JV (n:Nat)(wi:TI)(g:TG)(tt:TT)(te:TE):TE:=λσ H Q=>wi σ H λJ H1=>∀D,H1 D=none->∃W:Nat->Nat->-V->Hp->Prop,(∃m,W 0 m [] (upd H1 D (.lst [])))/\∀i m ys H2,W i m ys H2->
 (J.stop i H2/\H2 D=!.lst ys/\Q (.ref D) H2)\/(J.go i H2/\ys.4 < sizeLine/\∀x H3,J.Mh i H2 x H3->∀o,o.4=n->g x (o++σ) H3 λσ' H3'=>(∃o',o'.4=n/\σ'=o'++σ)/\tt σ' H3' λb H4=>
  if b=true then te σ' H4 λy H5=>H5 D=!.lst ys/\∃m',m' < m/\W (i+1) m' (ys++[y]) (upd H5 D (.lst (ys++[y]))) else ∃m',m' < m/\W (i+1) m' ys H4)
section
variable {X:Cx} {s2:ς} 
def VF {N M:-Str}{xs:-Str}{s:ς}(I:Inv X pins σ H s)(Gn:X.16=sc)(O:rS N M sc xs scope)(hC:s.5<=C)
  (hf:∀b∈fp,qr X pins H b) (kz:∀b∈fp,b < s.5):(sv X xs scope M C s H fp).Ok where
 mod:=I.96
 kind:=O.57
 glob:=I.90
 blt:=I.ok.blt
 above:=hC
 inj:=λy z c e1 e2=>I.ok.inj y z c (cE _ _ (λ_ _ z=>by simp at z) _ _ e1) (cE _ _ (λ_ _ z=>by simp at z) _ _ e2)
 has:=λy hy=>by
  let q:scope.names.lookup y=!.free:=by
   rcases hy with hy | hy
   ·rcases fq _ _ _ hy with z | ⟨_,z⟩
    ·show absurd rfl (O.cell _ (lookup_mem z))
    ·show z
   ·rcases fq _ _ _ hy with z | ⟨z,_⟩
    ·show z
    ·cases z
  let q2:=O.free _ (lookup_mem q) rfl;rw[<-Gn] at q2;obtain⟨c,hc⟩:=I.ok.has y q2;show aJ.mp (kH _ _ _ (lookup_mem q) (by rw[hc];rfl))
 cab:=λy c h=>by cases h
 hd:=I.ok.hd
 frames:=I.ok.50
 stk:=.inl rfl
 exf:=λb hb=>⟨Ϫ (Ϧ (kz b hb) hC),λy c e=>(hf b hb).2.2.2.2.1 y c (cE _ _ (λ_ _ z=>by simp at z) _ _ e)⟩
 bs:=I.bs
 Vl:=ϊ I.ok.Vl I.sz
 Jw:=λb o e hb=>by
  rcases(hf b hb).2.2.2.1 with z | z
  ·show I.ok.Jw b o e z
  ·show absurd (Ϧ (ύ (I.ok.bs b o e).1) z) (fP _)
 Rn:=λb hb z=>by
  (show Vh (hf b hb) λ_ f1 f2 _=>?_);show(Ι.mp (I.EK b z)).elim f1 f2
 wx:=I.37
 Xm:=I.Md
def RY {N M:-Str}{xs:-Str}{s:ς}{h':a9}(I:Inv X pins σ H s)(hX:X.N=N)(Gn:X.16=sc)(O:rS N M sc xs scope)
  (hf:∀b∈fp,qr X pins H b) (kz:∀b∈fp,b < s.5) {m:Str->Option Ω} (hns:h'.Ns s.5 m) (k:∀b u,s.heap.get? b=!u->h'.get? b=!u) :
  Inv (sv X xs scope M s.5 s H fp) [] (dH xs.4 none++σ) H { s with heap:=h',toks:=tk } where
 ok:=VF I Gn O (ξ _) hf kz
 os:=rfl
 bare:=I.52
 base:=Un.kept k
 loc:=by
  show(δ m hns (λj y v e1 e2 e3=>?_))
  by_cases hj:j < xs.4
  ·rw[ϟ (by simpa using hj),Gk,ε hj] at e2
   cases e2
  ·obtain⟨i,rfl⟩:∃i,j=xs.4+i:=⟨j - xs.4,()⟩
   let VG:M[i]?=!y:=by
    have:=e1;rw[Ϙ ()] at this;simpa using this
   let e2':σ[i]?=!some v:=by
    rw[Ϙ ∅] at e2;simpa using e2
   let xL:scope.names.lookup y=!.free:=by
    rcases e3 with e3 | e3 | e3
    ·rcases fq _ _ _ e3 with z | ⟨z,_⟩
     ·show absurd z (O.others y (Β VG))
     ·cases z
    ·rcases fq _ _ _ e3 with z | ⟨_,z⟩
     ·show absurd rfl (O.cell _ (lookup_mem z))
     ·show z
    ·rcases fq _ _ _ e3 with z | ⟨z,_⟩
     ·show z
     ·cases z
   let hN:X.N[i]?=!y:=by
    rw[hX];rw[<-O.hid,Ξ] at VG;cases q:N[i]? with
    | none=>rw[q] at VG;cases VG
    | some z=>
     rw[q] at VG;let e4:=ϲ VG;unfold RX at e4
     by_cases hz:z∈xs
     ·rw[ε hz] at e4
      rw[<-e4,O.void] at xL;cases xL
     ·rw[Ψ hz] at e4
      rw[e4]
   let q2:=O.free _ (lookup_mem xL) rfl;rw[<-Gn] at q2;let ahj:Vk X.16 y:=q2.elim (λz=>.inr (.inl z)) λz=>.inr (.inr z);(show Ϗ I.81 λm0 hn0 hl=>?_);(show Ϗ (hl i y v hN e2' ahj) λu r l=>?_);show(δ u r ?_);rcases l with⟨l,_⟩ | ⟨l,c,hc,z⟩
   ·exfalso
    let l':X.env.scope.names.lookup y=!.local:=l;rcases q2 with q2 | q2
    ·let q2':=q2
     rw[l'] at q2';cases q2'
    ·let q2':=q2
     rw[l'] at q2';cases q2'
   ·let adj:=kH scope.31 [] y (lookup_mem xL) (by rw[hc];rfl)
    obtain⟨c',Gm⟩:=aJ.mp adj;let e5:=cE _ _ (λ_ _ z=>by simp at z) _ _ Gm;rw[hc] at e5;cases e5;(revert z;show ay λo ho hd=>?_);show .inr ⟨?_,(δ c Gm (δ o (k c o ho) hd))⟩;rcases oQ _ _ xL with z | z
    ·show .inr z
    ·show .inl z
 cell:=λy c e=>by
  (show zU (I.cell y c (cE _ _ (λ_ _ z=>by simp at z) _ _ e)) λv o ho hd=>?_);show(cJ v o (k c o ho) hd)
 free:=I.cx.fresh (ξ _)
 qE:=λy c e=>I.qE y c (cE _ _ (λ_ _ z=>by simp at z) _ _ e)
 pin:=λp hp=>by simp at hp
 cx:=I.cx.kept k
 len:=by
  let e:N.4=M.4:=by rw[<-O.hid,Η]
  rw[Ρ,dI,Ρ];rw[I.26,hX,e]
variable {xs:-Str} {g:TG} {N M:-Str} {it:Ν} {tn:Nat->a9->Prop} 
theorem HtA (X:Cx)(Y:Ν->ς->Hp->-Ν->Cx)(ifs:-bS)(tt:TT):Prop:=∀C s₀ H₀ fp pins s σ H Q,Inv (Y C s₀ H₀ fp) pins σ H s->tt σ H Q->
   wpAny X.mo X.A (forIn ifs true λc r=>if r=true then do let ok <-isTrue c (Y C s₀ H₀ fp).env (eval c (Y C s₀ H₀ fp).8);pure (gH ok) else pure (gH r)) (TP (Y C s₀ H₀ fp) pins σ Q) (λ_ _=>False) s
def xS (pF:X.43=true)(hX:X.N=N)(Gn:X.16=sc)(O:rS N M sc xs scope)
  (QU:HtA X (sv X xs scope M) ifs tt)
  (Mr:∀C s₀ H₀ fp,PE (sv X xs scope M C s₀ H₀ fp) elt te)
  (hg:∀C s₀ H₀ fp,PG (sv X xs scope M C s₀ H₀ fp) tg g)
  (I2:Inv X pins σ H2 s2) (T:Turn X.29 X.w X.K tg J fp it tn) (UF:tn 0 s2.12) (f2:∀b∈fp,qr X pins H2 b) {Qd:Ν->Hp->Prop}
  (q:∀D,H2 D=none->∃W:Nat->Nat->-V->Hp->Prop,(∃m,W 0 m [] (upd H2 D (.lst [])))/\∀i m ys H3,W i m ys H3->
   (J.stop i H3/\H3 D=!.lst ys/\Qd D H3)\/(J.go i H3/\ys.4 < sizeLine/\∀x H4,J.Mh i H3 x H4->∀o,o.4=xs.4->g x (o++σ) H4 λσ' H4'=>(∃o',o'.4=xs.4/\σ'=o'++σ)/\tt σ' H4' λb H5=>
    if b=true then te σ' H5 λy H6=>H6 D=!.lst ys/\∃m',m' < m/\W (i+1) m' (ys++[y]) (upd H6 D (.lst (ys++[y]))) else ∃m',m' < m/\W (i+1) m' ys H5))
  {RR:Ω->Ν->QK->ς->Prop} (hRR:∀D C H' s',Inv X pins σ H' s'->qr X pins H' C->(∃m,s'.heap.Ns C m)->Qd D H'->RR (.ref D) C (.ok .next) s') :
  wpAny X.mo X.A (newList []) (λacc s₃=>wpAny X.mo X.A (newFunctionEnv scope X.55 (bY X.env.53 scope.31 []) [] X.env.qual none .none (!X.8)) (λRZ s₄=>
   codeAny X.mo X.A (.compStart (.ListComp elt [⟨tg,iter,ifs,0⟩] scope pos) 0 (.ref it) acc { RZ with scope:=relabel scope X.8 }) (RR acc RZ.locals) s₄) E s₃) E s2:=by
 let adk:=λb hb=>let ⟨o,e,_⟩:=T.obj _ _ UF b hb;ύ e;(show Ϗ (q s2.5 (I2.cx.fresh (ξ _))) λW ϐ turn=>?_;obtain ⟨m0,w0⟩:=ϐ);let I3:=I2.ac6 (t':=s2.23) .nil (Ϝ _);show Cu (wpAny_newFunctionEnv O.97 (by intro y hy;simp at hy) (λh₁ adl adm=>?_) O.kind);dsimp only at adl adm ⊢;generalize hs3:({ s2 with heap:=s2.heap.push { cls:=.type "list",data:=.seq ([]).10 },toks:=s2.23 }:ς)=s3 at I3;let eh:s3.12=s2.heap.push { cls:=.type "list",data:=.seq ([]).10 }:=by rw[<-hs3]
 let k1:=λb u e=>by
  show adm.extBut b u ?_ (Χ _ (by rw[<-eh];show e));rw[<-eh];show Ϫ (ύ e)
 let f3:∀b∈fp,qr X pins (upd H2 s2.5 (.lst [])) b:=λb hb=>⟨by rw[ν (Ϫ (adk b hb))];show(f2 b hb).1,(f2 b hb).2⟩
 let adn:∀b∈fp,b < s3.5:=λb hb=>by
  rw[eh,bp];show xH (adk b hb)
 let st3:=T.keep _ _ _ UF λb hb o e=>k1 b o (by rw[eh];show Χ _ e);let ahl:h₁.Ns s3.5 (λx=>([]:-(Str×Ω)).reverse.lookup x):=by rw[eh];show adl
 let JC:∀{H':Hp},(∀b∈fp,H' b=none)->∀b∈fp,qr (sv X xs scope M s3.5 s3 (upd H2 s2.5 (.lst [])) fp) [] H' b:=λhn b hb=>by
  (show CJ (f3 b hb) λg0 g1 g2 g3 g4 g5=>?_);show⟨hn b hb,Ϫ (adn b hb),λz=>(Ι.mp (I3.EK b z)).elim g1 g2,.inl hb,λy c e=>g4 y c (cE _ _ (λ_ _ z=>by simp at z) _ _ e),λp hp=>by simp at hp⟩
 let loop:∀s4,s4={ s3 with heap:=h₁,toks:=s2.23 }->
   codeAny X.mo X.A (.compLoop (.ListComp elt [⟨tg,iter,ifs,0⟩] scope pos) 0 (.ref it) (.ref s2.5) (compEnvC scope (bY X.env.53 scope.31 []) s3.5 X.8))
    (RR (.ref s2.5) s3.5) s4:=by
  rintro s4 rfl
  show GU (λn s'=>∃i ys,∃o,∃H',o.4=xs.4/\Inv (sv X xs scope M s3.5 s3 (upd H2 s2.5 (.lst [])) fp) [] (o++σ) H' s'/\tn i s'.12/\(∀b∈fp,H' b=none)/\W i n ys H') ?_ m0
   (Jr 0 ([]) _ _ dI (RY I3 hX Gn O f3 adn ahl k1) st3 (λb hb=>(f3 b hb).1) w0)
  rintro n s5 ⟨i,ys,o,H5,lo,I5,st5,YV,w5⟩
  rcases turn i n ys H5 w5 with⟨stop,hD,qd⟩ | ⟨go,hz,step⟩
  ·show iZ (T.done (sv X xs scope M s3.5 s3 (upd H2 s2.5 (.lst [])) fp) rfl rfl rfl pF i [] s5 _ H5 _ I5 (JC YV) st5 stop) λr s6 η=>uZ η λhr I6=>?_
   subst hr;let IX:=I3.acy I6.os I6.49 I6.cx I6.52 λb hb=>let ⟨_,g1,_,g3,g4,g5⟩:=f3 b hb;⟨g3,g1,g4,g5⟩;(show Ϗ I6.81 λmm UJ _=>?_);show hRR _ _ H5 s6 IX (I3.EQ (ξ _) I6.56) ⟨mm,UJ⟩ qd
  ·show iZ (T.item (sv X xs scope M s3.5 s3 (upd H2 s2.5 (.lst [])) fp) rfl rfl rfl pF i [] s5 _ H5 _ I5 (JC YV) st5 go) λr s6 η=>Ϗ η λu hr h6=>?_
   subst hr;show iZ h6 λ_ s7 η=>acm η λy H7 I7 r7 y7 st7 fr7=>iZ (fV (hg _ _ _ _ _ s7 _ H7 y u _ (I7.pinned (JC fr7) (T.obj _ _ st7)) r7 (step y H7 y7 o lo)) (λ_ _ q=>q) λ_ _ f=>f.38) λ_ s8 ⟨σ8,H8,I8',⟨o8,lo8,e8⟩,q8⟩=>?_;subst e8;show iZ (QU _ _ _ _ _ s8 _ H8 _ I8' q8) λok s9 η=>Ϗ η λH9 I9 q9=>?_;let again:∀{ys':-V} {H':Hp} {s':ς} {m:Nat},Inv (sv X xs scope M s3.5 s3 (upd H2 s2.5 (.lst [])) fp) ([]++z9 fp s7.12) (o8++σ) H' s'->m < n->W (i+1) m ys' H'->
     ∃m,m < n/\∃i ys,∃o,∃H',o.4=xs.4/\Inv (sv X xs scope M s3.5 s3 (upd H2 s2.5 (.lst [])) fp) [] (o++σ) H' s'/\tn i s'.12/\(∀b∈fp,H' b=none)/\W i m ys H':=λ{ys' H' s' m} I' hm w'=>by
    show(δ m hm (Jr (i+1) ys' o8 H' lo8 I'.u3 (T.keep _ _ _ st7 λb hb o e=>(I'.pin (b,o) (Θ _ (Θ _ (oM hb e)))).1) (λb hb=>?_) w'));(show Ϗ (T.obj _ _ st7 b hb) λo e d=>?_);show(I'.pin (b,o) (Θ _ (Θ _ (oM hb e)))).2.1
   cases ok with
   | false=>
    (revert q9;show ay λm' hm w'=>?_);show again I9 hm w'
   | true=>
    show iZ (Mr _ _ _ _ _ s9 _ H9 _ I9 q9) λu2 UK η=>ww η λy2 UL I10 r10 hD=>ay λm' hm w'=>dM (bE _ UK _ UL (.ref s2.5) [y2] (.ref s2.5) [u2] (λ_ H'=>H'=upd UL s2.5 (.lst (ys++[y2]))) I10 rfl (.cons r10 .nil) (dL _ ys y2 rfl rfl hD hz rfl)) λ_ XC _ VH I11 _ e11=>?_;subst e11;show again I11 hm w'
 let fin:=codeAny_compStart_list (loop _ rfl) (T.self X.A 0 _ _ _ st3 (loop _ rfl));rw[hs3.17] at fin;show fin
end
section
variable {X:Cx} {s2:ς} 
variable {px:Pos} {N M:-Str} {it:Ν} {tn:Nat->a9->Prop} 
def JW (pF:X.43=true)(hX:X.N=N)(Gn:X.16=sc)(O:JU N M sc x scope)
  (QU:HtA X (blk X x scope M) ifs tt)
  (Mr:∀C s₀ H₀ fp,PE (blk X x scope M C s₀ H₀ fp) elt te)
  (I2:Inv X pins σ H2 s2) (T:Turn X.29 X.w X.K (.Name x px) J fp it tn) (UF:tn 0 s2.12) (f2:∀b∈fp,qr X pins H2 b) {Qd:Ν->Hp->Prop}
  (q:∀D,H2 D=none->∃W:Nat->Nat->-V->Hp->Prop,(∃m,W 0 m [] (upd H2 D (.lst [])))/\∀i m ys H3,W i m ys H3->
   (J.stop i H3/\H3 D=!.lst ys/\Qd D H3)\/(J.go i H3/\ys.4 < sizeLine/\∀x H4,J.Mh i H3 x H4->tt (some x::σ) H4 λb H5=>
    if b=true then te (some x::σ) H5 λy H6=>H6 D=!.lst ys/\∃m',m' < m/\W (i+1) m' (ys++[y]) (upd H6 D (.lst (ys++[y]))) else ∃m',m' < m/\W (i+1) m' ys H5))
  {RR:Ω->Ν->QK->ς->Prop} (hRR:∀D C H' s',Inv X pins σ H' s'->qr X pins H' C->(∃m,s'.heap.Ns C m)->Qd D H'->RR (.ref D) C (.ok .next) s') :
  wpAny X.mo X.A (newList []) (λacc s₃=>wpAny X.mo X.A (newFunctionEnv scope X.55 (bY X.env.53 scope.31 []) [] X.env.qual none .none (!X.8)) (λRZ s₄=>
   codeAny X.mo X.A (.compStart (.ListComp elt [⟨.Name x px,iter,ifs,0⟩] scope pos) 0 (.ref it) acc { RZ with scope:=relabel scope X.8 }) (RR acc RZ.locals) s₄) E s₃) E s2:=by
 let OT:rS N M sc [x] scope:=⟨O.57,O.97,O.31,O.56,(by
  rw[<-O.hid];show df λy _=>?_;unfold RX XB
  simp),O.others,O.void⟩
 show xS pF hX Gn OT QU Mr (λC s₀ H₀ fp=>am (i:=0) O.nd rfl (.inl (Uw O.own)) (.inr (Uw O.own))) I2 T UF f2 (λD hD=>?_) hRR;(show Ϗ (q D hD) λW w0 turn=>?_);show(δ W w0 (λi m ys H3 w=>(turn i m ys H3 w).imp id λη=>cW η λgo hz step=>⟨go,hz,λy H4 hy o ho=>?_⟩));obtain⟨z,rfl⟩:∃z,o=[z]:=by
  match o,ho with
  | [z],_=>show⟨z,rfl⟩
 show⟨(δ ([!y]) rfl rfl),step y H4 hy⟩
end
section
variable {X:Cx} {y:Str} {px:Pos} {N M:-Str} {wi:TI}  
def R0 (pF:X.43=true)(hX:X.N=N)(Gn:X.16=sc)(O:JU N M sc x scope)(hi:PI X (.Name x px) iter wi)
  (QU:HtA X (blk X x scope M) ifs tt)
  (Mr:∀C s₀ H₀ fp,PE (blk X x scope M C s₀ H₀ fp) elt te) (hs:autoParam (FsI X iter) L2.Nn._auto_1) :
  PE X (.ListComp elt [⟨.Name x px,iter,ifs,0⟩] scope pos) (RW wi tt te):=by
 intro pins s σ H Q I h;let DN:=Ao λz hz hf=>by
  let q:=O.free z hz hf;rw[<-Gn] at q;show I.ok.has z.1 q
 show L0 rfl hs DN O.57 O.31 (iZ (hi pins s σ H _ I h) λv s1 h1=>iZ h1 λitv s2 h2=>?_);(revert h2;show Ni λit fp tn J H2 e I2 T UF f2 q2=>?_);subst e;show JW pF hX Gn O QU Mr I2 T UF f2 (λD hD=>q2 D hD) ?_;intro D C H' s' I' hC hm q';obtain⟨m,hm⟩:=hm;(revert hC;show CG λc0 c1 c2 c3 c4 c5=>?_);show(δ m hm (λh' VI=>(ϧ (.ref D) H' (I'.turned (λb o hb e=>VI.extBut b o hb e) c0 c1 c3 c4 c5) rfl q')))
def fM (N M:-Str)(sc:rN)(O:JU N M sc x scope)(hi:PI X (.Name x px) iter wi)(Mr:∀C s₀ H₀ fp,PE (blk X x scope M C s₀ H₀ fp) elt te)
  (pF: ~~~(X.43=true)) (hX: ~~~(X.N=N)) (Gn: ~~~(X.16=sc)) (hs:autoParam (FsI X iter) L2.Nn._auto_1) :
  PE X (.ListComp elt [⟨.Name x px,iter,[],0⟩] scope pos) (RW wi CO te):=
 R0 pF hX Gn O hi (λC s₀ H₀ fp pins s σ H Q I h=>acb (δ H I h)) Mr hs
end
theorem S (l:-Nat):Str:=⟨l.10⟩
def Ap (z:Str):z=S z.6:=by cases z;simp[S]
abbrev aR (f:Ν->Sp):Sp:=λvs H Q E=>match vs with | .ref r::vs=>f r vs H Q E | _=>False
abbrev aI (f:Int->Sp):Sp:=λvs H Q E=>match vs with | .int r::vs=>f r vs H Q E | _=>False
abbrev aK (f:Nat->Sp):Sp:=λvs H Q E=>match vs with | .int (.ofNat r)::vs=>f r vs H Q E | _=>False
abbrev aS (f:Str->Sp):Sp:=λvs H Q E=>match vs with | .str r::vs=>f r vs H Q E | _=>False
abbrev aT (f:-Nat->Sp):Sp:=aS λs=>f s.6
abbrev aB (f:Bool->Sp):Sp:=λvs H Q E=>match vs with | .bl r::vs=>f r vs H Q E | _=>False
abbrev aV (f:V->Sp):Sp:=λvs H Q E=>match vs with | r::vs=>f r vs H Q E | _=>False
abbrev aN (f:Hp->VK->XK->Prop):Sp:=λvs H Q E=>match vs with | []=>f H Q E | _=>False
section
variable {vs:-V} {E:XK}
def aRr {f r}:aR f (.ref r::vs) H Q E=f r vs H Q E:=rfl
def aIr {f r}:aI f (.int r::vs) H Q E=f r vs H Q E:=rfl
def aKr {f}:aK f (.int r::vs) H Q E=f r vs H Q E:=rfl
def aK0 {f}:aK f (.int 0::vs) H Q E=f 0 vs H Q E:=rfl
def aSr {f r}:aS f (.str r::vs) H Q E=f r vs H Q E:=rfl
def aTr {f l}:aT f (.str (S l)::vs) H Q E=f l vs H Q E:=rfl
def aBr {f r}:aB f (.bl r::vs) H Q E=f r vs H Q E:=rfl
def aVr {f r}:aV f (r::vs) H Q E=f r vs H Q E:=rfl
def aNr {f}:aN f [] H Q E=f H Q E:=rfl
def aRx {f v}:aR f (v::vs) H Q E=∃r,v=.ref r/\f r vs H Q E:=by cases v<;>simp[aR]
def aIx {f v}:aI f (v::vs) H Q E=∃r,v=.int r/\f r vs H Q E:=by cases v<;>simp[aI]
def aKx {f v}:aK f (v::vs) H Q E=∃r:Nat,v=.int r/\f r vs H Q E:=by
 cases v with
 | int i=>
  cases i with
  | ofNat n=>show propext ⟨λh=>(δ n rfl h),λη=>Ϗ η λr e h=>by cases e;show h⟩
  | negSucc n=>show propext ⟨bB,λη=>Ϗ η λr e h=>by cases e⟩
 | _=>show propext ⟨bB,λη=>Ϗ η λr e h=>by cases e⟩
def aSx {f v}:aS f (v::vs) H Q E=∃r,v=.str r/\f r vs H Q E:=by cases v<;>simp[aS]
def aTx {f v}:aT f (v::vs) H Q E=∃l,v=.str (S l)/\f l vs H Q E:=by
 cases v with
 | str s=>show propext ⟨λh=>(δ s.6 (congrArg _ (Ap s)) h),λη=>Ϗ η λr e h=>by cases e;show h⟩
 | _=>show propext ⟨bB,λη=>Ϗ η λr e h=>by cases e⟩
def aBx {f v}:aB f (v::vs) H Q E=∃r,v=.bl r/\f r vs H Q E:=by cases v<;>simp[aB]
variable {C:-V->Prop}
def aRe {f}(vs)(h:aR f vs H Q E)(g:∀r vs,f r vs H Q E->C (.ref r::vs)):C vs:=by
 match vs,h with | .ref _::_,h=>show g _ _ h
def aIe {f}(vs)(h:aI f vs H Q E)(g:∀r vs,f r vs H Q E->C (.int r::vs)):C vs:=by
 match vs,h with | .int _::_,h=>show g _ _ h
def aKe {f}(vs)(h:aK f vs H Q E)(g:∀r vs,f r vs H Q E->C (.int r::vs)):C vs:=by
 match vs,h with | .int (.ofNat _)::_,h=>show g _ _ h
def aSe {f}(vs)(h:aS f vs H Q E)(g:∀r vs,f r vs H Q E->C (.str r::vs)):C vs:=by
 match vs,h with | .str _::_,h=>show g _ _ h
def aTe {f}(vs)(h:aT f vs H Q E)(g:∀r vs,f r vs H Q E->C (.str (S r)::vs)):C vs:=aSe vs h λs _ h=>by rw[Ap s];show g _ _ h
def aBe {f}(vs)(h:aB f vs H Q E)(g:∀r vs,f r vs H Q E->C (.bl r::vs)):C vs:=by
 match vs,h with | .bl _::_,h=>show g _ _ h
def aVe {f}(vs)(h:aV f vs H Q E)(g:∀r vs,f r vs H Q E->C (r::vs)):C vs:=by
 match vs,h with | _::_,h=>show g _ _ h
def aNe {f}(vs)(h:aN f vs H Q E)(g:f H Q E->C []):C vs:=by
 match vs,h with | [],h=>show g h
end
def nO {a b:-Nat}(h:S a=S b):a=b:=by
 simpa using congrArg wj (congrArg Str.cps h)
def my (l:-Nat):(S l).4=l.4:=by show l.19=l.4;simp
def R3 (a b:-Nat):S a++S b=S (a++b):=by
 show(⟨a.10++b.10⟩:Str)=⟨(a++b).10⟩;simp
abbrev sw (l:-Nat)(lo hi:Option Int):-Nat:=(l.drop (HT.oO l.4 0 lo)).take (HT.oO l.4 l.4 hi - HT.oO l.4 0 lo)
def VJ (l:-Nat)(lo hi:Option Int):(sw l lo hi).4<=l.4:=by
 unfold sw;rw[af,gG];show ϊ (zh _ _) (ae2 _ _)
abbrev GV (d:Int)(n:Nat):Option Int->Int
 | none=>d
 | some i=>max 0 (min (if i < 0 then i+(n:Int) else i) (n:Int))
def GW (d n:Nat)(o:Option Int):GV (d:Int) n o=((HT.oO n d o:Nat):Int):=by
 cases o with
 | none=>rfl
 | some i=>
  simp only[HT.oO,GV]
  by_cases h:i < 0
  ·simp only[h,if_true]<;>lk
  ·simp only[h,if_false]<;>lk
def GX (lo hi:Option Int)(n:Nat):jk lo hi 1 n=(aU (HT.oO n n hi - HT.oO n 0 lo)).map (HT.oO n 0 lo+·):=by
 let key:jk lo hi 1 n=sliceRange (GV ((0:Nat)) n lo) (GV n n hi) 1:=by
  unfold jk;cases lo<;>cases hi<;>simp[GV]
 rw[key,GW,GW,ae4]
section
variable {X:Cx}
abbrev ado:V->Option Int->Option Int->Hp->VK->Prop:=λx lo hi H Q=>∃l,x=.str (S l)/\l.4<=sizeLine/\Q (.str (S (sw l lo hi))) H
def part_of (p:ae1 v o):∃l,v=partValue l/\l.map (·.1)=o:=by
 cases p with
 | none=>show(δ none rfl rfl)
 | int i t=>show(δ (!(i,t)) rfl rfl)
def Zn:Vv X ado:=by
 intro pins s σ H x v vl vu lo hi sl Q I rx hs pl pu h;(revert h;show ia λl ϐ hz q=>?_;subst ϐ);obtain⟨t,rfl⟩:=rx;(show Ϗ (part_of pl) λa ϐ gO=>?_;subst ϐ;subst gO);(show Ϗ (part_of pu) λb ϐ gO=>?_;subst ϐ;subst gO);show(ϧ ("str") _ PySem.F.slot_str_getitem.lookup (oB _ _ _) (wpAny_getItem_str_slice (st:=none) hs rfl ?_));let ep:slicePicked (S l) a b none=(aU (HT.oO l.4 l.4 (b.map (·.1)) - HT.oO l.4 0 (a.map (·.1)))).map (HT.oO l.4 0 (a.map (·.1))+·):=by
  let e:=GX (a.map (·.1)) (b.map (·.1)) (S l).4;rw[my] at e;show e
 let ec:(slicePicked (S l) a b none).filterMap ((S l).cps[·]?)=sw l (a.map (·.1)) (b.map (·.1)):=by
  rw[ep,pick_run];simp only[sw]
 unfold sliceMade
 split
 ·rename_i hc
  let hlen:(slicePicked (S l) a b none).4=l.4:=by
   rw[bd] at hc;have:=hc.2;rw[alv,my] at this;show this
  let e:sw l (a.map (·.1)) (b.map (·.1))=l:=by
   rw[ep,Η,d5] at hlen;let h1:=HT.RL l.4 l.4 (ξ _) (b.map (·.1));unfold sw;let h2:HT.oO l.4 0 (a.map (·.1))=0:=by
    by_cases hl:l.4=0
    ·have:=HT.RL l.4 0 (Ϝ _) (a.map (·.1))
     lk
    ·lk
   rw[hlen,h2,U6,ϴ]
  rw[e] at q;show(ϧ (.str (S l)) H I ⟨t,rfl⟩ q)
 ·show⟨?_,(ϧ (.str (S ((slicePicked (S l) a b none).filterMap ((S l).cps[·]?)))) H (I.tok _) ⟨_,rfl⟩ ?_)⟩
  ·rw[ec]
   show(sw l _ _).19<=sizeLine;rw[Ϟ];show ϊ (VJ _ _ _) hz
  ·rw[ec]
   show q
end
abbrev VL (z:Str):It:=⟨λi _=>i < z.22,λi H x H'=>H'=H/\∃c,z.cps[i]?=!c/\x=.str ⟨#[c]⟩,λi _=>z.22<=i⟩
def NO (hA:A.41=none)(it:Ν)(z:Str)(t:Tok):Walks P w A it [it] [it] z.22 (SignAt z) (λi h=>h.IsStrIter it (strIterType z) z t i):=by
 unfold strIterType
 split
 ·show Walks.strAscii hA it z t
 ·show Walks.strWide hA it z t
def CP (z:Str):["enumerate","zip","dict_itemiterator","dict_reverseitemiterator","odict_iterator","itertools.zip_longest","itertools.pairwise"].contains (strIterType z)=false:=by
 unfold strIterType
 split<;>decide
def R4 {P:ah}{K:ζ}(it:Ν)(z:Str)(t:Tok):Turn P w K tg (VL z) [it] it (λi h=>h.IsStrIter it (strIterType z) z t i) where
 mem:=by simp
 obj:=λi h st b hb=>by
  let e:b=it:=by simpa using hb
  subst e;(revert st;show ia λo e c d=>?_);show(δ o e (λv z=>by rw[d] at z;cases z))
 keep:=λi h h' st k=>let ⟨o,e,r⟩:=st;(δ o (k it ∅ o e) r)
 item:=by
  intro X hP hw hK hc i pins s σ H E I hf st hg;(show CJ (hf it ∅) λf0 f1 f2 f3 f4 f5=>?_);show(NO (I.ok.hd hc) it z t).item i s _ _ hg st λv h' tk hv Jz kk=>?_;(revert hv;show dB λc u hcz ϐ=>?_;subst ϐ);let I1:Inv X pins σ H { s with heap:=h',toks:=tk }:=I.turned (λb o hb e=>kk b o (by simpa using hb) e) f0 f1 f3 f4 f5;(show au (id Jz) λo e ec d=>?_);show(δ _ rfl (Mi e ec d (CP z) (CI (.str ⟨#[c]⟩) H I1 ⟨u,rfl⟩ ⟨rfl,(δ c hcz rfl)⟩ Jz (λb hb=>(hf b hb).1))))
 done:=by
  intro X hP hw hK hc i pins s σ H E I hf st hg;(show CJ (hf it ∅) λf0 f1 f2 f3 f4 f5=>?_);let hg':z.22<=i:=hg
  by_cases ha:z.cps.all (· < 128)=true
  ·let Jz:s.heap.IsStrIter it "str_ascii_iterator" z t i:=by
    let e:strIterType z="str_ascii_iterator":=by unfold strIterType;rw[ε ha]
    rw[<-e];show st
   show wpAny_pyNext_ascii_end (I.ok.hd hc) Jz (by simpa using hg') λh' eb=>⟨rfl,I.turned (λb o hb e=>eb b o hb e) f0 f1 f3 f4 f5⟩
  ·let Jz:s.heap.IsStrIter it "str_iterator" z t i:=by
    let e:strIterType z="str_iterator":=by unfold strIterType;rw[Ψ ha]
    rw[<-e];show st
   show wpAny_pyNext_wide_end (I.ok.hd hc) Jz (by simpa using hg') λh' eb=>⟨rfl,I.turned (λb o hb e=>eb b o hb e) f0 f1 f3 f4 f5⟩
 self:=λA i s Q E st h=>by
  by_cases ha:z.cps.all (· < 128)=true
  ·let e:strIterType z="str_ascii_iterator":=by unfold strIterType;rw[ε ha]
   show wpAny_pyIter_striter_ascii (by rw[<-e];show st) h
  ·let e:strIterType z="str_iterator":=by unfold strIterType;rw[Ψ ha]
   show wpAny_pyIter_striter_wide (by rw[<-e];show st) h
def VM {g:TG}{D:Ends}(Pv:Nat->St->Hp->Prop)(h0:Pv 0 σ H)
  (hs:∀i c σ H,z.cps[i]?=!c->Pv i σ H->g (.str ⟨#[c]⟩) σ H λσ2 H2=>tb { D with nx:=Pv (i+1),ct:=Pv (i+1),bk:=D.nx } σ2 H2) (hd:∀σ H,Pv z.22 σ H->D.nx σ H) :
  ∃W:Nat->Nat->St->Hp->Prop,(∃m,W 0 m σ H)/\∀i m σ H,W i m σ H->
   ((VL z).stop i H/\D.nx σ H)\/((VL z).go i H/\∃N,(∀σ' H',N σ' H'->∃m',m' < m/\W (i+1) m' σ' H')/\∀x H',(VL z).Mh i H x H'->g x σ H' λσ2 H2=>tb { D with nx:=N,ct:=N,bk:=D.nx } σ2 H2):=by
 show(δ (λi m σ H=>m=z.22 - i/\i<=z.22/\Pv i σ H) (ac z.22 rfl (Ϝ _) h0) ?_)
 rintro i m σ H ⟨rfl,hi,p⟩
 by_cases kz:i < z.22
 ·show .inr ⟨kz,(δ (Pv (i+1)) (λσ' H' p'=>(mh (z.22 - (i+1)) () rfl kz p')) (λx H' y=>?_))⟩
  (revert y;show ke λe=>ay λc hc ϐ=>?_;subst ϐ);subst e;show hs i c σ _ hc p
 ·let e:i=z.22:=by lk
  subst e;show .inl ⟨ξ _,hd σ H p⟩
def hU (hr:ga k A):A.20+64 < cLine:=hr.20
def tG (hr:ga k A):A.20+1 < cLine:=ada hr
abbrev jb (mg:Str->Option Ω)(x:Str)(v:V):Prop:=∃u,mg x=!u/\RelV v u
def dD (c:jb X.mg x v)(hg: ~~~(Gl X x))(hd:autoParam (EM x) L2.fR._auto_1):PE X (.Name x pos) (tC v):=by
 (revert c;show ay λu h1 h2=>?_);show EN hg h1 h2 hd
mutual
inductive Den (K:ζ) (H:Hp):V->i5->Prop
 | bM:Den K H .bM .none
 | bl (b:Bool):Den K H (.bl b) (.bool b)
 | int (i:Int):Den K H (.int i) (.int i)
 | str (x:Str):Den K H (.str x) (.str x)
 | lst {a:Ν} {xs:-V} {ds:-i5}:fK K H a xs->uj K H xs ds->Den K H (.ref a) (.list ds)
 | tup {a:Ν} {xs:-V} {ds:-i5}:iV K H a xs->uj K H xs ds->Den K H (.ref a) (.tuple ds)
inductive uj (K:ζ) (H:Hp):-V->-i5->Prop
 | nil:uj K H [] []
 | cons {v:V} {d:i5} {vs:-V} {ds:-i5}:Den K H v d->uj K H vs ds->uj K H (v::vs) (d::ds)
end
def Den.reads {X:Cx}{s:ς}(I:Inv X pins σ H s){v:V}{d:i5}{u:Ω}(h:Den X.K H v d)(r:RelV v u):∃as,Reads s.12 u d as:=by
 revert u
 show Den.rec (motive_1:=λv d _=>∀{u:Ω},RelV v u->∃as,Reads s.12 u d as) (motive_2:=λvs ds _=>∀us,Vals vs us->∃as,ReadsAll s.12 us ds as) ?_ ?_ ?_ ?_ ?_ ?_ ?_ ?_ h
 ·intro _ r;cases (show _=Cq from r);show⟨_,.none⟩
 ·intro b _ r;cases (show _=LX b from r);show⟨_,.bool b⟩
 ·intro i _ r;obtain⟨t,rfl⟩:=r;show⟨_,.int i t⟩
 ·intro x _ r;obtain⟨t,rfl⟩:=r;show⟨_,.str x t⟩
 ·intro _ _ _ h _ ih _ r;cases (show _=cC _ from r);(show au (I.list h) λbn rv p hz=>?_);(show au p.18 λo ho hc=>uf λn hdt=>?_);obtain⟨as,ra⟩:=ih _ rv;show⟨_,.list ho hc hdt (by simpa using ra)⟩
 ·intro _ _ _ h _ ih _ r;cases (show _=cC _ from r);(show au (I.tuple h) λbn rv p hz=>?_);(revert p;show ia λo ho hc=>uf λn hdt=>?_);obtain⟨as,ra⟩:=ih _ rv;show⟨_,.tuple ho hc hdt (by simpa using ra)⟩
 ·intro _ r;cases r;show⟨_,.nil⟩
 ·intro _ _ _ _ _ _ h t _ r;cases r with | cons r rr=>obtain⟨a,ha⟩:=h r;obtain⟨b,hb⟩:=t _ rr;show⟨_,.cons ha hb⟩
abbrev isRef:V->Bool
 | .ref _=>true
 | _=>false
abbrev NP (K:ζ)(neg:Bool):R2:=λx y H Q=>(isRef x || isRef y)=true/\∃d e,Den K H x d/\Den K H y e/\gE d=true/\gE e=true/\Q (.bl (if neg then !((oF d e)) else oF d e)) H
section
variable {X:Cx}
def Zo (hu:X.A.20+64 < cLine):fT X (compareOp .Eq) (NP X.K false):=by
 intro pins s σ H x y v u Q I rx ry h;(revert h;show ke λ_=>yx λd e hd he sd se q=>?_);obtain⟨as,ra⟩:=hd.reads I rx;obtain⟨bs,rb⟩:=he.reads I ry;show eq_dataH ra rb sd se hu (ϧ (.bl (oF d e)) H I rfl q)
def Zp (hu:X.A.20+64 < cLine):fT X (compareOp .NotEq) (NP X.K true):=by
 intro pins s σ H x y v u Q I rx ry h;(revert h;show ke λ_=>yx λd e hd he sd se q=>?_);obtain⟨as,ra⟩:=hd.reads I rx;obtain⟨bs,rb⟩:=he.reads I ry;show ne_dataH ra rb sd se hu (ϧ (.bl (!((oF d e)))) H I rfl q)
abbrev rSS (g:Str->Str->V):R2:=λx y H Q=>UE x λi=>UE y λj=>Q (g i j) H
def Zq:fT X (compareOp .Eq) (yA λi j=>.bl (decide (i=j))):=λpins s σ H x y v u Q I rx ry h=>by
 (show Ϗ (kF h) λi ϐ h2=>?_;subst ϐ);(show Ϗ (kF h2) λj ϐ q=>?_;subst ϐ);show Rw pins s σ H _ _ v u Q I rx ry ⟨rfl,by rw[decide_eq_decide.mpr (V.int.injEq i j▸Re:V.int i=V.int j↔i=j)];show q⟩
def Zr:fT X (compareOp .NotEq) (yA λi j=>.bl (!((decide (i=j))))):=λpins s σ H x y v u Q I rx ry h=>by
 (show Ϗ (kF h) λi ϐ h2=>?_;subst ϐ);(show Ϗ (kF h2) λj ϐ q=>?_;subst ϐ);show Rx pins s σ H _ _ v u Q I rx ry ⟨rfl,by rw[decide_eq_decide.mpr (V.int.injEq i j▸Re:V.int i=V.int j↔i=j)];show q⟩
def Zs:fT X (compareOp .Eq) (rSS λi j=>.bl (decide (i=j))):=λpins s σ H x y v u Q I rx ry h=>by
 (show Ϗ (mR h) λi ϐ h2=>?_;subst ϐ);(show Ϗ (mR h2) λj ϐ q=>?_;subst ϐ);show Rw pins s σ H _ _ v u Q I rx ry ⟨rfl,by rw[decide_eq_decide.mpr (V.str.injEq i j▸Re:V.str i=V.str j↔i=j)];show q⟩
def Zt:fT X (compareOp .NotEq) (rSS λi j=>.bl (!((decide (i=j))))):=λpins s σ H x y v u Q I rx ry h=>by
 (show Ϗ (mR h) λi ϐ h2=>?_;subst ϐ);(show Ϗ (mR h2) λj ϐ q=>?_;subst ϐ);show Rx pins s σ H _ _ v u Q I rx ry ⟨rfl,by rw[decide_eq_decide.mpr (V.str.injEq i j▸Re:V.str i=V.str j↔i=j)];show q⟩
def Zu (hu:X.A.20+64 < cLine):fT X (compareOp .Eq) (u4 (yA λi j=>.bl (decide (i=j))) (ER (rSS λi j=>.bl (decide (i=j))) (λx y H Q=>rEq x y H Q\/NP X.K false x y H Q))):=Zq.i2 (Zs.s2 (Rw.or (Zo hu)))
def Zv (hu:X.A.20+64 < cLine):fT X (compareOp .NotEq) (u4 (yA λi j=>.bl (!((decide (i=j))))) (ER (rSS λi j=>.bl (!((decide (i=j))))) (λx y H Q=>rNe x y H Q\/NP X.K true x y H Q))):=Zr.i2 (Zt.s2 (Rx.or (Zp hu)))
abbrev DO (p:-Nat->-Nat->Bool):R2:=λx y H Q=>UE x λi=>UE y λj=>Q (.bl (p i.6 j.6)) H
def Zw:fT X (compareOp .Lt) (DO λa b=>decide (a < b)):=by
 intro pins s σ H x y v u Q I rx ry h;(show Ϗ (mR h) λi ϐ h2=>?_;subst ϐ);(show Ϗ (mR h2) λj ϐ q=>?_;subst ϐ);obtain⟨t,rfl⟩:=rx;obtain⟨t',rfl⟩:=ry;show PySem.P.lt_str (ϧ (.bl (decide (i.6 < j.6))) H I rfl q)
def Zx:fT X (compareOp .LtE) (DO λa b=>!((decide (b < a)))):=by
 intro pins s σ H x y v u Q I rx ry h;(show Ϗ (mR h) λi ϐ h2=>?_;subst ϐ);(show Ϗ (mR h2) λj ϐ q=>?_;subst ϐ);obtain⟨t,rfl⟩:=rx;obtain⟨t',rfl⟩:=ry;show PySem.P.le_str (ϧ (.bl (!((decide (j.6 < i.6))))) H I rfl q)
def Zy:fT X (compareOp .Lt) (u4 (yA λi j=>.bl (decide (i < j))) (DO λa b=>decide (a < b))):=acQ.i2 Zw
def Zz:fT X (compareOp .LtE) (u4 (yA λi j=>.bl (decide (i<=j))) (DO λa b=>!((decide (b < a))))):=acR.i2 Zx
def Aq:fT X (compareOp .Gt) (yA λi j=>.bl (decide (j < i))):=acS
abbrev R7 (K:ζ):R2:=λx y H Q=>∃l b xs zs,x=.ref l/\y=.ref b/\fK K H l xs/\fK K H b zs/\xs.4+zs.4<=sizeLine/\∀p,H p=none->Q (.ref p) (upd H p (.lst (xs++zs)))
def VN:fT X (binaryOp .Add) (R7 X.K):=by
 intro pins s σ H x y v u Q I rx ry h;(revert h;show oK λl b xs zs ϐ=>yw λgO hH hB hz q=>?_;subst ϐ;subst gO);cases rx;cases ry;(show au (I.list hH) λbn r p z1=>?_);(show au (I.list hB) λJQ r2 p2 z2=>?_);let h1:=r.4;let h2:=r2.4;(show au p.18 λϐ ho hc=>uf λn hd=>?_;obtain ⟨cl,dc,dt,sl⟩:=ϐ);(show au p2.18 λϐ ho2 hc2=>uf λn2 hd2=>?_;obtain ⟨cl2,dc2,dt2,sl2⟩:=ϐ);subst hc hd hc2 hd2;show concat_meets (δ _ ho rfl) (δ _ ho2 rfl) PySem.noFill_list_add PySem.seq_list_add PySem.F.slot_list_add PySem.F.entry_list_add (PySem.F.args_list_add_2 _ _) (list_addW l b bn.10 JQ.10 n n2 dc dc2 sl sl2 (by rw[Ϟ,Ϟ];lk)) ⟨ho,ho2,?_⟩;let ea:bn.10++JQ.10=(bn++JQ).10:=by simp
 rw[ea];show(ϧ (.ref _) _ (I.ac6 (r.append r2) (by rw[Ρ];lk)) rfl (q _ I.71))
abbrev JX:R2:=λx y H Q=>UE x λi=>UE y λj=>i.cps.toList.4+j.cps.toList.4<=sizeLine/\Q (.str (S (i.6++j.6))) H
def R9:fT X (binaryOp .Add) JX:=by
 intro pins s σ H x y v u Q I rx ry h;(show Ϗ (mR h) λi ϐ h2=>?_;subst ϐ);(show au (mR h2) λj ϐ hz q=>?_;subst ϐ);show JF pins s σ H _ _ v u Q I rx ry (fk i j rfl rfl ?_ ?_)
 ·let e:=my i.6
  let e':=my j.6;rw[<-Ap] at e e';show hz
 ·let e:=R3 i.6 j.6
  rw[e];show q
def VO:fT X (binaryOp .Add) (u4 (yA λi j=>.int (i+j)) (ER JX (R7 X.K))):=YX.i2 (R9.s2 VN)
def Sa:PIp X .Add (λx y H Q=>yA (λi j=>.int (i+j)) x y H Q):=λpins s σ H x y v u Q I rx ry h=>Vp pins s σ H x y v u Q I rx ry h
def NQ:dJ X (.builtin "len") (λxs H Q=>∃l,xs=[.str (S l)]/\l.4<=sizeLine/\Q (.int l.4) H):=by
 intro pins s σ H xs us Q I r h;(revert h;show ia λl ϐ hz q=>?_;subst ϐ);show E1 pins s σ H _ us Q I r (ac (S l) rfl ?_ ?_)
 ·rw[my];show hz
 ·rw[my];show q
def NR:dJ X (.builtin "len") (λxs H Q=>(∃p ys,xs=[.ref p]/\(fK X.K H p ys\/iV X.K H p ys)/\Q (.int ys.4) H)\/((∃l,xs=[.str (S l)]/\l.4<=sizeLine/\Q (.int l.4) H)\/(∃a kvs,xs=[V.ref a]/\H a=!.dK kvs/\Q (.int kvs.4) H))):=
 EZ.or (NQ.or NL)
abbrev iC (K:ζ):-V->Hp->VK->Prop:=λxs H Q=>(∃x t n b,xs=[x,.ty n]/\mT K H x t/\QJ K t (.type n)=!b/\Q (.bl b) H)\/(∃x t C b,xs=[x,.ref C]/\mT K H x t/\QJ K t (.ref C)=!b/\Q (.bl b) H)
def wE:dJ X (.builtin "isinstance") (iC X.K):=by
 intro pins s σ H xs us Q I r h;rcases h with⟨x,t,n,b,rfl,ty,e,q⟩ | ⟨x,t,n,b,rfl,ty,e,q⟩
 ·(show kf (vals2 r) λu w ϐ rx Ah=>?_;subst ϐ)
  cases Ah;show DC I rx ty e λtk=>(ϧ (.bl b) H (I.tok tk) rfl q)
 ·(show kf (vals2 r) λu w ϐ rx Ah=>?_;subst ϐ)
  cases Ah;show DC I rx ty e λtk=>(ϧ (.bl b) H (I.tok tk) rfl q)
def NS:dJ X (.builtin "ord") (λxs H Q=>∃c,xs=[.str (S [c])]/\Q (.int (c:Nat)) H):=by
 intro pins s σ H xs us Q I r h;(revert h;show ay λc ϐ q=>?_;subst ϐ);show RD pins s σ H _ us Q I r (ac (S [c]) rfl rfl q)
def VP (hu:X.A.20+1 < cLine):QT X (λx y H Q=>∃a v,x=.ref a/\bH H a y (!v)/\Q v H):=by
 intro value slice pins s σ H x y v u Q I rx ry h hs;(revert h;show gI λa z ϐ g q=>?_;subst ϐ);cases (rx);show Ut (GR I g) PySem.F.slot_dict_getitem.lookup (NJ hu I g ry λw' s3 I3 Ah=>(ϧ z H I3 Ah q)) hs
abbrev Sb:R2:=λx y H Q=>∃l i c,x=.str (S l)/\y=.int i/\l.4<=sizeLine/\NF l i=!c/\Q (.str (S [c])) H
def VQ:QT X Sb:=by
 intro value slice pins s σ H x y v u Q I rx ry h hs;(revert h;show ug λl i c ϐ gO hz he q=>?_;subst ϐ;subst gO);show Y9 value slice pins s σ H _ _ v u Q I rx ry (dL (S l) i c rfl rfl (by rw[my];show hz) (by simpa using he) q) hs
abbrev u8 (K:ζ):R2:=λx y H Q=>Y6 K x y H Q\/(Y7 K x y H Q\/(Sb x y H Q\/(∃a v,x=.ref a/\bH H a y (!v)/\Q v H)))
def ZA (hu:X.A.20+1 < cLine):QT X (u8 X.K):=Vw.or (Y8.or (VQ.or (VP hu)))
abbrev ZB (K:ζ):V->Option Int->Option Int->Hp->VK->Prop:=λx lo hi H Q=>ac3 K x lo hi H Q\/ado x lo hi H Q
def ZC:Vv X (ZB X.K):=Vx.or Zn
abbrev Mt:V->V->V->Hp->(Hp->Prop)->Prop:=λo i v H Q=>Xx o i v H Q\/∃a H',o=.ref a/\jN H a i v H'/\Q H'
def dS (hu:X.A.20+1 < cLine):YR X Mt:=by
 intro pins s σ H o i v ov iv u Q I ro ri rv h;rcases h with h | ⟨a,H',rfl,g,q⟩
 ·show set_list pins s σ H o i v ov iv u Q I ro ri rv h
 ·cases (ro)
  show NK hu I g ri rv λs4 I4=>(δ H' I4 q)
def ZD (hu:X.A.20+1 < cLine):fT X (compareOp .In) (λy x H Q=>∃a o,x=.ref a/\bH H a y o/\Q (.bl o.11) H):=by
 intro pins s σ H y x v u Q I ry rx h;(revert h;show gI λa o ϐ g q=>?_;subst ϐ);cases (rx);show ahh hu I g ry λs3 I3=>(ϧ (.bl o.11) H I3 rfl q)
def NT (hu:X.A.20+1 < cLine):fT X (compareOp .NotIn) (λy x H Q=>∃a o,x=.ref a/\bH H a y o/\Q (.bl (!((o.isSome)))) H):=by
 intro pins s σ H y x v u Q I ry rx h;(revert h;show gI λa o ϐ g q=>?_;subst ϐ);cases (rx);show VC hu I g ry λs3 I3=>(ϧ (.bl (!((o.isSome)))) H I3 rfl q)
abbrev JY (j i:Str):Bool:=!(((lY j i 0 j.4 1).45))
def ZE (hu:X.A.20+1 < cLine):fT X (compareOp .In) (λx y H Q=>Zb X.K false x y H Q\/((∃i j,x=.str i/\y=.str j/\Q (.bl (JY j i)) H)\/(∃a o,y=.ref a/\bH H a x o/\Q (.bl o.11) H))):=
 NG.or (fT.or Nz (ZD hu))
def NU (hu:X.A.20+1 < cLine):fT X (compareOp .NotIn) (λx y H Q=>Zb X.K true x y H Q\/((∃i j,x=.str i/\y=.str j/\Q (.bl (!((JY j i)))) H)\/(∃a o,y=.ref a/\bH H a x o/\Q (.bl (!((o.isSome)))) H))):=
 EX.or (fT.or EY (NT hu))
abbrev bV (sep:-Nat):-(-Nat)->-Nat
 | []=>[]
 | [x]=>x
 | x::rest=>x++sep++bV sep rest
def NV (ls:-(-Nat)):bV [] ls=ls.30:=by
 induction ls with
 | nil=>rfl
 | cons a r ih=>
  cases r with
  | nil=>simp[bV]
  | cons b t=>rw[bV,ih];simp;intro h;cases h
def E4 (sep:-Nat):∀ls:-(-Nat),ajA (S sep) (ls.map S)=S (bV sep ls)
 | []=>rfl
 | [x]=>rfl
 | x::y::r=>by
  let ih:=E4 sep (y::r);change S x++S sep++ajA (S sep) ((y::r).map S)=S (x++sep++bV sep (y::r));rw[ih,R3,R3]
def JZ:∀{us:-Ω},Vals (ls.map λl=>V.str (S l)) us->StrsAre us (ls.map S):=by
 induction ls with
 | nil=>intro us r;cases r;show .nil
 | cons a r ih=>
  intro us h;cases h with
  | cons h1 h2=>
   obtain⟨t,rfl⟩:=h1;show .cons _ t (ih h2)
abbrev rJoin (K:ζ):V->-V->Hp->VK->Prop:=λx vs H Q=>∃sep p ls,x=.str (S sep)/\vs=[.ref p]/\fK K H p (ls.map λl=>V.str (S l))/\(ls.map be).72+ls.4 * sep.4<=16777216/\Q (.str (S (bV sep ls))) H
def VR:Xw X "str.join" (rJoin X.K):=by
 intro pins s σ H x vs v us Q I rx rv h;(revert h;show ug λsep p ls ϐ gO hq hz q=>?_;subst ϐ;subst gO);obtain⟨t,rfl⟩:=rx;(show Ϗ (vals1 rv) λu ϐ ru=>?_;subst ϐ);cases ru;(show au (I.list hq) λbn r pl _=>?_);show join_list pl.18 (by simpa using JZ r) ?_ λt' k=>?_
 ·rw[Ϥ,Η]
  let e:(ae3∘S)=be:=by funext l;show my l
  show hz
 ·let e:Txt.join (S sep) (ls.map S)=S (bV sep ls):=(aoy _ _).trans (E4 sep ls)
  rw[e];show(ϧ (.str (S (bV sep ls))) H (I.tok k) ⟨t',rfl⟩ q)
abbrev ZF (K:ζ)(tl:TE):TI:=λσ H R=>tl σ H λx H1=>(∃a,x=.ref a/\(∃xs,fK K H1 a xs)/\R (Mj K a) H1)\/((∃a,x=.ref a/\(∃xs,iV K H1 a xs)/\R (Itt K a) H1)\/(∃z,x=.str z/\R (VL z) H1))
def ZG (hl:PE X l tl):PI X tg l (ZF X.K tl):=by
 intro pins s σ H R I h;show dM (hl pins s σ H _ I h) λv s1 x H1 I1 r1 q1=>?_;let fp:∀b,b∈[s1.5]->qr X pins H1 b:=λb hb=>by
  let e:b=s1.5:=by simpa using hb
  subst e;show I1.EQ (ξ _) (I1.cx.fresh (ξ _))
 rcases q1 with⟨a,e,⟨xs,hq⟩,q⟩ | ⟨a,e,⟨xs,hq⟩,q⟩ | ⟨z,e,q⟩
 ·subst e
  cases r1;(show au (I1.list hq) λbn rv p hz=>?_);show fg p.18 ?_;show(EH s1.5 ([s1.5]) _ _ H1 rfl (I1.kept λb o e=>Χ _ e) (Nv a _) (ac _ (ϑ _ rfl) rfl rfl) fp q)
 ·subst e
  cases r1;(show au (I1.tuple hq) λbn rv p hz=>?_);show Xf (p) ?_;show(EH s1.5 ([s1.5]) _ _ H1 rfl (I1.kept λb o e=>Χ _ e) (JA a _) (ac _ (ϑ _ rfl) rfl rfl) fp q)
 ·subst e
  obtain⟨t,rfl⟩:=r1;show wpAny_pyIter_strU ?_;show(EH s1.5 ([s1.5]) _ _ H1 rfl (I1.kept λb o e=>Χ _ e) (R4 _ z t) (ac _ (ϑ _ rfl) rfl rfl) fp q)
end
def wF {Q:Hp->Prop}(n:Nat)(hn:n<=sizeLine)(hD:H D=none)(item f:Nat->V)(p:Nat->Bool)
  (adq:∀H',ι H H'->J.stop n H') (hgo:∀i H',ι H H'->i < n->J.go i H') (hy:∀i H' x kh,ι H H'->i < n->J.Mh i H' x kh->kh=H'/\x=item i)
  (ht:∀i H',i < n->ι H H'->∀Qt,(∀kh,ι H' kh->Qt (p i) kh)->tt (some (item i)::σ) H' Qt)
  (he:∀i H',i < n->p i=true->ι H H'->∀Qe,(∀kh,ι H' kh->Qe (f i) kh)->te (some (item i)::σ) H' Qe)
  (hd:∀H',ι H H'->H' D=!.lst (((aU n).filter p).map f)->Q H') :
  ∃W:Nat->Nat->-V->Hp->Prop,(∃m,W 0 m [] (upd H D (.lst [])))/\∀i m ys H2,W i m ys H2->
   (J.stop i H2/\H2 D=!.lst ys/\Q H2)\/(J.go i H2/\ys.4 < sizeLine/\∀x H3,J.Mh i H2 x H3->tt (some x::σ) H3 λb H4=>
    if b=true then te (some x::σ) H4 λy H5=>H5 D=!.lst ys/\∃m',m' < m/\W (i+1) m' (ys++[y]) (upd H5 D (.lst (ys++[y]))) else ∃m',m' < m/\W (i+1) m' ys H4):=by
 let XD:∀{H':Hp} {ys:-V},ι H H'->ι H (upd H' D (.lst ys)):=λ{H' ys} h b o e=>by
  rw[ν (aj e hD)];show h b o e
 show(δ (λi m ys H2=>m=n - i/\i<=n/\ys=((aU i).filter p).map f/\H2 D=!.lst ys/\ι H H2) (GD n rfl (Ϝ _) rfl Δ (XD (ι.refl _))) ?_)
 rintro i m ys H2 ⟨rfl,hi,e,hH,hs⟩
 let hlen:ys.4<=i:=by
  rw[e,Η];show ϊ (cw _ _) (by rw[d5];show ξ _)
 by_cases kz:i < n
 ·show .inr ⟨hgo i H2 hs kz,(),λx H3 y=>?_⟩
  obtain⟨rfl,rfl⟩:=hy i H2 x H3 hs kz y;let grow:((aU (i+1)).filter p).map f=if p i=true then ys++[f i] else ys:=by
   rw[zM,ir,Ϣ,<-e]
   by_cases hp:p i=true
   ·rw[ε hp];simp[hp]
   ·let NW:p i=false:=by simpa using hp
    simp[NW]
  show ht i _ kz hs _ λH4 s4=>?_
  by_cases hp:p i=true
  ·rw[hp,ε rfl]
   rw[ε hp] at grow;show he i H4 kz hp (hs.trans s4) _ λH5 s5=>⟨s5 _ _ (s4 _ _ hH),(Nk (n - (i+1)) () rfl kz grow.17 Δ (XD ((hs.trans s4).trans s5)))⟩
  ·let NW:p i=false:=by simpa using hp
   rw[NW,Ψ ώ];rw[Ψ hp] at grow;show(Nk (n - (i+1)) () rfl kz grow.17 (s4 _ _ hH) (hs.trans s4))
 ·let ei:i=n:=by lk
  subst ei;rw[e] at hH;show .inl ⟨adq _ hs,by rw[e];show hH,hd _ hs hH⟩
def jB (l:-α):l.filter (λ_=>true)=l:=by induction l<;>simp_all
def ι.upd {D:Ν}{o:HO}(hD:H D=none):ι H (upd H D o):=λb u e=>by
 rw[ν (aj e hD)];show e
def bf {xs:-α}{i:Int}(h0:0<=i)(h:xs[i.9]?=!v):NF xs i=!v:=by
 have:=u5 h
 rwa [show(i.9:Int)=i by lk] at this
def ι.tup {K:ζ}(e:ι H H')(h:iV K H a xs):iV K H' a xs:=by
 rcases h with(h | ⟨o,h⟩) | h
 ·show .inl (.inl (e _ _ h))
 ·show .inl (.inr ⟨o,e _ _ h⟩)
 ·show .inr h
def aY {K:ζ}{x:V}{n:String}{b:Bool}(hT:∀t,mT K H x t↔t=.type T)(hk:QJ K (.type T) (.type n)=!b):iC K [x,.ty n] H Q↔Q (.bl b) H:=by
 constructor
 ·rintro(⟨x',t,n',b',e,ty,k,q⟩ | ⟨x',t,C,b',e,ty,k,q⟩)
  ·simp only[ajB,V.ty.injEq,and_true] at e
   obtain⟨rfl,rfl⟩:=e;rw[(hT t).mp ty,hk] at k;cases k;show q
  ·simp at e
 ·intro q
  show .inl (ack x _ n b rfl ((hT _).mpr rfl) hk q)
def nP {K:ζ}(t:Ω):mT K H .bM t↔t=.type "NoneType":=⟨λh=>by cases h;rfl,λh=>h▸.bM⟩
def rT {K:ζ}(b:Bool)(t:Ω):mT K H (.bl b) t↔t=.type "bool":=⟨λh=>by cases h;rfl,λh=>h▸.bl b⟩
def nQ {K:ζ}(b:Int)(t:Ω):mT K H (.int b) t↔t=.type "int":=⟨λh=>by cases h;rfl,λh=>h▸.int b⟩
def nR {K:ζ}(b:Str)(t:Ω):mT K H (.str b) t↔t=.type "str":=⟨λh=>by cases h;rfl,λh=>h▸.str b⟩
def Sc {K:ζ}(e:H a=!.lst xs)(t:Ω):mT K H (.ref a) t↔t=.type "list":=by
 constructor
 ·intro h
  cases h<;>first | rfl | (rename_i e';rw[e] at e';cases e') | (rename_i e' _ _ _ _ _;rw[e] at e';cases e')
 ·intro h
  show h▸.lst e
def Se {K:ζ}(e:H a=!.tup xs)(t:Ω):mT K H (.ref a) t↔t=.type "tuple":=by
 constructor
 ·intro h
  cases h<;>first | rfl | (rename_i e';rw[e] at e';cases e') | (rename_i e' _ _ _ _ _;rw[e] at e';cases e')
 ·intro h
  show h▸.tup e
def XE {K:ζ}:iC K [.bM,.ty "int"] H Q↔Q (.bl false) H:=aY (nP) (by rfl)
def VS {K:ζ}:iC K [.bM,.ty "bool"] H Q↔Q (.bl false) H:=aY (nP) (by rfl)
def XF {K:ζ}:iC K [.bM,.ty "str"] H Q↔Q (.bl false) H:=aY (nP) (by rfl)
def VT {K:ζ}:iC K [.bM,.ty "list"] H Q↔Q (.bl false) H:=aY (nP) (by rfl)
def UM {K:ζ}:iC K [.bM,.ty "tuple"] H Q↔Q (.bl false) H:=aY (nP) (by rfl)
def VU {K:ζ}:iC K [.bM,.ty "dict"] H Q↔Q (.bl false) H:=aY (nP) (by rfl)
def ZH {K:ζ}{b:Bool}:iC K [(.bl b),.ty "int"] H Q↔Q (.bl true) H:=aY (rT _) (by rfl)
def XG {K:ζ}{b:Bool}:iC K [(.bl b),.ty "bool"] H Q↔Q (.bl true) H:=aY (rT _) (by rfl)
def ZI {K:ζ}{b:Bool}:iC K [(.bl b),.ty "str"] H Q↔Q (.bl false) H:=aY (rT _) (by rfl)
def XH {K:ζ}{b:Bool}:iC K [(.bl b),.ty "list"] H Q↔Q (.bl false) H:=aY (rT _) (by rfl)
def VW {K:ζ}{b:Bool}:iC K [(.bl b),.ty "tuple"] H Q↔Q (.bl false) H:=aY (rT _) (by rfl)
def XI {K:ζ}{b:Bool}:iC K [(.bl b),.ty "dict"] H Q↔Q (.bl false) H:=aY (rT _) (by rfl)
def XJ {K:ζ}{b:Int}:iC K [(.int b),.ty "int"] H Q↔Q (.bl true) H:=aY (nQ _) (by rfl)
def E5 {K:ζ}{b:Int}:iC K [(.int b),.ty "bool"] H Q↔Q (.bl false) H:=aY (nQ _) (by rfl)
def XM {K:ζ}{b:Int}:iC K [(.int b),.ty "str"] H Q↔Q (.bl false) H:=aY (nQ _) (by rfl)
def VX {K:ζ}{b:Int}:iC K [(.int b),.ty "list"] H Q↔Q (.bl false) H:=aY (nQ _) (by rfl)
def UN {K:ζ}{b:Int}:iC K [(.int b),.ty "tuple"] H Q↔Q (.bl false) H:=aY (nQ _) (by rfl)
def VY {K:ζ}{b:Int}:iC K [(.int b),.ty "dict"] H Q↔Q (.bl false) H:=aY (nQ _) (by rfl)
def XN {K:ζ}{b:Str}:iC K [(.str b),.ty "int"] H Q↔Q (.bl false) H:=aY (nR _) (by rfl)
def E8 {K:ζ}{b:Str}:iC K [(.str b),.ty "bool"] H Q↔Q (.bl false) H:=aY (nR _) (by rfl)
def XO {K:ζ}{b:Str}:iC K [(.str b),.ty "str"] H Q↔Q (.bl true) H:=aY (nR _) (by rfl)
def VZ {K:ζ}{b:Str}:iC K [(.str b),.ty "list"] H Q↔Q (.bl false) H:=aY (nR _) (by rfl)
def UO {K:ζ}{b:Str}:iC K [(.str b),.ty "tuple"] H Q↔Q (.bl false) H:=aY (nR _) (by rfl)
def V0 {K:ζ}{b:Str}:iC K [(.str b),.ty "dict"] H Q↔Q (.bl false) H:=aY (nR _) (by rfl)
def u9 {K:ζ}(e:H a=!.lst xs):iC K [.ref a,.ty "list"] H Q↔Q (.bl true) H:=aY (Sc e) (by rfl)
def tH {K:ζ}(e:H a=!.tup xs):iC K [.ref a,.ty "tuple"] H Q↔Q (.bl true) H:=aY (Se e) (by rfl)
abbrev GY (J:It)(g:TG)(tb:TS)(D:Ends)(σ:St)(H1:Hp):Prop:=∃W:Nat->Nat->St->Hp->Prop,(∃m,W 0 m σ H1)/\∀i m σ H,W i m σ H->
 (J.stop i H/\D.nx σ H)\/(J.go i H/\∃N,(∀σ' H',N σ' H'->∃m',m' < m/\W (i+1) m' σ' H')/\∀x H',J.Mh i H x H'->g x σ H' λσ2 H2=>tb { D with nx:=N,ct:=N,bk:=D.nx } σ2 H2)
def afn (wi:TI)(g:TG)(tb:TS)(D:Ends)(σ:St)(H:Hp):acJ wi g tb D σ H=wi σ H λJ H1=>GY J g tb D σ H1:=rfl
abbrev va (J:It)(tt:TT)(te:TE)(σ:St)(H1:Hp)(Q:VK):Prop:=∀D,H1 D=none->∃W:Nat->Nat->-V->Hp->Prop,(∃m,W 0 m [] (upd H1 D (.lst [])))/\∀i m ys H2,W i m ys H2->
 (J.stop i H2/\H2 D=!.lst ys/\Q (.ref D) H2)\/(J.go i H2/\ys.4 < sizeLine/\∀x H3,J.Mh i H2 x H3->tt (some x::σ) H3 λb H4=>
  if b=true then te (some x::σ) H4 λy H5=>H5 D=!.lst ys/\∃m',m' < m/\W (i+1) m' (ys++[y]) (upd H5 D (.lst (ys++[y]))) else ∃m',m' < m/\W (i+1) m' ys H4)
def adr (wi:TI)(tt:TT)(te:TE)(σ:St)(H:Hp)(Q:VK):RW wi tt te σ H Q=wi σ H λJ H1=>va J tt te σ H1 Q:=rfl
def GZ (Pv:Nat->St->Hp->Prop)(h0:Pv 0 σ H)
  (hs:∀i c σ H,z.cps[i]?=!c->Pv i σ H->g (.str (S [c])) σ H λσ2 H2=>tb { D with nx:=Pv (i+1),ct:=Pv (i+1),bk:=D.nx } σ2 H2) (hd:∀σ H,Pv z.22 σ H->D.nx σ H):GY (VL z) g tb D σ H:=
 VM Pv h0 hs hd
def cy {K:ζ}(Pv:Nat->St->Hp->Prop)(h0:Pv 0 σ H)(hl:∀i σ H,i<=xs.4->Pv i σ H->fK K H a xs)
  (hs:∀i x σ H,xs[i]?=!x->Pv i σ H->g x σ H λσ2 H2=>tb { D with nx:=Pv (i+1),ct:=Pv (i+1),bk:=D.nx } σ2 H2) (hd:∀σ H,Pv xs.4 σ H->D.nx σ H):GY (Mj K a) g tb D σ H:=
 Vn Pv h0 hl hs hd
def Ar {lo:Int}(Pv:Nat->St->Hp->Prop)(h0:Pv 0 σ H)
  (hs:∀i σ H,i < n->Pv i σ H->g (.int (lo+i)) σ H λσ2 H2=>tb { D with nx:=Pv (i+1),ct:=Pv (i+1),bk:=D.nx } σ2 H2) (hd:∀σ H,Pv n σ H->D.nx σ H):GY (Xp lo n) g tb D σ H:=
 Nx Pv h0 hs hd
def amd {K:ζ}{s:ς}{E:XK} :
  (Ae CX P w K mg base N qual scope f cd A outer s H E).K=K:=rfl
def ajW (a b:-Nat):(S a=S b)=(a=b):=propext ⟨nO,λh=>by rw[h]⟩
abbrev DP (K:ζ):R2:=u4 (yA λi j=>.int (i+j)) (ER JX (R7 K))
abbrev J0 (K:ζ):R2:=u4 (yA λi j=>.bl (decide (i=j))) (ER (rSS λi j=>.bl (decide (i=j))) (λx y H Q=>rEq x y H Q\/NP K false x y H Q))
abbrev NX (K:ζ):R2:=u4 (yA λi j=>.bl (!((decide (i=j))))) (ER (rSS λi j=>.bl (!((decide (i=j))))) (λx y H Q=>rNe x y H Q\/NP K true x y H Q))
abbrev rLt:R2:=u4 (yA λi j=>.bl (decide (i < j))) (DO λa b=>decide (a < b))
abbrev rLe:R2:=u4 (yA λi j=>.bl (decide (i<=j))) (DO λa b=>!((decide (b < a))))
abbrev NY (K:ζ):-V->Hp->VK->Prop:=λxs H Q=>(∃p ys,xs=[.ref p]/\(fK K H p ys\/iV K H p ys)/\Q (.int ys.4) H)\/((∃l,xs=[.str (S l)]/\l.4<=sizeLine/\Q (.int l.4) H)\/(∃a kvs,xs=[V.ref a]/\H a=!.dK kvs/\Q (.int kvs.4) H))
abbrev Sf (K:ζ):R2:=λx y H Q=>Zb K false x y H Q\/((∃i j,x=.str i/\y=.str j/\Q (.bl (JY j i)) H)\/(∃a o,y=.ref a/\bH H a x o/\Q (.bl o.11) H))
abbrev ads (K:ζ):R2:=λx y H Q=>Zb K true x y H Q\/((∃i j,x=.str i/\y=.str j/\Q (.bl (!((JY j i)))) H)\/(∃a o,y=.ref a/\bH H a x o/\Q (.bl (!((o.isSome)))) H))
abbrev Mu (K:ζ):-V->Hp->VK->Prop:=λxs H Q=>∃p ys,xs=[.ref p]/\(fK K H p ys\/iV K H p ys)/\∀l,H l=none->Q (.ref l) (upd H l (.lst ys))
abbrev ahs:-V->Hp->VK->Prop:=λxs H Q=>∃c,xs=[.str (S [c])]/\Q (.int (c:Nat)) H
abbrev Sg (K:ζ)(x:V)(H1:Hp)(R:It->Hp->Prop):Prop:=(∃a,x=.ref a/\(∃xs,fK K H1 a xs)/\R (Mj K a) H1)\/((∃a,x=.ref a/\(∃xs,iV K H1 a xs)/\R (Itt K a) H1)\/(∃z,x=.str z/\R (VL z) H1))
def afp (K:ζ)(tl:TE)(σ:St)(H:Hp)(R:It->Hp->Prop):ZF K tl σ H R=tl σ H λx H1=>Sg K x H1 R:=rfl
abbrev aht (K:ζ)(ta:TE):TT:=λσ H Q=>ta σ H λx H'=>∃k,NA K x H' k/\Q k H'
section
variable {K:ζ} {R:It->Hp->Prop} {x:V} {p:Ν} {zs:-V}
def Mv {r r1 r2:R2}(hr:(isRef x || isRef y)=true)(h:r2 x y H Q):u4 r (ER r1 r2) x y H Q:=by
 cases x<;>cases y<;>first | show h | cases hr
def qI (i j:Int):DP K (.int i) (.int j) H Q=Q (.int (i+j)) H:=rfl
def adt (i j:Str):DP K (.str i) (.str j) H Q=∃l m,i=S l/\j=S m/\l.4+m.4<=sizeLine/\Q (.str (S (l++m))) H:=
 propext ⟨λh=>(ϧ _ _ (Ap i) (Ap j) h),by rintro⟨l,m,rfl,rfl,h⟩;show h⟩
def vc (i j:-Nat):DP K (.str (S i)) (.str (S j)) H Q=(i.4+j.4<=sizeLine/\Q (.str (S (i++j))) H):=rfl
def Mw (h1:fK K H a xs)(h2:fK K H b zs)(hz:xs.4+zs.4<=sizeLine)(q:∀p,H p=none->Q (.ref p) (upd H p (.lst (xs++zs)))):DP K (.ref a) (.ref b) H Q:=((Jr a b xs zs rfl rfl h1 h2 ⟨hz,q⟩))
def rV (i j:Int):J0 K (.int i) (.int j) H Q=Q (.bl (decide (i=j))) H:=rfl
def V1 (i j:Int):NX K (.int i) (.int j) H Q=Q (.bl (!(((decide (i=j)))))) H:=rfl
def vd (i j:Str):J0 K (.str i) (.str j) H Q=Q (.bl (decide (i=j))) H:=rfl
def V2 (i j:Str):NX K (.str i) (.str j) H Q=Q (.bl (!(((decide (i=j)))))) H:=rfl
def ZJ {d e:i5}(hr:(isRef x || isRef y)=true)(h1:Den K H x d)(h2:Den K H y e)(s1:gE d=true)(s2:gE e=true)(q:Q (.bl (oF d e)) H):J0 K x y H Q:=Mv hr (.inr ⟨hr,(CI d e h1 h2 s1 s2 q)⟩)
def ZK {d e:i5}(hr:(isRef x || isRef y)=true)(h1:Den K H x d)(h2:Den K H y e)(s1:gE d=true)(s2:gE e=true)(q:Q (.bl (!((oF d e)))) H):NX K x y H Q:=Mv hr (.inr ⟨hr,(CI d e h1 h2 s1 s2 q)⟩)
def ahu (i j:Int):rLt (.int i) (.int j) H Q=Q (.bl (decide (i < j))) H:=rfl
def ahv (i j:Str):rLt (.str i) (.str j) H Q=Q (.bl (decide (i.6 < j.6))) H:=rfl
def ZL (i j:Int):rLe (.int i) (.int j) H Q=Q (.bl (decide (i<=j))) H:=rfl
def ahw (i j:Str):rLe (.str i) (.str j) H Q=Q (.bl (!((decide (j.6 < i.6))))) H:=rfl
def ZM (i:Str):NY K [.str i] H Q=∃l,i=S l/\l.4<=sizeLine/\Q (.int l.4) H:=by simp[NY]
def iD (h:fK K H p ys)(q:Q (.int ys.4) H):NY K [.ref p] H Q:=.inl (ϧ p ys rfl (.inl h) q)
def ZN (h:iV K H p ys)(q:Q (.int ys.4) H):NY K [.ref p] H Q:=.inl (ϧ p ys rfl (.inr h) q)
def ahx (i j:Str):Sf K (.str i) (.str j) H Q=Q (.bl (JY j i)) H:=by simp[Sf,Zb]
def At (h:fK K H p xs\/iV K H p xs)(f:nK x=true)(g:xs.all nK=true)(q:Q (.bl (JP x xs)) H):Sf K x (.ref p) H Q:=.inl (CI p xs rfl h f g q)
def Sh (h:bH H p x o)(q:Q (.bl o.11) H):Sf K x (.ref p) H Q:=.inr (.inr (ϧ p o rfl h q))
def Sj (h:bH H p x o)(q:Q (.bl (!((o.isSome)))) H):ads K x (.ref p) H Q:=.inr (.inr (ϧ p o rfl h q))
def nS (h:fK K H p ys\/iV K H p ys)(q:∀l,H l=none->Q (.ref l) (upd H l (.lst ys))):Mu K [.ref p] H Q:=(ϧ p ys rfl h q)
def ahy (i:Str):u8 K (.str i) y H Q=Sb (.str i) y H Q:=by simp[u8,Y6,Y7]
def dh {i:Int}{v:V}(h:fK K H p xs)(e:NF xs i=!v)(q:Q v H):u8 K (.ref p) (.int i) H Q:=.inl (Jr p xs i v rfl rfl h e q)
def dN {i:Int}{v:V}(h:iV K H p xs)(e:NF xs i=!v)(q:Q v H):u8 K (.ref p) (.int i) H Q:=.inr (.inl (Jr p xs i v rfl rfl h e q))
def ϙ (h:bH H p y (!v))(q:Q v H):u8 K (.ref p) y H Q:=.inr (.inr (.inr (ϧ p v rfl h q)))
def uk {lo hi:Option Int}(h:fK K H a xs)(q:∀p,H p=none->Q (.ref p) (upd H p (.lst (oP xs lo hi)))):ZB K (.ref a) lo hi H Q:=.inl (ϧ a xs rfl h q)
def ahz (z:Str):Sg K (.str z) H R=R (VL z) H:=by simp[Sg]
def di (h:fK K H a xs)(q:R (Mj K a) H):Sg K (.ref a) H R:=.inl (ac a rfl ⟨xs,h⟩ q)
def Sk (h:iV K H a xs)(q:R (Itt K a) H):Sg K (.ref a) H R:=.inr (.inl (ac a rfl ⟨xs,h⟩ q))
def dG (h:jN H p y v H')(q:Qh H'):Mt (.ref p) y v H Qh:=.inr (ϧ p H' rfl h q)
def ZO (b k:Bool):NA K (.bl b) H k=(k=b):=rfl
def ahA (k:Bool):NA K .bM H k=(k=false):=rfl
def ahB (i:Int)(k:Bool):NA K (.int i) H k=(k=(i != 0)):=rfl
end
section
variable {X:Cx} {K:ζ} {a b o l:bS} {tb tl:TE} {t:TA} {p2:Pos} {f:Str} {lo hi:Option bS} {tlo thi:TO}
def aD (hK: ~~~(X.K=K)):fT X (binaryOp .Add) (DP K):=hK▸VO
def cq (hu:X.A.20+64 < cLine)(hK: ~~~(X.K=K)):fT X (compareOp .Eq) (J0 K):=hK▸Zu hu
def kI (hu:X.A.20+64 < cLine)(hK: ~~~(X.K=K)):fT X (compareOp .NotEq) (NX K):=hK▸Zv hu
def bF (hK: ~~~(X.K=K)):dJ X (.builtin "len") (NY K):=hK▸NR
def wG:dJ X (.builtin "ord") ahs:=NS
def E9:fT X (compareOp .Lt) rLt:=Zy
def mU:fT X (compareOp .LtE) rLe:=Zz
def bt (hK: ~~~(X.K=K)):dJ X (.builtin "isinstance") (iC K):=hK▸wE
def ib (hK: ~~~(X.K=K)):dJ X (.type "list") (Mu K):=hK▸E2
def V3 (hu:X.A.20+1 < cLine)(hK: ~~~(X.K=K)):QT X (u8 K):=hK▸ZA hu
def fN (hK: ~~~(X.K=K)):Vv X (ZB K):=hK▸ZC
def qJ (hu:X.A.20+1 < cLine)(hK: ~~~(X.K=K)):fT X (compareOp .In) (Sf K):=hK▸ZE hu
def wH (hu:X.A.20+1 < cLine)(hK: ~~~(X.K=K)):fT X (compareOp .NotIn) (ads K):=hK▸NU hu
def Au (hK: ~~~(X.K=K)):Xw X "str.join" (rJoin K):=hK▸VR
def aW (hl:PE X l tl)(hK: ~~~(X.K=K)):PI X tg l (ZF K tl):=hK▸ZG hl
def V4 (he:PE X e ta)(hb:attributeBase e f X.8 (eval e X.8)=eval e X.8)(hK: ~~~(X.K=K)):PE X (.Attribute e f pos) (Y2 K ta f):=hK▸Y3 he hb
def bc (ha:PE X a ta)(he:∀whole,isTrue a X.8 whole=(do let v <-whole;standAt a.pos;holding [v] (truthy v)))(hK: ~~~(X.K=K)) :
  PT X a (aht K ta):=hK▸RC ha he
def bx {id:String}{r:V->-V->Hp->VK->Prop}(pa:aov T)(slot:Slot T name id)(hty:typeOf (.builtin id)=pure (.type "method_descriptor"))(hm:Xw X id r)(ho:PE X o to)(ha:PA X (e::es) t)
  (GN: ~~~(attributeBase o name X.8 (eval o X.8)=eval o X.8))
  (RN:autoParam (((backTo gN (starEach (e::es) X.8)).all (λx=>!((x.1))) && (backToKw gN (keywordEach [] X.8)).all (λx=>x.1.11)
   && decide ((e::es).4+([]:-nj).4+(if ([]:-nj).45 then 0 else 1) < 30))=true) L2.ai._auto_1)
  (GO: ~~~((apos.66 == gN.60)=true)) (hs: ~~~(RH X e es)) (ui: ~~~((backTo gN (starEach es X.8)).any (·.1)=false)) (hK: ~~~(X.K=K)) :
  PE X (.Call (.Attribute o name apos) (e::es) [] gN) (tBM K T r to t):=hK▸ac4 pa slot hty hm ho ha GN RN GO hs ui
def jo {t:Xo}(hc:X.43=true)(h:PGs X es t)
  (hn: ~~~((assignEach es X.8).4=n)) (iA: ~~~((assignEach es X.8).findIdx? (·.1)=none)) (hK: ~~~(X.K=K)):PG X (.Tuple es k pos) (acH K n t):=hK▸YS hc h hn iA
end
section
variable {X:Cx}
def G0 :∀{us:-Ω},Vals (bs.map V.bl) us->LSm.BoolsAre us bs:=by
 induction bs with
 | nil=>intro us r;cases r;show .nil
 | cons a r ih=>
  intro us h;cases h with
  | cons h1 h2=>
   cases (h1);show .cons _ (ih h2)
abbrev Sl (K:ζ):-V->Hp->VK->Prop:=λxs H Q=>∃(p:Ν) (bs:-Bool),xs=[.ref p]/\fK K H p (bs.map V.bl)/\Q (.bl (bs.all id)) H
def J1 {h h':a9}(hk:∀b x,b∉[h.7]->(h.push o).get? b=!x->h'.get? b=!x):∀b x,h.get? b=!x->h'.get? b=!x:=
 λb x e=>hk b x (λhm=>by rw[Ζ.mp hm] at e;show fP _ (ύ e)) (Χ _ e)
def NZ (hc:X.43=true):dJ X (.builtin "all") (Sl X.K):=by
 intro pins s σ H xs us Q I r h;(revert h;show gI λp bs ϐ hq q=>?_;subst ϐ);(show Ϗ (vals1 r) λu ϐ ru=>?_;subst ϐ);cases ru;(show au (I.list hq) λbn rv pl hz=>?_);let hb:=G0 rv;let hl:=pl.18;let kz:p < s.5:=by (revert hl;show ay λ_ e _=>?_);show ύ e
 show call_all_walk (fg hl ?_)
 show(zT s.5 ([s.5,p]) ([s.5]) bn.19 _ _ (GD (λi=>(bs[i]?).getD true) rfl (abh (A:=X.A.93) (I.ok.hd hc) _ p (Ϫ kz) bn.10) 
  ⟨(ac _ (ϑ _ rfl) rfl rfl),hl.push _⟩ (λi v s' Q' E' hP hQ=>?_) (λh' tk hk=>?_)))
 ·(show Ϗ (hb.get i v (by simpa using hP)) λb e ϐ=>?_;subst ϐ)
  simp only[e,apV] at hQ;show cv hQ
 ·let e:((aU bn.19).all λi=>(bs[i]?).getD true)=bs.all id:=by
   rw[Ϟ,hb.4];show LSm.range_all bs
  rw[e];show(ϧ (.bl _) H (I.kept (J1 hk)) rfl q)
abbrev adu (K:ζ):-V->Hp->VK->Prop:=λxs H Q=>∃(p:Ν) (ns:-Int),xs=[.ref p]/\fK K H p (ns.map V.int)/\Q (.int ns.72) H
def N0 (hc:X.43=true):dJ X (.builtin "sum") (adu X.K):=by
 intro pins s σ H xs us Q I r h;(revert h;show gI λp ns ϐ hq q=>?_;subst ϐ);(show Ϗ (vals1 r) λu ϐ ru=>?_;subst ϐ);cases ru;(show au (I.list hq) λbn rv pl hz=>?_);let hi:=intsAre_of rv;obtain⟨xs,hx⟩:=hi.allInts.items;show sum_intListG (I.ok.hd hc) (hx▸pl.18) λh' tk t' hk=>?_;let e1:ns=xs.toList.map (·.1):=by
  rw[<-nums_intItems,<-hx];show(hi.numsOf).17
 let e2:preSum (numAt xs) xs.75=ns.72:=by
  rw[preSum_eq,fE ∅,e1]
 rw[e2];show(ϧ (.int _) H (I.kept hk) ⟨_,rfl⟩ q)
def kA {K:ζ}(hc: ~~~(X.43=true))(hK: ~~~(X.K=K)):dJ X (.builtin "all") (Sl K):=hK▸NZ hc
def N1 {K:ζ}(hc: ~~~(X.43=true))(hK: ~~~(X.K=K)):dJ X (.builtin "sum") (adu K):=hK▸N0 hc
def wI {K:ζ}{p:Ν}{bs:-Bool}(h:fK K H p (bs.map V.bl))(q:Q (.bl (bs.all id)) H):Sl K [.ref p] H Q:=(ϧ p bs rfl h q)
abbrev ahC:-V->Hp->VK->Prop:=λxs H Q=>∃i j,xs=[.int i,.int j]/\Q (.int (min i j)) H
def N3 (hc:X.43=true):dJ X (.builtin "min") ahC:=by
 intro pins s σ H xs us Q I r h;(revert h;show dB λi j ϐ q=>?_;subst ϐ);show NB hc pins s σ H _ us Q I r (cJ i j rfl ?_);rw[show(if j < i then j else i)=min i j by split<;>lk];show q
abbrev dU (i:Int):-Nat:=(toString i:Str).6
abbrev adv:-V->Hp->VK->Prop:=λxs H Q=>∃i,xs=[.int i]/\i.70 < 1920/\Q (.str (S (dU i))) H
def kB {K:ζ}:dJ X (.type "str") adv:=by
 intro pins s σ H xs us Q I r h;(revert h;show ia λi ϐ hz q=>?_;subst ϐ);show ES pins s σ H _ us Q I r (ac i rfl hz ?_);let e:(toString i:Str)=S (dU i):=Ap _;rw[e];show q
end
structure um (K:ζ)(x qual:Str)(st:ϩ)(f:Ν)(fd:fF)(items:-Ω):Prop where
 ex:∃(oc:Ω) (od:Option Ν) (kV doc pm:Ω) (an:Option Ν) (gX ct:Ω) (GA:Array (Option Ω)) (tD:Ν) (o:Obj) (n:Nat),
  fd=gp x qual (dF st) (cD st) (Υ st) (.ref tD) kV doc pm an gX ct/\K.lookup f=!⟨oc,od,.func fd,GA⟩/\qy K gX qual=true/\K.lookup tD=!o/\o.65=.seq items.10 n
 kp:ix K (.ref f)=true
section
variable {P:ah} {K:ζ} {base:a9}
def um.ok {st:ϩ}{items:-Ω}(F:um K x qual st f fd items)(S:ρ N ps (Υ st))(len:∀vs H Q E,sp vs H Q E->vs.4=ps.4)
  (Af:∀(gX:Ω) (A:sY) (outer:-Env) (s:ς) (H:Hp) (vs:-V) (Q:VK) (E:XK),ga k (A.deeper (envOfC qual (Υ st) s.5 f gX))->sp vs H Q E->
   ∃t,Je (Ae Jf P w K mg base N qual (Υ st) f gX A outer s H E).YO (cD st) t/\t { nx:=λ_ H'=>Q .bM H',rt:=Q } (start N vs) H):qv P w K mg base Jf (k+1) f fd ps sp:=by
 (show Rj F.ex λoc od kV doc pm an=>mf λgX ct GA tD o n=>yz λϐ lk zq _=>?_;subst ϐ);show Xv lk zq S len λA outer s H vs Q E hr oN=>?_;(show Ϗ (Af gX A outer s H vs Q E hr oN) λt h q=>?_);show(δ t h.YO q)
def um.binds {st:ϩ}{items:-Ω}(ds:-Ω)(m:Nat)(hm:m+ds.4=ps.4)(F:um K x qual st f fd items)
  (h:∀(tD:Ν) (kV doc pm:Ω) (an:Option Ν) (gX ct:Ω) (us:-Ω),us.4=m->
   ∃kk,bindArgs (gp x qual (dF st) (cD st) (Υ st) (.ref tD) kV doc pm an gX ct) ⟨us,[]⟩=seqItems? (.ref tD) >>= kk/\kk (!items.10)=pure (ps.zip (us++ds))):Binds K fd ps ds:=by
 (show Rj F.ex λoc od kV doc pm an=>mf λgX ct GA tD o n=>yw λϐ lk zq ho hs=>?_;subst ϐ);intro s us X hl;rw[Ρ] at hl;(show Ϗ (h tD kV doc pm an gX ct us ()) λkk h1 h2=>?_);show aoz rfl (X _ _ ho) hs h1 h2
def jp {st:ϩ}{kV:Ω}{td:Option Ν}{items:-Ω}
  (l:K.lookup f=!⟨oc,od,.func (gp x qual (dF st) (cD st) (Υ st) (.ref tD) kV doc pm an gX ct),GA⟩)
  (c:qy K gX qual=true) (k:ix K (.ref f)=true) (dl:K.lookup tD=!⟨tc,td,.seq items.10 tn,tsl⟩):um K x qual st f (gp x qual (dF st) (cD st) (Υ st) (.ref tD) kV doc pm an gX ct) items:=
 ⟨(zT oc od kV doc pm an (zT gX ct GA tD _ tn ⟨rfl,l,c,dl,rfl⟩)),k⟩
end
structure ϰ (A:-Ν)(H H':Hp):Prop where
 keep:∀b o,H b=!o->b∉A->H' b=!o
 tup:∀b xs,H b=!.tup xs->H' b=!.tup xs
def ϰ.refl {A:-Ν}(H:Hp):ϰ A H H:=⟨λ_ _ h _=>h,λ_ _ h=>h⟩
def ϰ.of_same {A:-Ν}(s:ι H H'):ϰ A H H':=⟨λb o h _=>s b o h,λb xs h=>s b _ h⟩
def ϰ.trans {A:-Ν}(x:ϰ A H H1)(y:ϰ A H1 H2):ϰ A H H2:=⟨λb o h n=>y.keep b o (x.keep b o h n) n,λb xs h=>y.tup b xs (x.tup b xs h)⟩
def ϰ.mono {A B:-Ν}(x:ϰ A H H')(h:∀b,b∈A->b∈B):ϰ B H H':=⟨λb o e n=>x.keep b o e λz=>n (h b z),x.tup⟩
def ϰ.upd {A:-Ν}(ha:a∈A)(hm:∀xs,H a≠!.tup xs):ϰ A H (L2.upd H a o):=by
 show⟨λb u e n=>?_,λb xs e=>?_⟩
 ·let hb:b≠a:=λz=>by subst z;show n ha
  rw[ν hb];show e
 ·let hb:b≠a:=λz=>by subst z;show hm xs e
  rw[ν hb];show e
def ϰ.new {A:-Ν}(ha:H a=none):ϰ A H (L2.upd H a o):=.of_same (ι.upd ha)
def d9 (h:H a=!.dK kvs):∀xs,H a≠!.tup xs:=λxs z=>by rw[h] at z;cases z
def gY {kvs:-V}(h:H a=!.lst kvs):∀xs,H a≠!.tup xs:=λxs z=>by rw[h] at z;cases z
def bZ (h:H a=!.ins C dx fs):∀xs,H a≠!.tup xs:=λxs z=>by rw[h] at z;cases z
def ve {K:ζ}(hl:fK K H a xs)(hn:xs.4<=sizeLine)(p:V->Bool)(f:V->V)
  (ht:∀x H',x∈xs->ι H H'->∀Qt,(∀kh,ι H' kh->Qt (p x) kh)->tt (some x::σ) H' Qt)
  (he:∀x H',x∈xs->p x=true->ι H H'->∀Qe,(∀kh,ι H' kh->Qe (f x) kh)->te (some x::σ) H' Qe)
  (hd:∀D H',H D=none->ι H H'->H' D=!.lst ((xs.filter p).map f)->Q (.ref D) H'):va (Mj K a) tt te σ H Q:=λD hD=>
 wF xs.4 hn hD (λi=>xs.getD i .bM) (λi=>f (xs.getD i .bM)) (λi=>p (xs.getD i .bM)) (λH' s=>(δ xs (s.seq hl) (ξ _)))
  (λi H' s h=>(cJ xs (xs[i]) (s.seq hl) ∅))
  (λi H' x kh s hi y=>by
   obtain⟨rfl,z⟩:=y;show⟨rfl,?_⟩;rw[Ϩ,z xs (s.seq hl)]
   rfl)
  (λi H' h s Qt q=>ht _ H' (by rw[Ϩ,Ε h];show oG h) s Qt q)
  (λi H' h hp s Qe q=>he _ H' (by rw[Ϩ,Ε h];show oG h) hp s Qe q)
  (λH' s h=>hd D H' hD s (by
   rw[h];congr 2;let e:(aU xs.4).map (λi=>xs.getD i .bM)=xs:=by
    show yp ∅ λi h1 h2=>?_;simp at h1 h2 ⊢;rw[Ε h2];rfl
   conv=>rhs;rw[<-e]
   rw[zN,Ϥ]
   rfl))
def Av {K:ζ}(hl:fK K H a xs)(hn:xs.4<=sizeLine)(f:V->V)
  (he:∀x H',x∈xs->ι H H'->∀Qe,(∀kh,ι H' kh->Qe (f x) kh)->te (some x::σ) H' Qe)
  (hd:∀D H',H D=none->ι H H'->H' D=!.lst (xs.map f)->Q (.ref D) H'):va (Mj K a) CO te σ H Q:=
 ve hl hn (λ_=>true) f (λx H' _ s Qt q=>q H' (ι.refl _)) (λx H' h _ s Qe q=>he x H' h s Qe q) (λD H' h s e=>hd D H' h s (by rw[jB] at e;show e))
def adw {l:-Ν}(h:l.13)(ha:l[i]?=!a)(hb:l[j]?=!b)(hij:i≠j):a≠b:=by
 intro e;subst e;obtain⟨hi,ea⟩:=Α.mp ha;obtain⟨hj,eb⟩:=Α.mp hb;let hp:=bv.mp h;rcases iy hij with q | q
 ·show hp i j hi hj q (ea.trans eb.17)
 ·show hp j i hj hi q (eb.trans ea.17)
section
variable {X:Cx} {s:ς} {h':a9}
def Inv.rW {l:-Ν}(I:Inv X pins σ H s)(k:∀b o,b∉l->s.heap.get? b=!o->h'.get? b=!o)(hf:∀b∈l,qr X pins H b):Inv X pins σ H { s with heap:=h',toks:=t' }:=by
 let nit:∀b u,H b=!u->b∉l:=λb u e z=>by rw[(hf b z).1] at e;cases e
 show I.step (λb hb=>?_) (λb o _ _ hc e _=>k b o hc e) (λb o _ _ hc e _=>⟨o.68,k b o hc e⟩) (λ_ _ _ _ n=>n)
  (λb o hc e=>⟨o,k b o hc e⟩) (λ_ _ e=>e) (λ_ _ _ e=>e) (λb ps e=>⟨#[],by rw[e];simp⟩) (λm hm=>?_) (λb u e=>?_) I.52
 ·(show CJ (hf b hb) λf0 f1 f2 f3 f4 f5=>?_)
  show⟨f3,f1,f4,f5⟩
 ·(revert hm;show GB λo es ep ho r=>?_)
  show(GC o es ep (k _ o (λz=>(hf _ z).2.1 rfl) ho) r)
 ·show(I.cx b u e).Jt (λc v hc q=>k c v ?_ q) (λ_ q=>q) λ_ _ q=>q
  rcases hc with z | z
  ·rw[z];show nit b u e
  ·show nit c _ z
def Inv.Sm {T:Ν}(I:Inv X pins σ H s)(f:qr X pins H T)(new:fW X.29 X.w (upd H T o) s.12 T o)(ht:∀xs,o=.tup xs->True):Inv X pins σ (upd H T o) { s with toks:=t' }:=by
 (revert f;show CG λf0 f1 f2 f3 f4 f5=>?_);show I.step (ch:=[T]) (λb hb=>?_) (λb ob _ _ hc e _=>e) (λb ob _ _ hc e _=>⟨ob.68,e⟩) (λb ob hc e n=>?_)
  (λb ob hc e=>⟨ob,e⟩) (λb xs e=>?_) (λb ob u e=>?_) (λb ps e=>⟨#[],?_⟩) (λm hm=>hm) (λb u e=>?_) I.52
 ·let e:b=T:=by simpa using hb
  subst e;show⟨f3,f1,f4,f5⟩
 ·rw[ν (λz=>hc (by simp[z]))];show n
 ·rw[ν (aj e f0)];show e
 ·rw[ν (aj e f0)];show e
 ·rw[ν (aj e f0),e];simp
 ·by_cases hb:b=T
  ·subst hb
   rw[Δ] at e;cases e;show new
  ·rw[ν hb] at e
   show(I.cx b u e).Jt (λc v _ q=>q) (λc q=>?_) λc xs q=>?_
   ·rw[ν (aj q f0)];show q
   ·rw[ν (aj q f0)];show q
end
abbrev Ite (K:ζ)(a:Ν):It:=
 ⟨λi H=>∃xs x,fK K H a xs/\xs[i]?=!x,
  λi H v H'=>∃T x,v=.ref T/\H T=none/\H'=upd H T (.tup [.int (i:Nat),x])/\∀xs,fK K H a xs->xs[i]?=!x,
  λi H=>∃xs,fK K H a xs/\xs.4<=i⟩
def N4 {P:ah}{K:ζ}(a e it:Ν)(hei:e≠it) :
  Turn P w K (.Tuple elts k0 pos) (Ite K a) [e,it] e (λi h=>(∃old,QN h e it ((i:Nat):Int) old)/\h.IsListIter it a i) where
 mem:=by simp
 obj:=λi h st c hc=>by
  obtain⟨⟨old,he⟩,⟨o1,e1,c1,d1⟩⟩:=st;simp only[Ι,Μ,ϖ] at hc;rcases hc with rfl | rfl
  ·show(δ _ he (λv q=>by cases q))
  ·show(δ _ e1 (λv q=>by rw[d1] at q;cases q))
 keep:=λi h h' st k=>by
  obtain⟨⟨old,he⟩,h1⟩:=st;show⟨⟨old,k _ ∅ _ he⟩,h1.at λo e=>k _ ∅ o e⟩
 item:=by
  intro X hP hw hK hc i pins s σ H E I hf st hg;subst hP hw hK;obtain⟨⟨old,he⟩,h1⟩:=st;(revert hg;show dB λxs x hx ex=>?_);(show au (I.list hx) λbn rv p _=>?_);(show Ϗ (rv.get ex) λu hu ru=>?_);show wpAny_pyNext_enum_item he h1 p.18 (by simpa using hu) hei λh' a1 a2 a3 a4 hk=>?_;show(δ _ rfl (I0 a1 λh'' ZP sb=>?_));let I2:Inv X pins σ (upd H s.5 (.tup [.int i,x])) { s with heap:=h'',toks:=s.23+1 }:=(I.rW (t':=s.23+1) (λc o hc q=>sb.extBut _ _ (λz=>hc (by simp[z])) (hk c o (λz=>hc (by simp[z])) (λz=>hc (by simp[z])) q)) hf).Sm (I.EQ (ξ _) I.71) ⟨(by show 2<=sizeLine;decide),(δ ([.int i s.23,u]) (.cons ⟨_,rfl⟩ (.cons ru .nil)) (ac _ (sb.extBut _ _ (fG (ύ he)) a3) rfl (qq _ rfl)))⟩ (λ_ _=>trivial);show(CI (.ref s.5) _ I2 rfl (fk _ x rfl I.71 rfl (λzs hq=>by rw[I.u0 hq hx];show ex)) ?_ (λc hc=>?_))
  ·show⟨⟨u,by rw[show(((i+1:Nat)):Int)=(i:Int)+1 by lk];show ZP⟩,a2.extBut sb.32 (ό hei)⟩
  ·let DN:c < s.5:=by
    (revert h1;show ay λo1 e1 _=>?_);simp only[Ι,Μ,ϖ] at hc;rcases hc with rfl | rfl
    ·show ύ he
    ·show ύ e1
   rw[ν (Ϫ DN)];show(hf c hc).1
 done:=by
  intro X hP hw hK hc i pins s σ H E I hf st hg;subst hP hw hK;obtain⟨⟨old,he⟩,h1⟩:=st;(revert hg;show ay λxs hx ady=>?_);(show au (I.list hx) λbn rv p _=>?_);let l1:=rv.4;show wpAny_pyNext_enum_end (I.ok.hd hc) he h1 p.18 (by simp;lk) λh' hk=>⟨rfl,(I.rW (λc o hc q=>hk c o (λz=>hc (by simp[z])) q) hf)⟩
 self:=λ_ _ _ _ _ st h=>by
  obtain⟨⟨old,he⟩,_⟩:=st;show qo he h
section
variable {X:Cx}
abbrev XQ (K:ζ)(ta:TA):TI:=λσ H R=>ta σ H λvs H1=>∃a xs,vs=[.ref a]/\fK K H1 a xs/\R (Ite K a) H1
def Sn {a:bS}{ta:TA}(hg:Gl X "enumerate")(hm:X.mg "enumerate"=none)(ha:PA X [a] ta)(hs: ~~~(starEach [a] X.8=[(false,eval a X.8)])) :
  PI X (.Tuple elts k0 Vc) (.Call (.Name "enumerate" p) [a] [] pos) (XQ X.K ta):=by
 intro pins s σ H R I h;show aeZ (kG I hg hm ae6 (ba (zW (ha pos pins s σ H _ I h) λus s1 vs H1 I1 r1 q1=>?_) hs rfl));(revert q1;show gI λl1 xs ϐ hx q=>?_;subst ϐ);(show Ϗ (vals1 r1) λu ϐ ru=>?_;subst ϐ);cases ru;(show au (I1.list hx) λbn rx px _=>?_);show call_enumerate_list px.18 λh' z1 z2 z3 hk=>qo z1 (EH _ _ _ _ H1 rfl (I1.kept hk) (N4 l1 _ _ (fG (fh _))) ⟨⟨_,z1⟩,z2⟩ (λc hc=>?_) q);let DN:s1.5<=c:=by
  simp only[Ι,Μ,ϖ] at hc;rcases hc with rfl | rfl<;>lk
 show I1.EQ DN (I1.cx.fresh DN)
def oR {K:ζ}{a:bS}{ta:TA}(hg:Gl X "enumerate")(hm:X.mg "enumerate"=none)(ha:PA X [a] ta)(hs: ~~~(starEach [a] X.8=[(false,eval a X.8)]))
  (hK: ~~~(X.K=K)):PI X (.Tuple elts k0 Vc) (.Call (.Name "enumerate" p) [a] [] pos) (XQ K ta):=hK▸Sn hg hm ha hs
end
def wJ {K:ζ}(Pv:Nat->St->Hp->Prop)(h0:Pv 0 σ H)(hl:∀i σ H,i<=xs.4->Pv i σ H->fK K H a xs)
  (hs:∀i x T σ H,xs[i]?=!x->H T=none->Pv i σ H->g (.ref T) σ (upd H T (.tup [.int (i:Nat),x])) λσ2 H2=>tb { D with nx:=Pv (i+1),ct:=Pv (i+1),bk:=D.nx } σ2 H2)
  (hd:∀σ H,Pv xs.4 σ H->D.nx σ H):GY (Ite K a) g tb D σ H:=by
 show(δ (λi m σ H=>m=xs.4 - i/\i<=xs.4/\Pv i σ H) (ac _ rfl (Ϝ _) h0) ?_)
 rintro i m σ H ⟨rfl,hi,p⟩
 let lx:=hl i σ H hi p
 by_cases kz:i < xs.4
 ·show .inr ⟨(cJ xs (xs[i]) lx ∅),(δ (Pv (i+1)) (λσ' H' p'=>(mh (xs.4 - (i+1)) () rfl kz p')) (λv H' y=>?_))⟩
  (revert y;show su λT x ϐ hT gO h1=>?_;subst ϐ;subst gO);show hs i x T σ _ (h1 xs lx) hT p
 ·let e:i=xs.4:=by lk
  subst e;show .inl ⟨(δ xs lx ()),hd σ H p⟩
abbrev ef (c k:Int):Int:=((c % 2147483647 * 48271+7919 * k+1) % 2147483647) * ((c % 2147483647 * 48271+7919 * k+1) % 2147483647) % 2147483647
def vf (c k:Int):0<=ef c k/\ef c k < 2147483647:=by unfold ef;lk
abbrev So:Sp:=aI λc=>aI λk=>aN λH Q _=>Q (.int (ef c k)) H
abbrev J2 (K:ζ):Sp:=aR λp=>aI λk=>aN λH Q _=>∃(ns:-Int),fK K H p (ns.map V.int)/\0<=k/\Q (.int (ns.getD k.9 0)) H
abbrev oS (c:Nat):Bool:=decide (32<=c) && decide (c<=126) && decide (c≠37)
abbrev Sq (K:ζ):Sp:=λvs H Q _=>∃(p:Ν) (ns:-Int),vs=[.ref p]/\fK K H p (ns.map V.int)/\ns.4<=63/\∀H',Q (.bl true) H'
def adz (a b:Nat):([a] < [b])↔a < b:=by
 rw[List.cons_lt_cons_iff];simp
def rX (hn:l.4<=sizeLine)(f:Nat->V)
  (he:∀c H',c∈l->ι H H'->∀Qe,(∀kh,ι H' kh->Qe (f c) kh)->te (some (.str (S [c]))::σ) H' Qe)
  (hd:∀D H',H D=none->ι H H'->H' D=!.lst (l.map f)->Q (.ref D) H'):va (VL (S l)) CO te σ H Q:=λD hD=>
 wF l.4 hn hD (λi=>.str (S [l.getD i 0])) (λi=>f (l.getD i 0)) (λ_=>true) (λ_ _=>by show(S l).22<=l.4;simp) (λi _ _ h=>by show i < (S l).22;simpa using h)
  (λi H' x kh _ hi y=>by
   (revert y;show ke λϐ=>ay λc hc gO=>?_;subst ϐ;subst gO);let Gm:l[i]?=!c:=by simpa using hc
   show⟨rfl,?_⟩;rw[Ϩ,Gm]
   rfl)
  (λi H' _ _ Qt q=>q H' (ι.refl _))
  (λi H' h _ s Qe q=>he _ H' (by rw[Ϩ,Ε h];show oG h) s Qe q)
  (λH' s h=>hd D H' hD s (by
   rw[jB] at h;rw[h];congr 2;show yp ∅ λi h1 h2=>?_;simp at h1 h2 ⊢;rw[Ε h2]
   rfl))
abbrev Sr (l:-Nat):Prop:=∀c∈l,c < 1114112
def kC {i:Int}(h0:-(((2 ^ 64))) < i)(h1:i < 2 ^ 64):i.70 < 1920:=by
 by_cases hz:i.99=0
 ·rw[hz];decide
 ·show Ϧ ((Nat.log2_lt hz).mpr (show i.99 < 2 ^ 64 by lk)) "!"
abbrev wd (n:Nat)(d:i5):Prop:=d.canLay0=true/\d.63<=n
def ZQ (n:Nat):wd n .none:=⟨rfl,Ϝ _⟩
def adA (n:Nat)(b:Bool):wd n (.bool b):=⟨rfl,Ϝ _⟩
def ZR (n:Nat)(i:Int):wd n (.int i):=⟨rfl,Ϝ _⟩
def Ss (n:Nat)(h:Sr l):wd n (.str (S l)):=by
 show⟨?_,Ϝ _⟩;show(S l).cps.all (· < 0x110000)=true;simp;show h
def J3 {n:Nat}:∀{ds:-i5},(∀d∈ds,wd n d)->L6 ds=true/\QO ds<=n
 | [],_=>⟨rfl,Ϝ _⟩
 | d::r,h=>by
  obtain⟨h1,h2⟩:=h d Ϭ;obtain⟨h3,h4⟩:=J3 (n:=n) (ds:=r) λx hx=>h x (ψ _ hx);show⟨?_,?_⟩
  ·rw[L6,h1,h3];rfl
  ·rw[QO];show Nat.max_le.mpr ⟨h2,h4⟩
def Mx {ds:-i5}(h:∀d∈ds,wd n d):wd (n+1) (.list ds):=by
 obtain⟨h1,h2⟩:=J3 h;show⟨by rw[Rf];show h1,by rw[U7];lk⟩
def Su {ds:-i5}(h:∀d∈ds,wd n d):wd (n+1) (.tuple ds):=by
 obtain⟨h1,h2⟩:=J3 h;show⟨by rw[Rf];show h1,by rw[U7];lk⟩
def wd.shaped {d:i5}(h:wd n d)(hn:autoParam (n<=64) L2.fR._auto_1):gE d=true:=by
 unfold gE;rw[h.1,ϱ (ϊ h.2 hn)];rfl
def DQ {K:ζ}{x:V}{d:i5}(h1:Den K H x d)(h2:Den K H y d)(hw:wd n d)(hr:(isRef x || isRef y)=true)(q:Q (.bl false) H)(hn:autoParam (n<=64) L2.fR._auto_1):NX K x y H Q:=
 ZK hr h1 h2 (hw.shaped hn) (hw.shaped hn) (by rw[Ux d hw.1];show q)
def N5 {K:ζ}{x:V}{d:i5}(h1:Den K H x d)(h2:Den K H y d)(hw:wd n d)(hr:(isRef x || isRef y)=true)(q:Q (.bl true) H)(hn:autoParam (n<=64) L2.fR._auto_1):J0 K x y H Q:=
 ZJ hr h1 h2 (hw.shaped hn) (hw.shaped hn) (by rw[Ux d hw.1];show q)
abbrev Sv:V->i5
 | .bl b=>.bool b
 | .int i=>.int i
 | .str x=>.str x
 | _=>.none
def Sw {K:ζ}(f:nK v=true):Den K H v (Sv v):=by
 cases v with
 | bM=>show .bM
 | bl b=>show .bl b
 | int i=>show .int i
 | str x=>show .str x
 | _=>show absurd (f) ώ
def qK {K:ζ}:∀{vs:-V},vs.all nK=true->uj K H vs (vs.map Sv)
 | [],_=>.nil
 | v::r,h=>by
  rw[EG,bd] at h;show .cons (Sw h.1) (qK h.2)
abbrev okV:V->Prop
 | .str x=>Sr x.6
 | _=>True
def V5 (n:Nat)(h:okV v):wd n (Sv v):=by
 cases v with
 | str x=>have:=Ss n h;rwa [<-Ap] at this
 | bl b=>show adA n b
 | int i=>show ZR n i
 | _=>show ZQ n
abbrev eV (H:Hp):-Ν->-(-V)->Prop:=Paired λt xs=>H t=!.tup xs
abbrev bb (H:Hp)(D:Ν)(rows:-(-V)):Prop:=∃ts,H D=!.lst (ts.map V.ref)/\eV H ts rows
def eV.bO {A:-Ν}(h:eV H ts rows)(c:ϰ A H H'):eV H' ts rows:=Paired.YI h λ_ _ e=>c.tup _ _ e
def bb.bO {A:-Ν}(h:bb H D rows)(c:ϰ A H H')(hD:D∉A):bb H' D rows:=by
 (revert h;show ay λts e t=>?_);show(δ ts (c.keep _ _ e hD) (t.bO c))
def bb.same (h:bb H D rows)(s:ι H H'):bb H' D rows:=h.bO (A:=[]) (ϰ.of_same s) ∅
def eV.get (h:eV H ts rows):∀{i:Nat} {t:Ν},ts[i]?=!t->∃xs,rows[i]?=!xs/\H t=!.tup xs:=by
 induction h with
 | nil=>intro i t e;simp at e
 | @cons a b as bs e r ih=>
  intro i t q;cases i with
  | zero=>simp at q;subst q;show(δ b rfl e)
  | succ i=>simpa using ih (by simpa using q)
def eV.length (h:eV H ts rows):ts.4=rows.4:=Paired.length h
def eV.snoc {t:Ν}(h:eV H ts rows)(e:H t=!.tup xs):eV H (ts++[t]) (rows++[xs]):=by
 induction h with
 | nil=>show .cons e .nil
 | cons e' r ih=>show .cons e' ih
noncomputable abbrev N6:=-Nat×Option (-Nat)×Int
abbrev wV:Option (-Nat)->V
 | none=>.bM
 | some l=>.str (S l)
abbrev Fa (x:N6):-V:=[.str (S x.1),wV x.2.1,.int x.2.2]
structure eX where
 first:Int
 last:Int
 drawn:Int
 L:Int->Option N6
abbrev Fb:eX:=⟨0,0,0,λ_=>none⟩
abbrev N7 (M:eX)(d:Ν):-(Str×V):=[("first",.int M.83),("end",.int M.24),("drawn",.int M.drawn),("letters",.ref d)]
abbrev Fc (H:Hp):Option N6->V->Prop
 | none,v=>v=.bM
 | some x,v=>∃t,v=.ref t/\H t=!.tup (Fa x)
abbrev kJ (H:Hp)(kvs:-(Key×V))(L:Int->Option N6):Prop:=∀p,Fc H (L p) ((a8 kvs (.inl p)).getD .bM)/\((a8 kvs (.inl p)).11=(L p).11)
def Fc.bO {A:-Ν}(c:ϰ A H H')(h:Fc H o v):Fc H' o v:=by
 cases o with
 | none=>show h
 | some x=>(revert h;show ay λt e ht=>?_);show(δ t e (c.tup _ _ ht))
def kJ.bO {A:-Ν}(c:ϰ A H H')(h:kJ H kvs L):kJ H' kvs L:=λp=>⟨(h p).1.bO c,(h p).2⟩
def kJ.put (h:kJ H kvs L){p:Int}{x:N6}{t:Ν}(ht:H t=Xg (.tup (Fa x))):kJ H (putK kvs (.inl p) (.ref t)) (λq=>if q=p then Xg x else L q):=by
 intro q;rw[jA]
 by_cases e:q=p
 ·subst e
  rw[ε rfl];dsimp only;rw[ε rfl];show⟨(δ t rfl ht),rfl⟩
 ·let e':¬(jI q:Key)=jI p:=λz=>e (hV z)
  rw[Ψ e'];dsimp only;rw[Ψ e];show h q
def DR [DecidableEq κ](kvs:-(κ×V))(k j:κ):a8 (gP kvs k) j=if j=k then xG else a8 kvs j:=by
 induction kvs with
 | nil=>rw[show gP ([]) k=[] from rfl,RT];split<;>rfl
 | cons p r ih=>
  by_cases e:p.1=k
  ·rw[NM e,ih]
   by_cases ej:j=k
   ·rw[ε ej,ε ej]
   ·rw[Ψ ej,Ψ ej,cK (λz=>ej (z.symm.trans e))]
  ·rw[NN e]
   by_cases ep:p.1=j
   ·rw[dC ep,dC ep,Ψ (λz=>e (ep.trans z))]
   ·rw[cK ep,cK ep,ih]
def kJ.drop (h:kJ H kvs L)(p:Int):kJ H (gP kvs (.inl p)) (λq=>if q=p then xG else L q):=by
 intro q;rw[DR]
 by_cases e:q=p
 ·subst e
  rw[ε rfl];dsimp only;rw[ε rfl];show⟨rfl,rfl⟩
 ·let e':¬(jI q:Key)=jI p:=λz=>e (hV z)
  rw[Ψ e'];dsimp only;rw[Ψ e];show h q
structure io (C:Ν)(H:Hp)(r d:Ν)(M:eX):Prop where
 obj:∃dx,H r=!.ins C dx (N7 M d)
 dict:∃kvs,H d=!.dK kvs/\(kvs.4:Int)<=M.24/\kJ H kvs M.L
 f0:0<=M.83
 fl:M.83<=M.24
 dr:0<=M.drawn
 within:∀p,(M.L p).11=true->M.83<=p/\p < M.24
def io.bO {A:-Ν}(h:io C H r d M)(c:ϰ A H H')(hr:r∉A)(hd:d∉A):io C H' r d M:=by
 obtain⟨dx,e⟩:=h.27;(show au h.59 λkvs e2 l t=>?_);show⟨⟨dx,c.keep _ _ e hr⟩,(ac kvs (c.keep _ _ e2 hd) l (t.bO c)),h.f0,h.fl,h.dr,h.within⟩
def io.ne (h:io C H r d M):r≠d:=by
 obtain⟨dx,e⟩:=h.27;(show Ϗ h.59 λkvs e2 _=>?_);show dQ e e2 (by intro z;cases z)
abbrev eX.add (M:eX)(x:N6):eX:={ M with last:=M.24+1,L:=λq=>if q=M.24 then some x else M.L q }
abbrev eX.out (M:eX)(p:Int):eX:={ M with L:=λq=>if q=p then none else M.L q }
abbrev G1 (C:Ν):Sp:=aR λx=>aN λH Q _=>∃dx,H x=!.ins C dx []/\∀d H',H d=none->d≠x->ϰ [x] H H'->io C H' x d Fb->Q .bM H'
abbrev J4 (C:Ν):Sp:=aR λr=>aT λz2=>aV λz3=>aI λz4=>aN λH Q _=>∃d M x,z2=x.1/\z3=wV x.2.1/\z4=x.2.2/\io C H r d M/\M.24<=100000/\∀H',ϰ [r,d] H H'->io C H' r d (M.add x)->Q (.int M.24) H'
abbrev J5 (C:Ν):Sp:=aR λr=>aI λp=>aN λH Q _=>∃d M,io C H r d M/\∀H',ϰ [d] H H'->io C H' r d (M.out p)->Q (.bl (M.L p).11) H'
def Sx (M:eX)(d:Ν):(N7 M d).lookup (Κ "end")=!.int M.24:=rfl
def vg (M:eX)(d:Ν):(N7 M d).lookup (Κ "letters")=!.ref d:=rfl
def Sy (M:eX)(d:Ν):(N7 M d).lookup (Κ "add")=none:=rfl
section
variable {X:Cx}
abbrev yC (lo:Int)(n:Nat):-V:=(aU n).map λ(i:Nat)=>V.int (lo+(i:Int))
abbrev ahG (ta:TA):TE:=λσ H Q=>ta σ H λvs H1=>∃i j,vs=[.int i,.int j]/\(-(((2 ^ 62)))<=i/\i < 2 ^ 62/\-(((2 ^ 62)))<=j/\j < 2 ^ 62)/\j - i<=sizeLine/\∀l,H1 l=none->Q (.ref l) (upd H1 l (.lst (yC i (j - i).9)))
def J6 {lo:Int}(h:ItemsOf (λi v=>∃t,v=.int (lo+i * 1) t) acc n):Vals (yC lo n) acc.34:=by
 obtain⟨hs,hv⟩:=h;let key:∀(k:Nat) l,l.4=k->∀lo:Int,(∀(j:Nat) v,l[j]?=!v->∃t,v=QF (lo+(j:Int) * 1) t)->Vals (yC lo k) l:=by
  intro k
  induction k with
  | zero=>intro l hl lo _;cases l with
   | nil=>show .nil
   | cons=>cases hl
  | succ k ih=>
   intro l hl lo hv;cases l with
   | nil=>cases hl
   | cons u us=>
    let e:yC lo (k+1)=V.int lo::yC (lo+1) k:=by
     unfold yC;rw[Gu,ϒ,Ϥ];congr 1
     ·simp
     ·show df λa _=>?_
      simp only[zO];congr 1
      lk
    rw[e];obtain⟨t,ht⟩:=hv 0 u rfl;show .cons ⟨t,by rw[ht];simp⟩ (ih us (by simpa using hl) (lo+1) λj v hj=>?_);obtain⟨t',ht'⟩:=hv (j+1) v (by simpa using hj);show⟨t',by rw[ht'];congr 1;push_cast;lk⟩
 show key n acc.34 (by simpa using hs) lo λj v hj=>by simpa using hv j v (by simpa using hj)
def G2 {lo hi:Int}{t u v:Tok}(hc:X.43=true)(I:Inv X pins σ H s)(h1:-(((2 ^ 62)))<=lo)(h2:lo < 2 ^ 62)(h3:-(((2 ^ 62)))<=hi)(h4:hi < 2 ^ 62)
  (hn:hi - lo<=sizeLine) (q:∀l,H l=none->Q (.ref l) (upd H l (.lst (yC lo (hi - lo).9)))) :
  wpAny X.mo X.A (call (.type "list") [.ref s.5]) (EP X pins σ Q) E { s with heap:=s.heap.push (Xk lo hi t u v),toks:=tk }:=by
 let I1:Inv X pins σ H { s with heap:=s.heap.push (Xk lo hi t u v),toks:=tk }:=I.kept λb o e=>Χ _ e;let e2:wn lo hi 1=(((hi - lo).9):Int):=by rw[agd];split<;>lk
 let hsl:sizeLine<=2 ^ 24:=by decide
 show call_list_range (I.ok.hd hc) (U3 ..) (apO h1 h2 h3 h4) e2 () λh' tk' V6 c' kp e V7=>?_;show(ϧ (.ref _) _ (I1.laid kp (ξ _) (show fW X.29 X.w _ h' _ (.lst _) from⟨by rw[yC];simp;lk,(cJ V6.34 c' (J6 V7) e)⟩)) rfl (q _ (I1.cx.fresh (ξ _))))
def CQ {a b:bS}{ta:TA}(hc:X.43=true)(hg':Gl X "list")(hm':X.mg "list"=none)(hg:Gl X "range")(hm:X.mg "range"=none)(ha:PA X [a,b] ta)
  (hs: ~~~(starEach [a,b] X.8=[(false,eval a X.8),(false,eval b X.8)])) (UG: ~~~(starEach [b] X.8=[(false,eval b X.8)]))
  (he: ~~~(starEach [.Call (.Name "range" p) [a,b] [] pos] X.8=[(false,eval (.Call (.Name "range" p) [a,b] [] pos) X.8)])) :
  PE X (.Call (.Name "list" p') [.Call (.Name "range" p) [a,b] [] pos] [] pos') (ahG ta):=by
 intro pins s σ H Q I h;show bW (kG I hg' hm' ij (ba ?_ he rfl) "!" "!");show aM (aeZ (kG I hg hm aos (ba (zW (ha pos pins s σ H _ I h) λus s1 vs H1 I1 r1 q1=>?_) (by rw[hs,UG]) (by rw[UG];rfl))));(revert q1;show su λi j e ϐ q5 q=>?_;obtain ⟨q1,q2,q3,q4⟩:=ϐ);subst e;cases r1 with
 | cons r rr=>
  cases rr with
  | cons r' rr=>
   cases rr;obtain⟨t,rfl⟩:=r;obtain⟨t',rfl⟩:=r';show call_range_2 (cf (G2 hc I1 q1 q2 q3 q4 q5 q))
end
abbrev J7 (l:-Str)(x:Str):-Str:=if l.any (· == x) then l else l++[x]
abbrev iE (l:-Str):-Str:=l.foldl J7 []
def kK (l:-Str)(x:Str):iE (l++[x])=J7 (iE l) x:=by simp[iE]
def N8:∀n l,l.4=n->∀k,(iE l).any (· == k)=l.any (· == k):=by
 intro n
 induction n with
 | zero=>intro l hl k;cases l with
  | nil=>rfl
  | cons=>cases hl
 | succ n ih=>
  intro l hl k;obtain⟨m,x,rfl⟩:∃m x,l=m++[x]:=⟨l.84,l.getLast (by intro z;rw[z] at hl;cases hl),(kc _).17⟩
  let hm:m.4=n:=by simpa using hl
  rw[kK,zP];unfold J7
  split
  ·rename_i h
   rw[ih m hm] at h ⊢
   by_cases e:x=k
   ·subst e;rw[h];simp
   ·simp[e]
  ·rw[zP,ih m hm]
def vh:∀n l,l.4=n->(iE l).4<=n:=by
 intro n
 induction n with
 | zero=>intro l hl;cases l with
  | nil=>show ξ _
  | cons=>cases hl
 | succ n ih=>
  intro l hl;obtain⟨m,x,rfl⟩:∃m x,l=m++[x]:=⟨l.84,l.getLast (by intro z;rw[z] at hl;cases hl),(kc _).17⟩
  have:=ih m (by simpa using hl);rw[kK];unfold J7
  split
  ·lk
  ·rw[Ρ,ϯ];lk
def G5:∀n l,l.4=n->l.13->(iE l).4=n:=by
 intro n
 induction n with
 | zero=>intro l hl;cases l with
  | nil=>intro _;rfl
  | cons=>cases hl
 | succ n ih=>
  intro l hl hd;obtain⟨m,x,rfl⟩:∃m x,l=m++[x]:=⟨l.84,l.getLast (by intro z;rw[z] at hl;cases hl),(kc _).17⟩
  let hm:m.4=n:=by simpa using hl
  let hx:=λz=>by
   have:=ϗ.mp hd;show this.2.2 x z x ∅ rfl
  rw[kK];unfold J7;rw[Ψ,Ρ,ih m hm (ϗ.mp hd).1,ϯ];rw[N8 n m hm];intro z;(show Ϗ (yq.mp z) λy hy e=>?_);show hx (by rw[<-eq_of_beq e];show hy)
section
variable {s:ς}
def G6 {K:Type}[DecidableEq K][BEq K][LawfulBEq K]{knd:KeyKind prog w K}{h:a9}{S S':K->Bool}(hS:h.SetOf knd a S n)(e:∀k,S k=S' k)(en:n=n'):h.SetOf knd a S' n':=by
 rw[<-funext e,<-en];show hS
def N9 {I S:Ν}{ls:-Str}{P:Nat->Ω->Prop}{St:Nat->ς->Prop}(W:WalksS prog w A.93 I fp wr G ls.4 P St)(hSf:S∉fp)
  (ahI:∀i v,P i v->∃x t,ls[i]?=!x/\v=.str x t) (hb:ls.4+1 < scanBound) :
  ∀(k i:Nat) (s:ς),ls.4 - i=k->i<=ls.4->St i s->
   s.heap.SetOf (strKind prog w) S (λx=>(iE (ls.take i)).any (· == x)) (iE (ls.take i)).4->
   (∀s',Moved (S::wr) G s s'->s'.heap.SetOf (strKind prog w) S (λx=>(iE ls).any (· == x)) (iE ls).4->R (.ok (.ret .none)) s')->
   codeAny (model prog w) A (.builtin "set.update.loop" ⟨[.ref S,.ref I],[]⟩) R s:=by
 let hSw:=λh=>hSf (W.sub _ h);let N':∀b∈wr,b∈S::wr:=λb hb=>ψ _ hb;let carry:∀{T:Str->Bool} {m:Nat} {s s':ς},Moved wr G s s'->s.heap.SetOf (strKind prog w) S T m->s'.heap.SetOf (strKind prog w) S T m:=by
  rintro T m s s' hm ⟨o,es,ep,t,ho,rest⟩
  show(CH o es ep t (hm.heap S _ hSw ho) rest)
 intro k
 induction k with
 | zero=>
  intro i s hk hi iA hS hR;let Sz:i=ls.4:=by lk
  show ue nC ?_;rw[Sz] at iA hS;rw[ϴ] at hS;show θ (W.done s _ _ iA λs' hm=>ϫ (hR s' (hm.mono N') (carry hm hS)))
 | succ k ih=>
  intro i s hk hi iA hS hR;show ue nC (θ (W.item i s _ _ () iA λv s' hP SA hm=>?_));(show zU (ahI i v hP) λx t hx ϐ=>?_;subst ϐ);let hS':=carry hm hS;show θ (iU (iU ?_));show θ ((strKind prog w).pyHash (aoA _ _ _ _) ?_);let adD:(iE (ls.take i)).4+1 < scanBound:=by
   have:=vh _ (ls.take i) rfl;rw[af] at this;lk
  show wpAny_setAddHashed_of (aoA _ _ _ _) rfl hS' adD λh' hsb hS2=>?_;let et:ls.take (i+1)=ls.take i++[x]:=by rw[U8,hx];rfl
  let hSi:h'.SetOf (strKind prog w) S (λy=>(iE (ls.take (i+1))).any (· == y)) (iE (ls.take (i+1))).4:=by
   show G6 hS2 (λy=>?_) ?_
   ·rw[et,kK]
    unfold J7
    by_cases h:(iE (ls.take i)).any (· == x)=true
    ·rw[ε h]
     by_cases e:y=x
     ·subst e;rw[h];rfl
     ·simp[e]
    ·rw[Ψ h,zP]
     by_cases e:y=x
     ·subst e;simp
     ·let e':¬x=y:=λz=>e z.17
      simp[e,e']
   ·rw[et,kK]
    unfold J7
    split<;>simp
  show ϫ ⟨plainId_quiet Yx _,ih (i+1) _ () () (W.frame _ s' _ _ SA (gD _) λb hb o e=>?_) hSi λUH ahK ahL=>?_⟩
  ·rw[hsb.2 b (λh:b=S=>hSf (by rw[<-h];show hb))];show e
  ·show hR UH (Moved.trans W.gtrans ((hm.mono N').then_heap (gD _) λb o hb e=>?_) ahK) ahL
   rw[hsb.2 b (λh:b=S=>hb (by rw[h];show Ϭ))];show e
end
section
variable {s:ς}
abbrev gc (led:Bool):Obj:={ cls:=.type "set",dict:=none,data:=.set #[] 0 (.fresh 0 0 led) }
abbrev zC (prog:ah)(w:dX)(s:ς)(ls:-Str)(s₂:ς):Prop:=∃h' tk,s₂={ s with heap:=h',toks:=tk }/\h'.SetOf (strKind prog w) s.5 (λx=>(iE ls).any (· == x)) (iE ls).4/\
 ∀b o,s.heap.get? b=!o->h'.get? b=!o
def Oa {ls:-Str}(hh:A.41=none)(hl:s.heap.IsList l items)(hs:items.75=ls.4)(hi:∀(i:Nat) (v:Ω),items[i]?=!v->∃x t,ls[i]?=!x/\v=.str x t)(hb:ls.4+1 < scanBound) :
  wpAny (model prog w) A.in1.93 (Gv.«set.__init__» ⟨[.ref s.5,.ref l],[]⟩)
   (λfin s'=>match fin with | .done f=>wants (λr s₂=>r=.none/\zC prog w s ls s₂) E (.ok f) s' | .again c'=>c'.quiet=true/\codeAny (model prog w) A.93 c' (wants (λr s₂=>r=.none/\zC prog w s ls s₂) E) s')
   (λe s'=>wants (λr s₂=>r=.none/\zC prog w s ls s₂) E (.error e) s') { s with heap:=s.heap.push (gc led) }:=by
 (show au (id hl) λϐ ZS DN=>uf λnl Go=>?_;obtain ⟨amh,adE,ajZ,ZT⟩:=ϐ);subst DN;subst Go;let hlS:=ύ ZS;let ahM:(s.heap.push (gc led)).get? l=some { cls:=.type "list",dict:=adE,data:=.seq items nl,slots:=ZT }:=Χ _ ZS;let hS:(s.heap.push (gc led)).get? s.5=!gc led:=ϑ _ rfl;let J8:(s.heap.push (gc led)).IsList l items:=(ac _ ahM rfl (qq nl rfl))
 let ami:=PySem.F.sub_list_set;let amj:=PySem.F.sub_list_frozenset;let SD:(Cr "list" == Cr "dict")=false:=by decide
 unfold Gv.«set.__init__» noKeywords Uy;generalize hPI:pyIter=PI
 wp_walk
 subst hPI;show fg J8 (θ (wpAny_runValue ?_));let ahN:l≠(s.heap.push (gc led)).7:=by rw[bp];show Ϫ (xH hlS)
 let hSf:s.5∉[(s.heap.push (gc led)).7,l]:=by
  rw[bp];simp only[Ι,Μ,ϖ,yr];show⟨Ϫ (fh _),fG hlS⟩
 let W:=(abh (prog:=prog) (w:=w) (A:=A.in1.in1.93) (by simp[hh]) _ l ahN items).toS;rw[hs] at W;show N9 W hSf hi hb (ls.4 - 0) 0 _ () (Ϝ _) ⟨(ac _ (ϑ _ rfl) rfl rfl),(J8.push _)⟩ ?_ λs' hm hS'=>?_
 ·show G6 ((acd led).setOf (Χ _ hS) (by unfold scanBound;lk)) (λ_=>rfl) rfl
 ·obtain⟨h',g',d',tk',os'⟩:=s'
  let eg:=hm.69;let ed:=hm.drawn;let eo:=hm.os;subst eg;subst ed;subst eo;change wpAny _ _ _ _ _ _;show ϫ ?_;change wpAny _ _ (ret Cq) _ _ _;show ϫ ⟨rfl,(ϧ h' tk' rfl hS' (λb o e=>?_))⟩;let UP:=ύ e;show hm.heap b o ?_ (Χ _ (Χ _ e));rw[bp];simp only[Ι,Μ,ϖ,yr];show⟨Ϫ UP,Ϫ (xH UP)⟩
def Ob {ls:-Str}{Q:Ω->ς->Prop}(hh:A.41=none)(hl:s.heap.IsList l items)(hs:items.75=ls.4)(hi:∀(i:Nat) v,items[i]?=!v->∃x t,ls[i]?=!x/\v=.str x t)(hb:ls.4+1 < scanBound)
  (h:∀s',zC prog w s ls s'->Q (.ref s.5) s'):wpAny (model prog w) A (call (.type "set") [.ref l]) Q E s:=by
 let ft:=PySem.F.called_set;(show Ri ft.mro λc tl ahO=>?_);let adF:=ft.made;let N':=ft.sub;show IY (ace (ϫ ⟨Nd _ (s!"d"),ue PySem.F.entry_type_call ?_⟩))
 repeat (any_goals (first | assumption | wp_step))
 show ii (code_set_new_1 (.ref l) (E:=E) (Q₁:=λobj s₁=>∃led,obj=.ref s.5/\s₁={ s with heap:=s.heap.push (gc led) }) λled=>(δ led rfl rfl)) λr s₁ hr=>?_;cases r with
 | error e=>show hr
 | ok fl=>
  cases fl with
  | ret obj=>
   (revert hr;show ay λled ϐ gO=>?_;subst ϐ;subst gO);let hS:(s.heap.push (gc led)).get? s.5=!gc led:=ϑ _ rfl;let hT:apW { s with heap:=s.heap.push (gc led) } (.ref s.5) "set":=(δ _ hS rfl)
   let hli:=ft.init.82;let hbi:=ft.init.bind (.ref s.5)
   repeat (any_goals (first | assumption | wp_step))
   show ii (wk ft.init.plain PySem.F.entry_set_init (check_set_init_1 hT (Oa (E:=E) hh hl hs hi hb))) λr₂ s₂ ZU=>?_;cases r₂ with
   | error e=>show ZU
   | ok ahP=>
    cases ahP with
    | ret r=>
     obtain⟨rfl,hd⟩:=ZU
     repeat (any_goals (first | assumption | wp_step))
     show h _ hd
    | _=>show ZU.38
  | _=>show hr.38
end
section
variable {X:Cx}
def My:∀{ls:-Str} {us:-Ω},Vals (ls.map V.str) us->∀(i:Nat) (v:Ω),us[i]?=!v->∃x t,ls[i]?=!x/\v=.str x t
 | [],us,r,i,v,h=>by cases r;simp at h
 | x::ls,us,r,i,v,h=>by
  cases r with
  | cons r1 r2=>
   cases i with
   | zero=>obtain⟨t,rfl⟩:=r1;simp at h;show(cJ x t rfl h.17)
   | succ i=>simpa using My r2 i v (by simpa using h)
abbrev V8 (K:ζ)(te:TE):TE:=λσ H Q=>te σ H λx H1=>∃p ls,x=.ref p/\fK K H1 p (ls.map V.str)/\ls.4<=4000/\Q (.int (iE ls).4) H1
def Oc {K:ζ}(hc:X.43=true)(hg':Gl X "len")(hm':X.mg "len"=none)(hg:Gl X "set")(hm:X.mg "set"=none)(hE:PE X e te)(hK: ~~~(X.K=K))
  (hs: ~~~(starEach [e] X.8=[(false,eval e X.8)]))
  (he: ~~~(starEach [.Call (.Name "set" p) [e] [] pos] X.8=[(false,eval (.Call (.Name "set" p) [e] [] pos) X.8)])) :
  PE X (.Call (.Name "len" p') [.Call (.Name "set" p) [e] [] pos] [] pos') (V8 K te):=by
 subst hK;intro pins s σ H Q I h;show bW (kG I hg' hm' cY (sr ?_ he rfl) "!" "!");show aM (aeZ (kG I hg hm boot_set (ba ?_ hs rfl)));rw[hs];show aM (dM (hE pins s σ H _ I h) λu s1 v H1 I1 r1 q1=>?_);(revert q1;show su λa ls ϐ hq hl q=>?_;subst ϐ);cases r1;(show au (I1.list hq) λbn rv pl hz=>?_);let hlen:bn.4=ls.4:=by have:=rv.4;simpa using this.17
 show cf (Ob (I1.ok.hd hc) pl.18 (by simpa using hlen) (λi v hi=>My rv i v (by simpa using hi)) (by rw[show scanBound=4096 from rfl];lk) λs2 hd=>?_);(revert hd;show gI λh' tk ϐ hS kp=>?_;subst ϐ);let I2:Inv X pins σ H1 { s1 with heap:=h',toks:=tk }:=I1.kept kp;(revert hS;show oK λo es ep t ho=>CG λhex hd Mr amm hb=>ke λhf hn=>?_);let hle:=vh _ ls rfl;show cf (call_len_set ho hex hd hf () ?_);rw[hn];show(ϧ (.int (iE ls).4) H1 (I2.tok _) ⟨_,rfl⟩ q)
abbrev Fd (K:ζ)(mg:Str->Option Ω)(x:Str)(xs:-V):Prop:=∃p,mg x=!.ref p/\∀H,iV K H p xs
abbrev tCT (K:ζ)(xs:-V):TE:=λ_ H Q=>∀p,(∀H',iV K H' p xs)->Q (.ref p) H
def wK {K:ζ}(c:Fd K X.mg x xs)(hg: ~~~(Gl X x))(hd:autoParam (EM x) L2.fR._auto_1):PE X (.Name x pos) (tCT K xs):=by
 intro pins s σ H Q I h;(revert c;show ay λp hm hq=>?_);show EN (v:=.ref p) hg hm rfl hd pins s σ H Q I (h p hq)
end
section
variable {X:Cx} {xs:-Str} {y:Str} {N M:-Str} {wi:TI} {g:TG}
def Od (pF:X.43=true)(hX:X.N=N)(Gn:X.16=sc)(O:rS N M sc xs scope)(hi:PI X tg iter wi)
  (QU:HtA X (sv X xs scope M) ifs tt)
  (Mr:∀C s₀ H₀ fp,PE (sv X xs scope M C s₀ H₀ fp) elt te) (hg:∀C s₀ H₀ fp,PG (sv X xs scope M C s₀ H₀ fp) tg g) (hs:autoParam (FsI X iter) L2.Nn._auto_1) :
  PE X (.ListComp elt [⟨tg,iter,ifs,0⟩] scope pos) (JV xs.4 wi g tt te):=by
 intro pins s σ H Q I h;let DN:=Ao λz hz hf=>by
  let q:=O.free z hz hf;rw[<-Gn] at q;show I.ok.has z.1 q
 show L0 rfl hs DN O.57 O.31 (iZ (hi pins s σ H _ I h) λv s1 h1=>iZ h1 λitv s2 h2=>?_);(revert h2;show Ni λit fp tn J H2 e I2 T UF f2 q2=>?_);subst e;show xS pF hX Gn O QU Mr hg I2 T UF f2 (λD hD=>q2 D hD) ?_;intro D C H' s' I' hC hm q';obtain⟨m,hm⟩:=hm;(revert hC;show CG λc0 c1 c2 c3 c4 c5=>?_);show(δ m hm (λh' VI=>(ϧ (.ref D) H' (I'.turned (λb o hb e=>VI.extBut b o hb e) c0 c1 c3 c4 c5) rfl q')))
def G7 (N M:-Str)(sc:rN)(xs:-Str)(O:rS N M sc xs scope)(hi:PI X tg iter wi)(hg:∀C s₀ H₀ fp,PG (sv X xs scope M C s₀ H₀ fp) tg g)(Mr:∀C s₀ H₀ fp,PE (sv X xs scope M C s₀ H₀ fp) elt te)
  (pF: ~~~(X.43=true)) (hX: ~~~(X.N=N)) (Gn: ~~~(X.16=sc)) (hs:autoParam (FsI X iter) L2.Nn._auto_1) :
  PE X (.ListComp elt [⟨tg,iter,[],0⟩] scope pos) (JV xs.4 wi g CO te):=
 Od pF hX Gn O hi (λC s₀ H₀ fp pins s σ H Q I h=>acb (δ H I h)) Mr hg hs
end
abbrev V9 (n:Nat)(l:-Nat):-Nat:=(dH n l).30
def wL (xs:-(Array Nat)):∀a,(xs.foldl (·++·) a).34=a.34++(xs.map wj).30:=by
 induction xs with
 | nil=>intro a;simp
 | cons x r ih=>intro a;rw[Uz,ih];simp
def adH (l:-Nat)(n:Int):Txt.mul (S l) n=S (V9 n.9 l):=by
 unfold Txt.mul V9
 by_cases h1:n < 1
 ·rw[ε h1]
  have:n.9=0:=by lk
  rw[this];rfl
 ·rw[Ψ h1]
  by_cases h2:(n == 1 || (S l).4 == 0)=true
  ·rw[ε h2]
   rw[Bool.or_eq_true] at h2;rcases h2 with h2 | h2
   ·have:n=1:=by simpa using h2
    subst this;simp
   ·have:l=[]:=by
     have:(S l).4=0:=by simpa using h2
     show List.length_eq_zero_iff.mp this
    subst this;congr 1;simp
  ·rw[Ψ h2]
   congr 1;apply Array.toList_inj.mp;rw[wL];simp
abbrev XR:R2:=λx y H Q=>∃l n,x=.str (S l)/\y=.int n/\-(((2 ^ 62)))<=n/\n<=65536/\l.4<=200/\Q (.str (S (V9 n.9 l))) H
section
variable {X:Cx}
def V':fT X (binaryOp .Mult) XR:=by
 intro pins s σ H x y v u Q I rx ry h;(revert h;show yx λl n ϐ gO h0 h1=>ke λhl q=>?_;subst ϐ;subst gO);obtain⟨t,rfl⟩:=rx;obtain⟨t',rfl⟩:=ry;show SB.mul ⟨?_,λh2 _=>?_,λh2 _=>?_⟩ λt'' k=>(ϧ (.str (S (V9 n.9 l))) H (I.tok k) ⟨t'',by rw[adH]⟩ q)
 ·rw[ae (),ae ()];rfl
 ·rw[my]
  intro h3;let h4:(2 ^ 63 - 1:Int) / n≥(2 ^ 63 - 1) / 65536:=by
   show Int.le_ediv_of_mul_le () ?_
   lk
  lk
 ·rw[my]
  let h3:l.4 * n.9<=200 * 65536:=Nat.mul_le_mul hl ();let e:ae7 (l.4 * n.9)=decide (l.4 * n.9 > sizeLine):=rfl;rw[e,ae];rw[qm];lk
abbrev XS:R2:=u4 (rI Rq λi j=>.int (i * j)) XR
def rY:fT X (binaryOp .Mult) XS:=YY.i2 V'
def afr (i j:Int):XS (.int i) (.int j) H Q=(Rq i j/\Q (.int (i * j)) H):=rfl
end
abbrev CS (H:Hp):V->-V
 | .ref t=>match H t with
  | some (.tup xs)=>xs
  | _=>[]
 | _=>[]
def eV.comp (h:eV H ts rows)(q:-V->Bool)(g:-V->V):((ts.map V.ref).filter λx=>q (CS H x)).map (λx=>g (CS H x))=(rows.filter q).map g:=by
 induction h with
 | nil=>rfl
 | @cons t xs ts' aj1 e _ ih=>
  let et:CS H (.ref t)=xs:=by simp only[CS,e]
  simp only[ϒ,jx,et];cases q xs with
  | true=>simp only[if_true,ϒ,et];rw[ih]
  | false=>simpa using ih
def eV.mem (h:eV H ts rows){x:V}(hx:x∈ts.map V.ref):∃t xs,x=.ref t/\xs∈rows/\H t=!.tup xs:=by
 (show Ϗ (μ.mp hx) λt ht ϐ=>?_;subst ϐ);obtain⟨i,hi⟩:=ϛ ht;(show Ϗ (h.get hi) λxs h1 h2=>?_);show(ϧ t xs rfl (Β h1) h2)
def Fe {K:ζ}(hl:bb H a rows)(hn:rows.4<=sizeLine)(q:-V->Bool)(g:-V->V)
  (ht:∀t xs H',xs∈rows->ι H H'->H' t=!.tup xs->∀Qt,(∀kh,ι H' kh->Qt (q xs) kh)->tt (some (.ref t)::σ) H' Qt)
  (he:∀t xs H',xs∈rows->ι H H'->H' t=!.tup xs->∀Qe,(∀kh,ι H' kh->Qe (g xs) kh)->te (some (.ref t)::σ) H' Qe)
  (hd:∀D H',H D=none->ι H H'->H' D=!.lst ((rows.filter q).map g)->Q (.ref D) H'):va (Mj K a) tt te σ H Q:=by
 (revert hl;show ay λts e hT=>?_);show ve (.inl (.inl e)) (by rw[Η,hT.4];show hn) (λx=>q (CS H x)) (λx=>g (CS H x)) ?_ ?_ ?_
 ·intro x H' hx s Qt qt
  (show kf (hT.mem hx) λt xs ϐ hm h1=>?_;subst ϐ);let et:CS H (.ref t)=xs:=by simp only[CS,h1]
  rw[et] at qt;show ht t xs H' hm s (s _ _ h1) Qt qt
 ·intro x H' hx _ s Qe qe
  (show kf (hT.mem hx) λt xs ϐ hm h1=>?_;subst ϐ);let et:CS H (.ref t)=xs:=by simp only[CS,h1]
  rw[et] at qe;show he t xs H' hm s (s _ _ h1) Qe qe
 ·intro D H' hD s h
  show hd D H' hD s ?_;rw[h,hT.comp]
def uo {K:ζ}(hl:bb H a rows)(hn:rows.4<=sizeLine)(g:-V->V)
  (he:∀t xs H',xs∈rows->ι H H'->H' t=!.tup xs->∀Qe,(∀kh,ι H' kh->Qe (g xs) kh)->te (some (.ref t)::σ) H' Qe)
  (hd:∀D H',H D=none->ι H H'->H' D=!.lst (rows.map g)->Q (.ref D) H'):va (Mj K a) CO te σ H Q:=
 Fe hl hn (λ_=>true) g (λt xs H' _ s _ Qt qt=>qt H' (ι.refl _)) he (λD H' h s e=>hd D H' h s (by rw[jB] at e;show e))
abbrev T36:-Nat:=[97,98,99,100,101,102,103,104,105,106,107,108,109,110,111,112,113,114,115,116,117,118,119,120,121,122,48,49,50,51,52,53,54,55,56,57]
def ZV:"abcdefghijklmnopqrstuvwxyz0123456789"=S T36:=by decide +kernel
abbrev inN (c:Nat):Bool:=decide (c∈T36)
def Wa (l:-Nat)(c:Nat):JY (S l) (S [c])=decide (c∈l):=by
 have:=PySem.StrLaws.found_one (S l) c;unfold JY;show this.trans ∅
abbrev Fm (l:-Nat)(a b:Nat)(p:Nat->Bool):Prop:=a<=l.4/\l.4<=b/\∀c∈l,p c=true
abbrev J9:Sp:=aT λl=>aI λlo=>aI λhi=>aN λH Q _=>l.4<=1000/\lo<=(l.4:Int)/\(l.4:Int)<=hi/\Q (.bl true) H
abbrev J':Sp:=aT λl=>aN λH Q _=>Fm l 1 12 inN/\∀H',ι H H'->Q (.bl true) H'
abbrev G8:Sp:=aI λi=>aI λlo=>aI λhi=>aN λH Q _=>lo<=i/\i<=hi/\Q (.bl true) H
def all_true {l:-Nat}:((l.map λ_=>true).all id)=true:=by simp
abbrev DS (l:-Nat):Int:=l.foldl (λh (c:Nat)=>zd (h * 37+(c:Int)) 65535) 1
abbrev Ka (l:-Nat):Int:=QG (DS l) (DS l / 2 ^ (8:Int).9)
def Kb {c:Nat}(h:(S l).cps[i]?=!c):DS (l.take (i+1))=zd (DS (l.take i) * 37+(c:Int)) 65535:=by
 let h':l[i]?=!c:=by simpa using h
 rw[cR,h'];simp[DS,nv]
structure l6 where
 name:-Nat
 rows:Nat
 kind:Str
abbrev l6.v (x:l6):-V:=[.str (S x.47),.int x.42,.str x.57]
abbrev Mz (x:l6):Prop:=(1<=x.name.4/\x.name.4<=12/\x.name.all inN=true)/\(1<=x.42/\x.42<=9)/\(x.57=Κ "table" \/ x.57=Κ "stream")
structure iF (xs:-l6):Prop where
 lo:1<=xs.4
 hi:xs.4<=6
 each:∀x∈xs,Mz x
 nd:(xs.map l6.name).13
structure Aw (C:Ν)(H:Hp)(s l:Ν)(xs:-l6):Prop where
 obj:∃dx,H s=!.ins C dx [("shelves",.ref l)]
 lst:bb H l (xs.map l6.v)
def Aw.bO {A:-Ν}{xs:-l6}(h:Aw C H s l xs)(c:ϰ A H H')(hs:s∉A)(hl:l∉A):Aw C H' s l xs:=by
 obtain⟨dx,e⟩:=h.27;show⟨⟨dx,c.keep _ _ e hs⟩,h.lst.bO c hl⟩
abbrev aG (xs:-l6)(k:Nat):Nat:=((xs.take k).map l6.rows).72
def ki {xs:-l6}{x:l6}(h:xs[k]?=!x):aG xs (k+1)=aG xs k+x.42:=by
 unfold aG;rw[cR,h];simp
def oT {xs:-l6}(h:∀x∈xs,x.42<=9):∀k,aG xs k<=9 * k:=by
 intro k
 induction k with
 | zero=>simp[aG]
 | succ k ih=>
  cases e:xs[k]? with
  | none=>
   have:aG xs (k+1)=aG xs k:=by unfold aG;rw[cR,e];simp
   lk
  | some x=>
   have:=h x (Β e);rw[ki e];lk
abbrev Kc (C:Ν):Sp:=aR λs=>aN λH Q _=>∃l xs,Aw C H s l xs/\xs.4<=1000/\∀H',ι H H'->Q (.int (aG xs xs.4)) H'
abbrev vi (xs:-l6)(k:Nat)(x:l6)(key:-Nat):Nat:=aG xs k+(Ka key % (x.42:Int)).9
abbrev Oe:Sp:=aT λl=>aN λH Q _=>Q (.int (Ka l)) H
abbrev Of:Sp:=aT λl=>aI λm=>aN λH Q _=>0 < m/\Q (.int (Ka l % m)) H
abbrev it (i:Nat)(xs:-V):V:=xs.getD i .bM
def Ff {lo:Int}(hn:n<=sizeLine)(Pv:Ν->Nat->-V->Hp->Prop)(h0:∀D,H D=none->Pv D 0 [] (upd H D (.lst [])))
  (hl:∀D i ys H',i<=n->Pv D i ys H'->H' D=!.lst ys/\ys.4<=i)
  (hs:∀D i ys H',H D=none->i < n->Pv D i ys H'->∀Qe,(∀y H5,H5 D=!.lst ys->Pv D (i+1) (ys++[y]) (upd H5 D (.lst (ys++[y])))->Qe y H5)->te (some (.int (lo+i))::σ) H' Qe)
  (hd:∀D ys H',H D=none->Pv D n ys H'->Q (.ref D) H'):va (Xp lo n) CO te σ H Q:=by
 intro D hD;show(δ (λi m ys H=>m=n - i/\i<=n/\Pv D i ys H) (ac n rfl (Ϝ _) (h0 D hD)) ?_)
 rintro i m ys H2 ⟨rfl,hi,p⟩
 obtain⟨h1,h2⟩:=hl D i ys H2 hi p
 by_cases kz:i < n
 ·show .inr ⟨kz,(),λx H3 y=>?_⟩
  obtain⟨rfl,rfl⟩:H3=H2/\x=.int (lo+i):=y;show hs D i ys H3 hD kz p _ λy H5 z1 z2=>⟨z1,(mh (n - (i+1)) () rfl kz z2)⟩
 ·let e:i=n:=by lk
  subst e;show .inl ⟨ξ _,h1,hd D ys H2 hD p⟩
def qL {K:ζ}(hn:xs.4<=sizeLine)(Pv:Ν->Nat->-V->Hp->Prop)(h0:∀D,H D=none->Pv D 0 [] (upd H D (.lst [])))
  (hl:∀D i ys H',i<=xs.4->Pv D i ys H'->H' D=!.lst ys/\ys.4<=i/\fK K H' a xs)
  (hs:∀D i ys H' x,H D=none->xs[i]?=!x->Pv D i ys H'->∀Qe,(∀y H5,H5 D=!.lst ys->Pv D (i+1) (ys++[y]) (upd H5 D (.lst (ys++[y])))->Qe y H5)->te (some x::σ) H' Qe)
  (hd:∀D ys H',H D=none->Pv D xs.4 ys H'->Q (.ref D) H'):va (Mj K a) CO te σ H Q:=by
 intro D hD;show(δ (λi m ys H=>m=xs.4 - i/\i<=xs.4/\Pv D i ys H) (ac xs.4 rfl (Ϝ _) (h0 D hD)) ?_)
 rintro i m ys H2 ⟨rfl,hi,p⟩
 (show cW (hl D i ys H2 hi p) λh1 h2 h3=>?_)
 by_cases kz:i < xs.4
 ·show .inr ⟨(cJ xs (xs[i]) h3 ∅),(),λx H3 y=>?_⟩
  obtain⟨rfl,z⟩:=y;show hs D i ys _ x hD (z xs h3) p _ λy H5 z1 z2=>⟨z1,(mh (xs.4 - (i+1)) () rfl kz z2)⟩
 ·let e:i=xs.4:=by lk
  subst e;show .inl ⟨(δ xs h3 (ξ _)),h1,hd D ys H2 hD p⟩
def ϸ (s:ι H H')(h:H' b=none):H b=none:=by
 cases e:H b with
 | none=>rfl
 | some o=>rw[s _ _ e] at h;cases h
def ι.wr (s:ι H H')(h:H b=none):ι H (L2.upd H' b o):=λc u hc=>(ν (aj hc h)).trans (s c u hc)
def io.same (h:io C H r d M)(s:ι H H'):io C H' r d M:=h.bO (A:=[]) (ϰ.of_same s) ∅ ∅
end
variable {mr:eX}
section
def SE (a b:Nat):a ^^^ b=2 * ((a / 2) ^^^ (b / 2))+(if a % 2≠b % 2 then 1 else 0):=by
 let h1:(a ^^^ b) / 2=(a / 2) ^^^ (b / 2):=Nat.xor_div_two;let h2:(a ^^^ b) % 2=(if a % 2≠b % 2 then 1 else 0):=by
  rw[show(a ^^^ b) % 2=(a % 2) ^^^ (b % 2) from Nat.xor_mod_two_pow (n:=1)];rcases cm a with x | x<;>rcases cm b with y | y<;>rw[x,y]<;>rfl
 rw[<-h1,<-h2,kn]
def G9 (a b:Nat):a &&& b=2 * ((a / 2) &&& (b / 2))+(if a % 2=1/\b % 2=1 then 1 else 0):=by
 let h1:(a &&& b) / 2=(a / 2) &&& (b / 2):=Nat.and_div_two;let h2:(a &&& b) % 2=(if a % 2=1/\b % 2=1 then 1 else 0):=by
  rw[show(a &&& b) % 2=(a % 2) &&& (b % 2) from Nat.and_mod_two_pow (n:=1)];rcases cm a with x | x<;>rcases cm b with y | y<;>rw[x,y]<;>rfl
 rw[<-h1,<-h2,kn]
def Wc {X Y A B p q e f:Nat}(h:X+2 * Y=A+B)(h2:e+2 * f=p+q):2 * X+e+2 * (2 * Y+f)=2 * A+p+(2 * B+q):=by lk
def Wd (a:Nat):∀b,(a ^^^ b)+2 * (a &&& b)=a+b:=by
 induction a using U9 with
 | ind a ih=>
  intro b
  by_cases h:a=0
  ·subst h;simp
  ·rw[SE a b,G9 a b]
   show(Wc (ih (a / 2) (Nat.div_lt_self (Nat.pos_of_ne_zero h) "!") (b / 2)) ?_).trans (by rw[kn,kn]);rcases cm a with h1 | h1<;>rcases cm b with h2 | h2<;>rw[h1,h2]<;>rfl
def Ax (a b:Nat):PySem.Builtin.bitAnd (a:Int) (b:Int)=((a &&& b:Nat):Int):=by
 rfl
def Kd (a b:Nat):PySem.Builtin.bitXor (a:Int) (b:Int)=((a ^^^ b:Nat):Int):=by
 let q:=Wd a b;rw[acf,Ax];lk
abbrev rot (n:Nat):Nat:=2 * (n % 32768)+n / 32768
def ZW (h:n < 65536):rot n < 65536:=by unfold rot;lk
def SF (ha:a < 65536)(hb:b < 65536):a ^^^ b < 65536:=Nat.xor_lt_two_pow (n:=16) ha hb
abbrev sumF (h:Nat)(cs:-Nat):Nat:=cs.foldl (λh c=>rot h ^^^ c) h
def MA (hc:∀c∈cs,c < 65536):∀{h:Nat},h < 65536->sumF h cs < 65536:=by
 induction cs with
 | nil=>intro h hh;show hh
 | cons c r ih=>intro h hh;show ih (λx hx=>hc x (ψ _ hx)) (SF (ZW hh) (hc c Ϭ))
def SG {c:Nat}(hn:n < 65536):PySem.Builtin.bitXor (PySem.Builtin.bitOr (PySem.Builtin.bitAnd ((n:Int) * 2) 65535) ((n:Int) / 32768)) (c:Int)=((rot n ^^^ c:Nat):Int):=by
 let e1:(n:Int) * 2 % 65536=((2 * (n % 32768):Nat):Int):=by lk
 let e2:(n:Int) / 32768=((n / 32768:Nat):Int):=by lk
 rw[acg,e1,e2,ach,Ax,G9];let h1:n / 32768 / 2=0:=by lk
 rw[h1,Nat.and_zero,Ψ ()];rw[<-Kd];congr 1
def Og {l:-Nat}{c:Nat}(h:l[i]?=!c):sumF 0 (l.take (i+1))=rot (sumF 0 (l.take i)) ^^^ c:=by
 rw[cR,h];simp[sumF,nv]
end
section
open PySem PySem.Spec PyProof.Rows
def Ay {t1:TS}(h:∀R,R=tR->ja t1 R D σ H):ja t1 tR D σ H:=h _ rfl
def SH {t1 t2:TS}(h:∀R,R=tR->ja t1 (ja t2 R) D σ H):ja t1 (ja t2 tR) D σ H:=h _ rfl
def ZX {t1 t2 t3:TS}(h:∀R,R=tR->ja t1 (ja t2 (ja t3 R)) D σ H):ja t1 (ja t2 (ja t3 tR)) D σ H:=h _ rfl
def adJ {t1 t2 t3 t4:TS}(h:∀R,R=tR->ja t1 (ja t2 (ja t3 (ja t4 R))) D σ H):ja t1 (ja t2 (ja t3 (ja t4 tR))) D σ H:=h _ rfl
def We {p:-α->Prop}{n:Nat}(h:∀a us,us.4=n->p (a::us))(us:-α)(e:us.4=n+1):p us:=by
 cases us with
 | nil=>cases e
 | cons a us=>show h a us (alB e)
def el1 {p:-α->Prop}(h:∀a,p [a]):∀us:-α,us.4=1->p us:=We λa us e=>by cases us with | nil=>show h a | cons _ _=>cases e
def el2 {p:-α->Prop}(h:∀a b,p [a,b]):∀us:-α,us.4=2->p us:=We λa=>el1 (h a)
def el3 {p:-α->Prop}(h:∀a b c,p [a,b,c]):∀us:-α,us.4=3->p us:=We λa=>el2 (h a)
def Wf {p:-α->Prop}(h:∀a b c d,p [a,b,c,d]):∀us:-α,us.4=4->p us:=We λa=>el3 (h a)
def el5 {p:-α->Prop}(h:∀a b c d e,p [a,b,c,d,e]):∀us:-α,us.4=5->p us:=We λa=>Wf (h a)
def el6 {p:-α->Prop}(h:∀a b c d e f,p [a,b,c,d,e,f]):∀us:-α,us.4=6->p us:=We λa=>el5 (h a)
def el7 {p:-α->Prop}(h:∀a b c d e f g,p [a,b,c,d,e,f,g]):∀us:-α,us.4=7->p us:=We λa=>el6 (h a)
theorem ahR:Str:=Κ "table"
theorem ahS:Str:=Κ "stream"
abbrev G':Sp:=aS λz=>aN λH Q _=>(z=ahR\/z=ahS)/\Q (.bl true) H
abbrev Fg:Sp:=aR λt=>aN λH Q _=>∃x,H t=!.tup x.v/\Mz x/\∀H',ι H H'->Q (.bl true) H'
abbrev yD:Sp:=aR λp=>aN λH Q _=>∃xs,bb H p (xs.map l6.v)/\iF xs/\∀H',ι H H'->Q (.bl true) H'
abbrev Ha (C:Ν):Sp:=aR λx=>aR λp=>aN λH Q _=>∃dx,H x=!.ins C dx []/\
 ∃xs,bb H p (xs.map l6.v)/\iF xs/\∀l H',H l=none->ϰ [x] H H'->Aw C H' x l xs->Q .bM H'
abbrev Ke (C:Ν):Sp:=aR λs=>aN λH Q _=>∃l xs,Aw C H s l xs/\∀D H',H D=none->ι H H'->bb H' D (xs.map l6.v)->Q (.ref D) H'
abbrev Az (C:Ν):Sp:=aR λs=>aT λnm=>aN λH Q _=>∃l xs,Aw C H s l xs/\iF xs/\
 ∃k x,xs[k]?=!x/\x.47=nm/\∀D H',H D=none->ι H H'->H' D=!.lst (yC (aG xs k) x.42)->Q (.ref D) H'
abbrev AA (C:Ν):Sp:=aR λs=>aT λnm=>aT λkey=>aN λH Q _=>∃l xs,Aw C H s l xs/\iF xs/\
 ∃k x,xs[k]?=!x/\x.47=nm/\∀H',ι H H'->Q (.int (vi xs k x key)) H'
abbrev aQ (c:Nat):-Nat->-(-Nat)
 | []=>[[]]
 | x::r=>if x=c then[]::aQ c r else match aQ c r with
  | []=>[[x]]
  | p::ps=>(x::p)::ps
def xT {c:Nat}:∀{p:-Nat},c∉p->aQ c p=[p]
 | [],_=>rfl
 | x::r,h=>by
  rw[Ι,yr] at h;rw[aQ,Ψ (ό h.1),xT h.2]
def AB {c:Nat}{r:-Nat}:∀{p:-Nat},c∉p->aQ c (p++c::r)=p::aQ c r
 | [],_=>by rw[fJ,aQ,ε rfl]
 | x::p,h=>by
  rw[Ι,yr] at h;rw[dA,aQ,Ψ (ό h.1),AB h.2]
def qM {c:Nat}:∀{ps:-(-Nat)},ps≠[]->(∀p∈ps,c∉p)->aQ c (bV [c] ps)=ps
 | [],h,_=>absurd rfl h
 | [p],_,h=>by rw[bV];show xT (h p ∅)
 | p::q::r,_,h=>by
  change aQ c (p++[c]++bV [c] (q::r))=_;rw[cg];change aQ c (p++c::bV [c] (q::r))=_;rw[AB (h p ∅),qM ∅ λz hz=>h z (ψ _ hz)]
def Fh (c:Nat)(a:-Nat):Txt.split (S a) (S [c])=(aQ c a).map S:=by
 let e1:=aoB (S a) (S [c]);let ne:Txt.split (S a) (S [c])≠[]:=by
  intro z;rw[z] at e1;have:a=[]:=by
   have:=congrArg (λz:Str=>z.6) e1;show this.17
  subst this;have:Txt.split (S []) (S [c])=[S []]:=by
   unfold Txt.split;rw[ε (by rfl)]
  cases z
 let e3:Txt.split (S a) (S [c])=((Txt.split (S a) (S [c])).map λz=>z.6).map S:=by
  rw[Ϥ]
  conv=>lhs;rw[<-List.map_id (Txt.split (S a) (S [c]))]
  show df λz _=>?_;cases z;simp[S]
 generalize hps:(Txt.split (S a) (S [c])).map (λz=>z.6)=ps at e3;rw[e3,E4] at e1;let e5:=qM (ps:=ps) (by intro z;rw[z] at hps;show ne (L8.mp hps)) λp hp=>by
  rw[<-hps] at hp;(show Ϗ (μ.mp hp) λz hz ϐ=>?_;subst ϐ);show (aoC (S a) c) z hz
 rw[e3,<-e5,nO e1]
def Oh (c:Nat)(a z:-Nat):Txt.replace (S a) (S [c]) (S z)=S (bV z (aQ c a)):=by
 have:=aoD (S a) (S z) c;rw[show(⟨#[c]⟩:Str)=S [c] from rfl,Fh,E4] at this;show this
section
variable {X:Cx}
abbrev rSw:V->-V->Hp->VK->Prop:=λx vs H Q=>∃a b,x=.str a/\vs=[.str b]/\Q (.bl (Txt.startswith a b)) H
abbrev ZY:V->-V->Hp->VK->Prop:=λx vs H Q=>∃a c,x=.str (S a)/\vs=[.str (S [c])]/\a.4<=1000000/\∀l,H l=none->Q (.ref l) (upd H l (.lst ((aQ c a).map λp=>V.str (S p))))
end
def wM {M:UA}{t:Sem PySem.Fin}{e:End}(h:Runs M Γ p t fs s e s'):s.23<=s'.23:=by
 induction h<;>first
  | show ξ _
  | assumption
  | (rename_i ih;show ih)
  | (rename_i ih1 ih2;show ϊ ih1 ih2)
  | (rename_i ih;show ϊ (gD _) ih)
def Kf {r:Resume}(h:Wakes M Γ p g r s res s'):s.23<=s'.23:=by
 unfold Wakes at h
 split at h
 ·show h.38
 ·split at h
  ·(revert h;show su λe s1 hr _ _ ϐ=>?_;subst ϐ)
   have:=wM hr;show this
  ·rw[h.2];show ξ _
  ·rw[h.2];show ξ _
 ·(revert h;show su λe s1 hr _ _ ϐ=>?_;subst ϐ)
  have:=wM hr;show this
 ·rw[h.2];show ξ _
 ·rw[h.2];show ξ _
def wp_toks (t:Sem α):∀Q E p s n,n<=s.23->ae8 M Γ t Q E p s->
  ae8 M Γ t (λa p' s'=>Q a p' s'/\n<=s'.23) (λe p' s'=>E e p' s'/\n<=s'.23) p s:=by
 induction t with
 | pure a=>intro Q E p s n hn h;show⟨h,hn⟩
 | raise a=>intro Q E p s n hn h;show⟨h,hn⟩
 | load a pt k ih=>intro Q E p s n hn h;(revert h;show ay λo h1 h2=>?_);show(δ o h1 (ih _ _ _ _ _ _ hn h2))
 | update a pt f k ih=>intro Q E p s n hn h;show⟨h.1,ih _ _ _ _ _ _ hn h.2⟩
 | fresh k ih=>intro Q E p s n hn h;show ih _ _ _ _ _ _ (ϊ hn (gD _)) h
 | choose src m k ih=>intro Q E p s n hn h;show⟨h.1,ih _ _ _ _ _ _ hn h.2⟩
 | call c hd g l k ih=>
  intro Q E p s n hn h;(revert h;show dB λr s' hr h2=>?_);show(cJ r s' hr (ih _ _ _ _ _ _ (ϊ hn (wM hr)) h2))
 | genState g k ih=>intro Q E p s n hn h;(revert h;show ay λo h1 h2=>?_);show(δ o h1 (ih _ _ _ _ _ _ hn h2))
 | resume g r l k ih=>
  intro Q E p s n hn h;(revert h;show dB λr s' hr h2=>?_);show(cJ r s' hr (ih _ _ _ _ _ _ (ϊ hn (Kf hr)) h2))
 | _=>
  intro Q E p s n hn h
  first
  | show h.38
  | (rw[ae8];rename_i ih;show ih _ _ _ _ _ _ hn h)
def Hb {t:Sem α}{Q:α->ς->Prop}(h:wpAny M A t Q E s) :
  wpAny M A t (λa s'=>Q a s'/\s.23<=s'.23) E s:=λΓ p hΓ=>
 Sem.wp_mono M Γ t (λ_ _ _ x=>x) (λ_ _ _ x=>x.1) p s (wp_toks t _ _ p s s.23 (ξ _) (h Γ p hΓ))
abbrev PE1 (X:Cx)(e:bS)(t:TE):Prop:=
 ∀pins s σ H Q,0 < s.23->Inv X pins σ H s->t σ H Q->wpAny X.mo X.A (eval e X.8) (λu s'=>EP X pins σ Q u s'/\0 < s'.23) X.xe s
abbrev adL (X:Cx)(st:-ϩ)(t:TS):Prop:=
 ∀pins s σ H D,0 < s.23->Inv X pins σ H s->t D σ H->wpAny X.mo X.A (execs st X.8) (SP X pins D) X.xe s
section
variable {X:Cx}   
def PE.one (h:PE X e te):PE1 X e te:=λpins s σ H Q h0 I q=>iZ (Hb (h pins s σ H Q I q)) λ_ _ x=>⟨x.1,Ϧ h0 x.2⟩
def SI (he:PE1 X e te):adL X [.Return (!e) pos] (acF te):=by
 intro pins s σ H D h0 I h;show Du (iZ (Yt (Q:=SP X pins D) (iZ (he pins s σ H _ h0 I h) λv s1 ⟨⟨x,H1,I1,r1,q1⟩,_⟩=>(Nj x σ H1 I1 r1 q1))) λf s1 q=>?_);cases f with
 | next=>show mj q
 | ret v=>show q
 | brk=>show q
 | cont=>show q
abbrev adM (K:ζ)(c:Nat)(z:-Nat)(to:TE):TE:=λσ H Q=>to σ H λx H1=>∃a,x=.str (S a)/\a.4+(a.4+1) * z.4<=16777216/\Q (.str (S (bV z (aQ c a)))) H1
def Hc {K:ζ}{c:Nat}{z:-Nat}(ec:xc=S [c])(ez:xz=S z)(hcz:(S [c] == S z)=false)(ho:PE1 X o to)
  (GN: ~~~(attributeBase o "replace" X.env (eval o X.8)=eval o X.8))
  (RN:autoParam (((backTo gN (starEach [.Constant (.str xc) jc pc,.Constant (.str xz) jz pz] X.8)).all (λx=>!((x.1))) && (backToKw gN (keywordEach [] X.8)).all (λx=>x.1.11)
   && decide (([.Constant (.str xc) jc pc,.Constant (.str xz) jz pz]:-bS).4+([]:-nj).4+(if ([]:-nj).45 then 0 else 1) < 30))=true) L2.ai._auto_1)
  (GO: ~~~((apos.66 == gN.60)=true)) :
  PE1 X (.Call (.Attribute o "replace" apos) [.Constant (.str xc) jc pc,.Constant (.str xz) jz pz] [] gN) (adM K c z to):=by
 intro pins s σ H Q h0 I h;subst ec ez;show QM GN RN GO rfl (iZ (ho pins s σ H _ h0 I h) λv s1 ⟨⟨x,H1,I1,r1,a,ex,hz,q⟩,h1⟩=>?_);subst ex;obtain⟨t,rfl⟩:=r1;show(Vf ("str") ("str.replace") PySem.F.plainAttrs_str PySem.F.slot_str_replace PySem.F.type_str_replace (oB _ _ _) (λ_ e=>nomatch e) (fB rfl (gq ?_)));show aM (uS (k:=jc) (pos:=pc) (aM (uS (k:=jz) (pos:=pz) ?_)));show cf (iZ (Hb (SC.replace (by show s1.23≠0;lk) (by show s1.23+1≠0;lk) (by show s1.23≠s1.23+1;lk) hcz (by rw[my,my];show hz) λt' k=>?_)) λu s2 x=>⟨x.1,Ϧ (by show 0 < s1.23+1+1;lk) x.2⟩)
 rw[Oh];show(ϧ (.str _) H1 (I1.tok k) ⟨t',rfl⟩ q)
end
def Oi (h:kd x=!.local):bindL kd [(x,u)] (λ_=>none)=λy=>([(x,u)]:-(Str×Ω)).reverse.lookup y:=by
 funext y;unfold bindL bindL;rw[ε h];show(if y=x then some u else none)=gs y [(x,u)];rw[ag]
 by_cases e:y=x
 ·subst e;simp
 ·rw[Ψ e,dY.mpr e];rfl
section
variable {P:ah} {K:ζ} {base:a9}
def UI.ok1 {st:ϩ}{p1:Str}(F:UI K x qual st f fd)(S:ρ N [p1] (Υ st))(hnc:∀x∈(Υ st).31,x.2≠.cell)
  (len:∀vs H Q E,sp vs H Q E->vs.4=1)
  (Af:∀(gX:Ω) (A:sY) (outer:-Env) (s:ς) (H:Hp) (vs:-V) (Q:VK) (E:XK),ga k (A.deeper (envOfC qual (Υ st) s.5 f gX))->sp vs H Q E->
   ∃t,adL (Ae Jf P w K mg base N qual (Υ st) f gX A outer s H E) (cD st) t/\t { nx:=λ_ H'=>Q .bM H',rt:=Q } (start N vs) H):qv P w K mg base Jf (k+1) f fd [p1] sp:=by
 (show Rj F.ex λoc od kV doc pm an=>wv λgX ct GA ϐ lk zq=>?_;subst ϐ);show⟨len,λA outer s H args us vs Q E hr e0 hb r oN=>?_⟩;let hl:=len _ _ _ _ oN;let KX:=e0.mod.Xl.keeps λb o e=>(e0.bs b o e).1;let adN:(Υ st).names.lookup p1=!.local:=by
  rcases S.par p1 ∅ with q | q
  ·show q
  ·show absurd rfl (hnc _ (PySem.mem_of_lookup q))
 let hus:us.4=1:=by rw[<-r.4];show hl
 obtain⟨u,rfl⟩:∃u,us=[u]:=List.length_eq_one_iff.mp hus
 let zD:∀(l:-(Str×dZ)) n,(∀x∈l,x.2≠.cell)->cellsFrom n l []=[]:=by
  intro l
  induction l with
  | nil=>intro n _;rfl
  | cons a l ih=>
   intro n h;obtain⟨y,kd⟩:=a;unfold cellsFrom;rw[Ψ (λz=>h (y,kd) ∅ (by simpa using z))];show ih n λx hx=>h x (ψ _ hx)
 show codeAny_call_def hr.63 (KX _ _ lk) rfl (e0.mod.nolimit.keeps λb o e=>(e0.bs b o e).1) (ae0 KX zq) rfl hb hnc (λy hy=>by simp at hy;rw[hy];show adN) (λh1 hns hk=>?_) S.co S.gen S.kind;let ee:callEnv (gp x qual (dF st) (cD st) (Υ st) .none kV doc pm an gX ct) s.5 f=envOfC qual (Υ st) s.5 f gX:=by
  unfold envOfC;rw[zD _ _ hnc];rfl
 rw[ee];let I:Inv (Ae Jf P w K mg base N qual (Υ st) f gX A outer s H E) [] (start N vs) H { s with heap:=h1,toks:=s.23+1 }:=by
  show DH S hr.hd e0 (by rw[hl];rfl) r ⟨⟨(uY h1 _ rfl),?_,hk,ξ _⟩,?_,?_,?_⟩
  ·change h1.Ns _ _
   rw[show([p1].zip [u]:-(Str×Ω))=[(p1,u)] from rfl,Oi adN];show hns
  ·rw[zD _ _ hnc];intro n c z;cases z
  ·rw[zD _ _ hnc];show .nil
  ·rw[zD _ _ hnc];intro n c z;cases z
 (show Ϗ (Af gX A outer s H vs Q E (hr.deeper _) oN) λt ht hq=>?_);show fV (ht [] _ (start N vs) H _ (Nat.succ_pos _) I hq) (λfl s' hs=>?_) λe s' hs=>hs;let fin:∀{σ':St} {H':Hp} {v:V} {u:Ω},Inv (Ae Jf P w K mg base N qual (Υ st) f gX A outer s H E) [] σ' H' s'->RelV v u->Q v H'->CE outer P w H s Q u s':=
  λ{σ' H' v u} J rv q=>(Vf v H' J.os J.52 J.49 J.cx rv q)
 cases fl with
 | ret u=>
  (revert hs;show wv λv σ' H' J rv q=>?_);show fin J rv q
 | next=>
  (revert hs;show dB λσ' H' J q=>?_);show fin (v:=V.bM) J rfl q
 | brk=>
  (revert hs;show dB λ_ _ _ q=>?_);show bB q
 | cont=>
  (revert hs;show dB λ_ _ _ q=>?_);show bB q
end
def Oj (c:Nat):∀a,aQ c a≠[]
 | []=>by simp[aQ]
 | x::r=>by
  rw[aQ]
  by_cases e:x=c
  ·rw[ε e];simp
  ·rw[Ψ e]
   cases h:aQ c r<;>simp
def mB (c:Nat)(z:-Nat):∀a:-Nat,bV z (aQ c a)=a.flatMap λx=>if x=c then z else[x]
 | []=>rfl
 | x::r=>by
  let ih:=mB c z r;let ne:=Oj c r;rw[aQ,wu];cases h:aQ c r with
  | nil=>show absurd h ne
  | cons p ps=>
   rw[h] at ih
   by_cases e:x=c
   ·rw[ε e,ε e,<-ih]
    show[]++z++bV z (p::ps)=_;rw[fJ]
   ·rw[Ψ e,Ψ e,<-ih]
    cases ps with
    | nil=>rfl
    | cons q qs=>
     show(x::p)++z++bV z (q::qs)=[x]++(p++z++bV z (q::qs));simp
abbrev XT (c:Nat):-Nat:=if c=126 then[126,119] else if c=59 then[126,115] else[c]
abbrev gd (a:-Nat):-Nat:=a.flatMap XT
def adO (a:-Nat):bV [126,115] (aQ 59 (bV [126,119] (aQ 126 a)))=gd a:=by
 rw[mB,mB,List.flatMap_assoc,gd];congr 1;funext x;unfold XT
 by_cases h:x=126
 ·subst h;rfl
 ·rw[Ψ h,Ψ h]
  by_cases h':x=59
  ·subst h';rfl
  ·simp[h']
def Fi (x:Nat)(a:-Nat):gd (x::a)=XT x++gd a:=wu
def Wg (c:Nat):(XT c).4<=2:=by
 unfold XT
 by_cases h:c=126
 ·rw[ε h];decide
 ·rw[Ψ h]
  by_cases h':c=59
  ·rw[ε h'];decide
  ·rw[Ψ h'];simp
def AC:∀a:-Nat,(gd a).4<=2 * a.4
 | []=>ξ _
 | x::a=>by
  have:=AC a;have:=Wg x;rw[Fi,Ρ,ω];lk
def uq:∀{l:-Nat} {x:Nat},x∈l->x<=l.72
 | y::l,x,h=>by
  rcases Ι.mp h with rfl | h
  ·rw[cH];lk
  ·have:=uq h;rw[cH];lk
def cz {l:-α}{x:α}(h:l[i]?=!x):l.take (i+1)=l.take i++[x]:=by
 obtain⟨hi,rfl⟩:=Α.mp h;show(List.take_append_getElem hi).17
abbrev Kg:Sp:=aT λa=>aN λH Q _=>a.4<=1000000/\Q (.str (S (gd a))) H
abbrev tx (l:-(-Nat)):-V:=l.map λa=>V.str (S a)
abbrev Ol (K:ζ):Sp:=aR λp=>aN λH Q _=>∃l,fK K H p (tx l)/\(l.map be).72+l.4<=1000000/\∀H',ι H H'->Q (.str (S (bV [59] (l.map gd)))) H'
def AD (m:Nat):dU (m:Int)=(xI 10 m).map Char.toNat:=W.KIN.signs_num m
def zE {m k:Nat}(hk:1<=k)(h:m < 10 ^ k):(dU (m:Int)).4<=k:=by
 rw[AD,Η];show digits10_le hk h
def DT:∀d,d < 10->(Nat.digitChar d).9=48+d:=by decide
def qN (m:Nat):∀c∈dU (m:Int),48<=c/\c<=57:=by
 rw[AD]
 induction m using U9 with
 | _ m ih=>
  by_cases h:m < 10
  ·rw[Gw h]
   intro c hc;simp at hc;rw[hc,DT m h];lk
  ·let hm:m % 10 < 10:=Nat.mod_lt m "!"
   let t:xI 10 (m / 10)++xI 10 (m % 10)=xI 10 (10 * (m / 10)+m % 10):=Nat.toDigits_append_toDigits "!" () hm;rw[kn] at t;rw[<-t,Ϣ,Gw hm];intro c hc;rcases Ο.mp hc with hc | hc
   ·show ih (m / 10) () c hc
   ·simp at hc
    rw[hc,DT _ hm];lk
def SJ (m:Nat):1<=(dU (m:Int)).4:=by
 rw[AD,Η];show tDigits_len_ge 10 m
abbrev zf (w m:Nat):-Nat:=dH (w - (dU (m:Int)).4) 48++dU (m:Int)
def wN {w m:Nat}(hw:1<=w)(h:m < 10 ^ w):(zf w m).4=w:=by
 have:=zE hw h;unfold zf;rw[Ρ,dI];lk
def Wh (m w:Nat):Txt.zfill (S (dU (m:Int))) (w:Int)=S (zf w m):=by
 unfold Txt.zfill zf;rw[my]
 by_cases h:(w:Int)<=((dU m).4:Int)
 ·rw[ε h,show w - (dU m).4=0 by lk];rfl
 ·rw[Ψ h,show((w:Int).9 - (dU m).4)=w - (dU m).length from rfl]
  let h0:=SJ m;let hc:PySem.zfilled (S (dU m)) (w - (dU m).4)=Dw (S (dU m)) (w - (dU m).4) 0 48:=by
   cases hl:dU m with
   | nil=>rw[hl] at h0;simp at h0
   | cons c r=>
    let hc:=(qN m) c (by rw[hl];simp);unfold PySem.zfilled
    split
    ·rename_i e;let e':c=43:=by simpa using e
     lk
    ·rename_i e;let e':c=45:=by simpa using e
     lk
    ·rfl
  rw[hc];unfold Dw;simp[S]
abbrev rZf:V->-V->Hp->VK->Prop:=λx vs H Q=>∃m w:Nat,x=.str (S (dU (m:Int)))/\vs=[.int (w:Int)]/\w<=1000/\Q (.str (S (zf w m))) H
section
variable {X:Cx}
open Builtin Builtin.Str in
def AE:Xw X "str.zfill" rZf:=by
 intro pins s σ H x vs v us Q I rx rv h;(revert h;show su λm w ϐ gO hw q=>?_;subst ϐ;subst gO);obtain⟨t,rfl⟩:=rx;(show Ϗ (vals1 rv) λu ϐ=>uf λt' gO=>?_;subst ϐ;subst gO);show SC.zfill ?_ λt' k=>?_
 ·unfold PadOk fitsSsize tooLong sizeLine
  rw[bd,QP,QP];show⟨?_,ae ()⟩;rw[Bool.or_eq_false_iff];show⟨ae (),ae ()⟩
 ·rw[Wh]
  show(ϧ (.str _) H (I.tok k) ⟨t',rfl⟩ q)
end
abbrev pfL (n:Nat)(b:-Nat):-Nat:=zf 6 n++[32]++zf 5 (sumF 0 b)++[32]
abbrev XU (n:Nat)(b:-Nat):-Nat:=pfL n b++(zf 4 b.4++[32])
abbrev tI (n:Nat)(b:-Nat):-Nat:=XU n b++b
structure tJ (n:Nat)(b:-Nat):Prop where
 n:n < 1000000
 c:∀c∈b,c < 128
 l:b.4 < 10000
def tJ.sum {b:-Nat}(g:tJ n b):sumF 0 b < 65536:=MA (λc hc=>gL (g.c c hc) "!") "!"
def tJ.pf {b:-Nat}(g:tJ n b):(pfL n b).4=13:=by
 have:=g.72;unfold pfL;simp only[Ρ,ω,aF];rw[wN "!" g.n,wN "!" (gL this "!")]
def tJ.hd {b:-Nat}(g:tJ n b):(XU n b).4=18:=by
 unfold XU;rw[Ρ,g.pf,Ρ,wN "!" g.l];rfl
abbrev ZZ:Sp:=aT λl=>aN λH Q _=>(∀c∈l,c < 128)/\Q (.int (sumF 0 l:Nat)) H
abbrev On:Sp:=aK λn=>aT λb=>aN λH Q _=>tJ n b/\∀H',ι H H'->Q (.str (S (tI n b))) H'
end
section
open PySem PySem.Spec PyProof.Rows
abbrev xU:-(-Nat)->-(-Nat)
 | []=>[]
 | [b]=>[46::b]
 | b::c::r=>(43::b)::xU (c::r)
def gz:∀act:-(-Nat),(xU act).4=act.4
 | []=>rfl
 | [_]=>rfl
 | b::c::r=>by rw[xU,ω,gz (c::r)];rfl
def MB:∀(act:-(-Nat)) (k:Nat) (b:-Nat),act[k]?=!b->(xU act)[k]?=!((if k+1 < act.4 then 43 else 46)::b)
 | [],k,b,h=>by simp at h
 | [c],k,b,h=>by
  cases k with
  | zero=>cases h;rfl
  | succ k=>simp at h
 | c::d::r,k,b,h=>by
  cases k with
  | zero=>cases h;rfl
  | succ k=>
   have:=MB (d::r) k b h;rw[xU,oH,this];simp only[ω,Nat.add_lt_add_iff_right]
abbrev vj:Nat->-(-Nat)->-(-Nat)
 | _,[]=>[]
 | n,b::r=>tI n b::vj (n+1) r
def jq:∀(n:Nat) (bs:-(-Nat)),(vj n bs).4=bs.4
 | _,[]=>rfl
 | n,b::r=>by rw[vj,ω,jq (n+1) r];rfl
def Fj:∀(n:Nat) (a b:-(-Nat)),vj n (a++b)=vj n a++vj (n+a.4) b
 | n,[],b=>rfl
 | n,x::a,b=>by
  rw[dA,vj,vj,Fj (n+1) a b,ω,dA];congr 3;lk
def Hd (n:Nat)(a:-(-Nat))(b:-Nat):vj n (a++[b])=vj n a++[tI (n+a.4) b]:=Fj n a [b]
abbrev UQ (b:-Nat):Prop:=(∀c∈b,c < 128)/\b.4<=4000
structure ic (C:Ν)(H:Hp)(r l:Ν)(ls:-(-Nat)):Prop where
 obj:∃dx,H r=!.ins C dx [("lines",.ref l)]
 lst:H l=!.lst (tx ls)
def ic.ne (R:ic C H r l ls):r≠l:=λz=>by
 obtain⟨dx,h⟩:=R.27;rw[z,R.33] at h;cases h
def ic.same (R:ic C H r l ls)(s:ι H H'):ic C H' r l ls:=⟨let ⟨dx,h⟩:=R.27;⟨dx,s _ _ h⟩,s _ _ R.33⟩
abbrev Kh (C:Ν):Sp:=aR λx=>aN λH Q _=>∃dx,H x=!.ins C dx []/\∀l H',H l=none->l≠x->ϰ [x] H H'->ic C H' x l []->Q .bM H'
abbrev He (C:Ν):Sp:=aR λr=>aR λp=>aN λH Q _=>∃l ls act,ic C H r l ls/\H p=!.lst (tx act)/\p≠l/\(∀b∈act,UQ b)/\ls.4+act.4<=5000/\
 ∀H',ϰ [l] H H'->ic C H' r l (ls++vj ls.4 (xU act))->Q (.int ((ls.4+act.4:Nat):Int)) H'
abbrev Ki (C:Ν):Sp:=aR λr=>aN λH Q _=>∃l ls,ic C H r l ls/\∀p H',H p=none->ι H H'->H' p=!.lst (tx ls)->Q (.ref p) H'
noncomputable abbrev Spot:=Int×Int
structure vk where
 L:Str->Option Int
 T:Str->Int
 P:Str->-Spot
 sz:Nat
abbrev xV:vk:=⟨λ_=>none,λ_=>0,λ_=>[],0⟩
abbrev MC (l t p:Ν):-(Str×V):=[("lives",.ref l),("lasts",.ref t),("spots",.ref p)]
structure dE (C:Ν)(H:Hp)(r l t p:Ν)(Z:-Ν)(M:vk):Prop where
 obj:∃dx,H r=!.ins C dx (MC l t p)
 gh:∃kvs,H l=!.dK kvs/\kvs.4<=M.sz/\∀z,a8 kvs (.inr z)=(M.L z).map V.int
 QV:∃kvs,H t=!.dK kvs/\kvs.4<=M.sz/\∀z,a8 kvs (.inr z)=(M.L z).map λ_=>V.int (M.T z)
 UR:∃kvs,H p=!.dK kvs/\kvs.4<=M.sz/\∀z,(M.L z).11=true->∃q xs,a8 kvs (.inr z)=!.ref q/\H q=!.lst xs/\xs.4<=8/\q∉Z
 rl:r≠l
 rt:r≠t
 rp:r≠p
 lt:l≠t
 lp:l≠p
 tp:t≠p
def dE.bO {A:-Ν}{l t p:Ν}(h:dE C H r l t p Z M)(c:ϰ A H H')(hr:r∉A)(hl:l∉A)(ht:t∉A)(hp:p∉A)(hz:∀b∈A,b∈Z\/∀xs,H b≠!.lst xs):dE C H' r l t p Z M:=by
 obtain⟨dx,e⟩:=h.27;(show au h.gh λk1 e1 l1 v1=>?_);(show au h.QV λk2 e2 l2 v2=>?_);(show au h.UR λk3 e3 l3 v3=>?_);show⟨⟨dx,c.keep _ _ e hr⟩,(ac k1 (c.keep _ _ e1 hl) l1 v1),(ac k2 (c.keep _ _ e2 ht) l2 v2),(ac k3 (c.keep _ _ e3 hp) l3 (λz Wi=>?_)),h.rl,h.rt,h.rp,h.lt,h.lp,h.tp⟩;(show ww (v3 z Wi) λq xs a1 a2 a3 a4=>?_);show(fk q xs a1 (c.keep _ _ a2 λm=>(hz q m).elim a4 λy=>y _ a2) a3 a4)
def dE.less {l t p:Ν}(h:dE C H r l t p Z M)(hz:∀b∈Z',b∈Z\/H b=none):dE C H r l t p Z' M:=by
 (show au h.UR λk3 e3 l3 v3=>?_);show⟨h.27,h.gh,h.QV,(ac k3 e3 l3 (λz Wi=>?_)),h.rl,h.rt,h.rp,h.lt,h.lp,h.tp⟩;(show ww (v3 z Wi) λq xs a1 a2 a3 a4=>?_);show(fk q xs a1 a2 a3 (λm=>(hz q m).elim a4 λy=>by rw[y] at a2;cases a2))
def vm (l t p:Ν):(MC l t p).lookup (Κ "lives")=!.ref l:=rfl
def kL (l t p:Ν):(MC l t p).lookup (Κ "lasts")=!.ref t:=rfl
def AF (l t p:Ν):(MC l t p).lookup (Κ "spots")=!.ref p:=rfl
abbrev vk.cr (M:vk)(n:Str):vk:={ M with
 L:=λz=>if z=n then some ((M.L n).getD 0+1) else M.L z
 T:=λz=>if z=n then(if (M.L n).getD 0=0 then 0 else M.T n) else M.T z
 P:=λz=>if z=n then(if (M.L n).getD 0=0 then[] else M.P n) else M.P z
 sz:=M.sz+1 }
abbrev vk.note (M:vk)(n:Str)(k:Int)(x:Spot):vk:={ M with
 T:=λz=>if z=n then k else M.T z
 P:=λz=>if z=n then(M.P n++[x]).drop ((M.P n++[x]).4 - 8) else M.P z
 sz:=M.sz+1 }
abbrev Oo (C:Ν):Sp:=aR λx=>aN λH Q _=>∃dx,H x=!.ins C dx []/\
 ∀l t p H',H l=none->H t=none->H p=none->ϰ [x] H H'->dE C H' x l t p [] xV->Q .bM H'
abbrev Op (C:Ν):Sp:=aR λr=>aS λn=>aN λH Q _=>∃l t p Z M,dE C H r l t p Z M/\M.sz<=100000/\(∀v,M.L n=!v->1<=v)/\(∀b∈Z,∃o,H b=!o)/\
 ∀u H',ϰ [l,t,p] H H'->dE C H' r l t p Z (M.cr n)->H u=none->H' u=!.tup [.int ((M.L n).getD 0+1),.int ((M.cr n).T n)]->Q (.ref u) H'
abbrev Oq (C:Ν):Sp:=aR λr=>aS λn=>aN λH Q _=>∃l t p Z M,dE C H r l t p Z M/\Q (.int ((M.L n).getD 0)) H
abbrev Os (C:Ν):Sp:=aR λr=>aS λn=>aN λH Q _=>∃l t p Z M,dE C H r l t p Z M/\Q (.int (if (M.L n).11=true then M.T n else 0)) H
abbrev Ot (C:Ν):Sp:=aR λr=>aS λn=>aN λH Q _=>∃l t p Z M,dE C H r l t p Z M/\
 (M.L n).11=true/\Q .bM H
abbrev Kj (C:Ν):Sp:=aR λr=>aS λn=>aI λk=>aN λH Q _=>∃l t p Z M,dE C H r l t p Z M/\
 M.L n=!k/\Q .bM H
abbrev Ou (C:Ν):Sp:=aR λr=>aS λn=>aI λk=>aN λH Q _=>∃l t p Z M,dE C H r l t p Z M/\
 (M.L n).11=true/\k=M.T n+1/\Q .bM H
abbrev Ov (C:Ν):Sp:=aR λr=>aS λn=>aI λk=>aI λa=>aI λb=>aN λH Q _=>∃l t p Z M,dE C H r l t p Z M/\(M.L n).11=true/\
 k=M.T n+1/\M.sz<=100000/\(∀b∈Z,∃o,H b=!o)/\∀H',ϰ [t,p] H H'->dE C H' r l t p Z (M.note n k (a,b))->Q .bM H'
def Ow (l:-V):oP l (!-8) none=l.drop (l.4 - 8):=by
 unfold oP;rw[HT.Ag];let e:HT.oO l.4 0 (!-8)=l.4 - 8:=by
  show(if (-8) < 0 then(-8+(l.4:Int)).9 else min (-8).toNat l.4)=_;rw[ε "!",Int.add_comm];show Int.toNat_sub _ 8
 rw[e,fE (by rw[gG];lk)]
end
section
open PySem PySem.Spec
open PySem.AutoSeq1 (wpAny_loadPart')
section
variable {s:ς}
def wO {S:Spec}{Q Q₁:Ω->ς->Prop}(ft:TypeCalled T newId SK)
  (hct:checkTypeCall T ⟨args,kw⟩=pure Unit.unit) (hcn:checkBuiltinCall newId ⟨.type T::args,kw⟩=pure Unit.unit)
  (Z1:entryFor table newId=!Bn) (Z2:entryFor table SK=!Bi) (g:ae9 (Bn ⟨.type T::args,kw⟩) S)
  (h:S A.93 (wants Q₁ E) s)
  (adQ:∀obj s₁,Q₁ obj s₁->s₁.TypeIs obj T/\argsOk SK ⟨obj::args,kw⟩/\∃Si,ae9 (Bi ⟨obj::args,kw⟩) Si/\Si A.93 (wants (λr s₂=>r=.none/\Q obj s₂) E) s₁) :
  wpAny (model prog w) A (call (.type T) args kw) Q E s:=by
 (show Ri ft.mro λc tl ahO=>?_);let adF:=ft.made;let N':=ft.sub;show IY (ace (ϫ ⟨Nd _ (s!"d"),ue PySem.F.entry_type_call ?_⟩));let h1:=ft.notType;let h2:=ft.canCreate
 repeat (any_goals (first | assumption | wp_step))
 show ii (wk ft.plain Z1 (alC hcn (g prog w A.93 _ s h))) λr s₁ hr=>?_;cases r with
 | error e=>show hr
 | ok fl=>
  cases fl with
  | ret obj=>
   (show cW (adQ _ _ hr) λhT cx=>ay λSi gi hsi=>?_);let hli:=ft.init.82;let hbi:=ft.init.bind obj
   repeat (any_goals (first | assumption | wp_step))
   show ii (wk ft.init.plain Z2 (ft.init.check _ _ _ _ _ _ _ _ hT cx (gi prog w A.93 _ s₁ hsi))) λr₂ s₂ ZU=>?_;cases r₂ with
   | error e=>show ZU
   | ok ahP=>
    cases ahP with
    | ret r=>
     obtain⟨rfl,hq⟩:=ZU
     repeat (any_goals (first | assumption | wp_step))
    | _=>show ZU.38
  | _=>show hr.38
end
def sy {a:Ω}{rest:-Ω}(hl:typeLookup (.type T) "__init__"=pure (!.builtin "object.__init__"))
  (hm:Bind.madeBy (.type T)=pure (!newId)) (SD:(some newId != some "object.__new__")=true) :
  ae9 (Gv.«object.__init__» ⟨self::a::rest,kw⟩) (λ_ R s=>s.TypeIs self T/\R (.ok (.ret .none)) s):=by
 show Meets.of_wp λprog w A R s hs=>?_;obtain⟨hT,hq⟩:=hs
 repeat (any_goals (first | assumption | wp_step))
 show(δ _ rfl hq)
def qw (a b:Ω):checkTypeCall "enumerate" ⟨[a],[("start",b)]⟩=pure Unit.unit:=by kernel_rfl
def qO (a b:Ω):checkBuiltinCall "enumerate.__new__" ⟨[.type "enumerate",a],[("start",b)]⟩=pure Unit.unit:=by kernel_rfl
def sF (a b c:Ω):argsOk "object.__init__" ⟨[a,b],[("start",c)]⟩:=by unfold argsOk;kernel_rfl
def qx (l:Ν)(items:Array Ω)(n:Nat)(dct:Option Ν)(sl:Array (Option Ω))(t:Tok) :
  ae9 (Gv.«enumerate.__new__» ⟨[.type "enumerate",.ref l],[("start",.int 1 t)]⟩) (λ_ R s=>s.heap.get? l=some { cls:=.type "list",dict:=dct,data:=.seq items n,slots:=sl }/\
   R (.ok (.ret (.ref (s.heap.push { cls:=.type "list_iterator",data:=.fields #[.ref l,.int 0 0] }).7)))
    { s with heap:=(s.heap.push { cls:=.type "list_iterator",data:=.fields #[.ref l,.int 0 0] }).push { cls:=.type "enumerate",data:=.fields #[.none,.bool false,.ref s.5,rawInt 1,.none,.none] } }):=
 .of_wp λprog w A R s h=>by
  obtain⟨hp,g,d,tk,os⟩:=s;obtain⟨hl,h⟩:=h;let N':=sub_enumerate;let hL:abi (Xh ⟨hp,g,d,tk,os⟩) l items:=(ac _ hl rfl (qq n rfl))
  wp_walk using wpAny_loadPart' hl
  show wpAny_stack_any λst=>ϫ ?_
  split
  ·rename_i c _ _ _ _ _
   cases (c == Cr "enumerate")
   ·wp_walk using wpAny_loadPart' hl,fg hL
    show(δ _ rfl h)
   ·wp_walk using wpAny_loadPart' hl,fg hL
    show(δ _ rfl h)
  ·wp_walk using wpAny_loadPart' hl,fg hL
   show(δ _ rfl h)
section
variable {s:ς}
def qP {t:Tok}{Q:Ω->ς->Prop}(hL:s.heap.IsList l items)
  (h:∀h',QN h' (s.5+1) s.5 1 .none->h'.IsListIter s.5 l 0->h'.7=s.5+2->
   (∀b o,s.heap.get? b=!o->h'.get? b=!o)->Q (.ref (s.5+1)) { s with heap:=h' }) :
  wpAny (model prog w) A (call (.type "enumerate") [.ref l] [("start",.int 1 t)]) Q E s:=by
 (revert hL;show ia λϐ hl hc=>uf λn hd=>?_;obtain ⟨c,dct,dt,sl⟩:=ϐ);subst hc hd;show wO (Q₁:=λobj s₁=>s₁.TypeIs obj "enumerate" /\ Q obj s₁) PySem.F.called_enumerate (qw _ _) (qO _ _) PySem.F.entry_enumerate_new PySem.F.entry_object_init (qx l items n dct sl t) ⟨hl,?_⟩
  (λobj _ hq=>⟨hq.1,sF _ _ _,(δ _ (sy PySem.F.called_enumerate.init.lookup PySem.F.called_enumerate.made "!") ⟨hq.1,rfl,hq.2⟩)⟩)
 let hz:(s.heap.push { cls:=.type "list_iterator",data:=.fields #[.ref l,.int 0 0] }).7=s.5+1:=bp ..;change _/\_;rw[hz]
 let he:QN ((s.heap.push { cls:=.type "list_iterator",data:=.fields #[.ref l,.int 0 0] }).push
   { cls:=.type "enumerate",data:=.fields #[.none,.bool false,.ref s.5,rawInt 1,.none,.none] }) (s.5+1) s.5 1 .none:=by
  have:=ϑ (s.heap.push { cls:=.type "list_iterator",data:=.fields #[.ref l,.int 0 0] })
   (o:={ cls:=.type "enumerate",data:=.fields #[.none,.bool false,.ref s.5,rawInt 1,.none,.none] }) rfl
  rw[hz] at this;show this
 show⟨(δ _ he rfl),h _ he (ac _ (Χ _ (ϑ _ rfl)) rfl rfl) (by rw[bp,hz]) λb o x=>Χ _ (Χ _ x)⟩
end
section
variable {M:UA} {s:ς} 
def vn {Q:Ω->ς->Prop}
  (ui:args.any (·.1)=false) (hkw:keywords.any (·.1.isNone)=false)
  (h:wpAny M A (evalArgs (.type T) true args keywords) (λa s₁=>wpAny M A (call (.type T) (first++a.pos) a.kw) Q E s₁) E s) :
  wpAny M A (callWith pos (.type T) first args keywords) Q E s:=by
 show θ (iU (fV h (λa s₁ h₁=>θ (LZ ?_)) λ_ _ x=>x));simp only[ui,hkw];show θ (ϫ (θ (fV h₁ (λr s₂ hr=>θ (iU (wpAny_point (ϫ hr)))) λ_ _ x=>x)))
def wP {rest:-bS}{Q:Ω->ς->Prop}
  (h:wpAny M A (spliced (backTo pos (starEach (e::rest) env))) (λvs s₁=>wpAny M A (evalAll ((backToKw pos (keywordEach kws env)).map (·.2)))
   (λkvs s₂=>wpAny M A (call (.type T) vs (((backToKw pos (keywordEach kws env)).filterMap (·.1)).zip kvs)) Q E s₂) E s₁) E s)
  (he: ~~~(backTo pos (starEach (e::rest) env)=(false,eval e env)::backTo pos (starEach rest env)))
  (ui: ~~~((backTo pos (starEach (e::rest) env)).any (·.1)=false))
  (RQ: ~~~((backToKw pos (keywordEach kws env)).all (·.1.isSome)=true))
  (hkw: ~~~((backToKw pos (keywordEach kws env)).any (·.1.isNone)=false)) :
  wpAny M A (callWith pos (.type T) [] (backTo pos (starEach (e::rest) env)) (backToKw pos (keywordEach kws env))) Q E s:=by
 show vn ui hkw ?_;rw[he] at h ⊢;show aci RQ h
end
end
section
open PySem PySem.Spec PyProof.Rows
section
variable {s:ς}
def oU {e it l:Ν}{j:Int}{old:Ω}{Q:Option Ω->ς->Prop}(hh:A.41=none)
  (he:QN s.12 e it j old) (hit:s.heap.IsListIter it l i) (hl:s.heap.IsList l items) (hx:items[i]?=none)
  (hQ:∀h',abj it s.12 h'->Q none { s with heap:=h' }):wpAny (model prog w) A (pyNext (.ref e)) Q E s:=by
 let hT:s.TypeIs (.ref e) "enumerate":=(δ _ he rfl)
 show θ (Ma (fH hT PySem.F.slot_enumerate_next
  (ko PySem.F.slot_enumerate_next hT PySem.F.entry_enumerate_next ?_ (PySem.F.args_enumerate_next_1 _))))
 change wpAny _ _ (field (.ref e) 2 >>= _) _ _ _;show θ (cZ he rfl rfl (θ (wpAny_nextOf_list_end hh hit hl hx λh' x DU Ox=>?_)));(revert Ox;show ay λo ho hc=>?_);show θ (abk (δ o ho hc) ae' (ϫ (hQ _ DU)))
end
def Hf {it:Ν}{P:Nat->Ω->Prop}{St:Nat->a9->Prop}(D:Draws prog w A it fp n P St) :
  Draws prog w A it fp (n+1) (λi=>P (i - 1)) (λi h=>1<=i/\St (i - 1) h) where
 live:=λi h st=>D.live _ _ st.2
 frame:=λi h h' st k=>⟨st.1,D.frame _ _ _ st.2 k⟩
 item:=λi s Q E hi st hQ=>D.item (i - 1) s Q E () st.2 λx h' tk hP hs sb=>hQ x h' tk hP ⟨(),by rw[Nat.sub_add_cancel st.1] at hs;show hs⟩ sb
 done:=λs Q E st hE=>D.done s Q E st.2 hE
abbrev Z4 (K:ζ)(a:Ν):It:=
 ⟨λi H=>∃xs x,fK K H a xs/\xs[i]?=!x,
  λi H v H'=>∃T x,v=.ref T/\H T=none/\H'=upd H T (.tup [.int ((i:Nat)+1),x])/\∀xs,fK K H a xs->xs[i]?=!x,
  λi H=>∃xs,fK K H a xs/\xs.4<=i⟩
def Kk {P:ah}{K:ζ}(a e it:Ν)(hei:e≠it) :
  Turn P w K (.Tuple elts k0 pos) (Z4 K a) [e,it] e (λi h=>(∃old,QN h e it (((i:Nat):Int)+1) old)/\h.IsListIter it a i) where
 mem:=by simp
 obj:=λi h st c hc=>by
  obtain⟨⟨old,he⟩,⟨o1,e1,c1,d1⟩⟩:=st;simp only[Ι,Μ,ϖ] at hc;rcases hc with rfl | rfl
  ·show(δ _ he (λv q=>by cases q))
  ·show(δ _ e1 (λv q=>by rw[d1] at q;cases q))
 keep:=λi h h' st k=>by
  obtain⟨⟨old,he⟩,h1⟩:=st;show⟨⟨old,k _ ∅ _ he⟩,h1.at λo e=>k _ ∅ o e⟩
 item:=by
  intro X hP hw hK hc i pins s σ H E I hf st hg;subst hP hw hK;obtain⟨⟨old,he⟩,h1⟩:=st;(revert hg;show dB λxs x hx ex=>?_);(show au (I.list hx) λbn rv p _=>?_);(show Ϗ (rv.get ex) λu hu ru=>?_);let nai:a≠it:=λz=>by
   subst z;(show au p.18 λo ho Gm _=>?_);(revert h1;show ia λo2 ho2 hc2 _=>?_);rw[ho] at ho2;cases ho2;rw[Gm] at hc2;injection hc2 with z;show absurd z "!"
  let nea:e≠a:=λz=>by
   subst z;(show au p.18 λo ho Gm _=>?_);let DU:=he;unfold QN at DU;rw[ho] at DU;cases DU;injection Gm with z;show absurd z "!"
  let uU:=(Α.mp hu).1;show wpAny_pyNext_enum_itemD (Hf (Draws.list (A:=X.A.93) (I.ok.hd hc) it a nai bn.10)) (i:=i+1) (by rw[show(((i+1:Nat)):Int)=(i:Int)+1 by lk];show he) ⟨(),h1,p.18⟩ (by simp;lk) hei (by simp;show⟨hei,nea⟩) λx' h' tk hPx a1 a2' a3 a4 hk=>?_;obtain rfl:x'=u:=by
   let hu':bn.10[i]?=!u:=by simpa using hu
   show ϲ (hPx.symm.trans hu')
  rw[show(((i+1:Nat)):Int)=(i:Int)+1 by lk] at a1 a3;show(δ _ rfl (I0 a1 λh'' ZP sb=>?_));let I2:Inv X pins σ (upd H s.5 (.tup [.int (i+1),x])) { s with heap:=h'',toks:=tk+1 }:=(I.rW (t':=tk+1) (λc o hc q=>sb.extBut _ _ (λz=>hc (by simp[z])) (hk c o (λz=>hc (by simp[z])) (λz=>hc (by simp[z])) q)) hf).Sm (I.EQ (ξ _) I.71) ⟨(by show 2<=sizeLine;decide),(δ ([.int (i+1) tk,x']) (.cons ⟨_,rfl⟩ (.cons ru .nil)) (ac _ (sb.extBut _ _ (fG (ύ he)) a3) rfl (qq _ rfl)))⟩ (λ_ _=>trivial);show(CI (.ref s.5) _ I2 rfl (fk _ x rfl I.71 rfl (λzs hq=>by rw[I.u0 hq hx];show ex)) ?_ (λc hc=>?_))
  ·show⟨⟨x',by rw[show(((i+1:Nat)):Int)=(i:Int)+1 by lk];show ZP⟩,a2'.2.1.extBut sb.32 (ό hei)⟩
  ·let DN:c < s.5:=by
    (revert h1;show ay λo1 e1 _=>?_);simp only[Ι,Μ,ϖ] at hc;rcases hc with rfl | rfl
    ·show ύ he
    ·show ύ e1
   rw[ν (Ϫ DN)];show(hf c hc).1
 done:=by
  intro X hP hw hK hc i pins s σ H E I hf st hg;subst hP hw hK;obtain⟨⟨old,he⟩,h1⟩:=st;(revert hg;show ay λxs hx ady=>?_);(show au (I.list hx) λbn rv p _=>?_);let l1:=rv.4;show oU (I.ok.hd hc) he h1 p.18 (by simp;lk) λh' hk=>⟨rfl,(I.rW (λc o hc q=>hk c o (λz=>hc (by simp[z])) q) hf)⟩
 self:=λ_ _ _ _ _ st h=>by
  obtain⟨⟨old,he⟩,_⟩:=st;show qo he h
section
variable {X:Cx}
abbrev Z5 (K:ζ)(te:TE):TI:=λσ H R=>te σ H λv H1=>∃a xs,v=.ref a/\fK K H1 a xs/\R (Z4 K a) H1
def SL {K:ζ}{cj}(hg:Gl X "enumerate")(hm:X.mg "enumerate"=none)(hE:PE X e te)(hK: ~~~(X.K=K))
  (he: ~~~(backTo pos (starEach [e] X.8)=[(false,eval e X.8)])) (h2: ~~~(((backTo pos (starEach [e] X.8)).any (·.1)=false))) :
  PI X (.Tuple elts k0 Vc) (.Call (.Name "enumerate" p) [e] [⟨some "start",.Constant (.int 1) cj ip,kp⟩] pos) (Z5 K te):=by
 subst hK;intro pins s σ H R I h;show bW (kG I hg hm ae6 (wP ?_ he h2) "!" "!");rw[he];show aM (dM (hE pins s σ H _ I h) λu s1 v H1 I1 r1 q1=>cf (kws_cons (dM (π pins s1 σ H1 (λy H2=>y=.int 1/\H2=H1) I1 ⟨rfl,rfl⟩) λu2 s2 v2 H2 I2 r2 q2=>kws_nil ?_)));obtain⟨e2,e3⟩:=q2;subst e2 e3;obtain⟨t2,rfl⟩:=r2;(revert q1;show gI λa xs ϐ hx q=>?_;subst ϐ);cases r1;(show au (I2.list hx) λbn rx px _=>?_);show qP px.18 λh' z1 z2 z3 hk=>qo z1 (EH _ _ _ _ H2 rfl (I2.kept hk) (Kk a _ _ (fG (fh _))) ⟨⟨_,(show(0:Int)+1=1 from rfl)▸z1⟩,z2⟩ (λc hc=>?_) q);let DN:s2.5<=c:=by
  simp only[Ι,Μ,ϖ] at hc;rcases hc with rfl | rfl<;>lk
 show I2.EQ DN (I2.cx.fresh DN)
end
def Kl {K:ζ}(Pv:Nat->St->Hp->Prop)(h0:Pv 0 σ H)(hl:∀i σ H,i<=xs.4->Pv i σ H->fK K H a xs)
  (hs:∀i x T σ H,xs[i]?=!x->H T=none->Pv i σ H->g (.ref T) σ (upd H T (.tup [.int ((i:Nat)+1),x])) λσ2 H2=>tb { D with nx:=Pv (i+1),ct:=Pv (i+1),bk:=D.nx } σ2 H2)
  (hd:∀σ H,Pv xs.4 σ H->D.nx σ H):GY (Z4 K a) g tb D σ H:=by
 show(δ (λi m σ H=>m=xs.4 - i/\i<=xs.4/\Pv i σ H) (ac _ rfl (Ϝ _) h0) ?_)
 rintro i m σ H ⟨rfl,hi,p⟩
 let lx:=hl i σ H hi p
 by_cases kz:i < xs.4
 ·show .inr ⟨(cJ xs (xs[i]) lx ∅),(δ (Pv (i+1)) (λσ' H' p'=>(mh (xs.4 - (i+1)) () rfl kz p')) (λv H' y=>?_))⟩
  (revert y;show su λT x ϐ hT gO h1=>?_;subst ϐ;subst gO);show hs i x T σ _ (h1 xs lx) hT p
 ·let e:i=xs.4:=by lk
  subst e;show .inl ⟨(δ xs lx ()),hd σ H p⟩
noncomputable abbrev Dd:=Str×Int×Str
abbrev aH:Str:=Κ "open"
structure eY where
 ds:-Dd
 B:Str->Option Int
 sz:Nat
abbrev wQ:eY:=⟨[],λ_=>none,0⟩
abbrev Km (dl bz:Ν):-(Str×V):=[("deeds",.ref dl),("busy",.ref bz)]
abbrev jY (x:Dd)(sp pl:Ν):-(Str×V):=[("sender",.str x.1),("ends",.int x.2.1),("fate",.str x.2.2),("spots",.ref sp),("pledges",.ref pl)]
structure cu (C CD:Ν)(H:Hp)(r dl bz:Ν)(us:-Ν)(M:eY):Prop where
 obj:∃dx,H r=!.ins C dx (Km dl bz)
 lst:H dl=!.lst (us.map V.ref)
 len:us.4=M.ds.4
 each:∀(i:Nat) u x,us[i]?=!u->M.ds[i]?=!x->∃dx sp pl,H u=!.ins CD dx (jY x sp pl)
 nd:us.13
 Kn:∃kvs,H bz=!.dK kvs/\kvs.4<=M.sz/\∀z,a8 kvs (.inr z)=(M.B z).map V.int
 ru:r∉us
def cu.bO {A:-Ν}{dl:Ν}(h:cu C CD H r dl bz us M)(c:ϰ A H H')(hr:r∉A)(hd:dl∉A)(hb:bz∉A)(hu:∀u∈us,u∉A):cu C CD H' r dl bz us M:=by
 obtain⟨dx,e⟩:=h.27;(show au h.Kn λkvs e2 l2 v2=>?_);show⟨⟨dx,c.keep _ _ e hr⟩,c.keep _ _ h.33 hd,h.26,λi u x h1 h2=>?_,h.nd,(ac kvs (c.keep _ _ e2 hb) l2 v2),h.ru⟩;(show EI (h.each i u x h1 h2) λdx sp pl e3=>?_);show(zR dx sp pl (c.keep _ _ e3 (hu u (Β h1))))
def cu.same {dl:Ν}(h:cu C CD H r dl bz us M)(s:ι H H'):cu C CD H' r dl bz us M:=h.bO (A:=[]) (ϰ.of_same s) ∅ ∅ ∅ (λ_ _=>by simp)
def qQ (dl bz:Ν):(Km dl bz).lookup (Κ "deeds")=!.ref dl:=rfl
def rZ (dl bz:Ν):(Km dl bz).lookup (Κ "busy")=!.ref bz:=rfl
def AG (x:Dd)(sp pl:Ν):(jY x sp pl).lookup (Κ "sender")=!.str x.1:=rfl
def SM (x:Dd)(sp pl:Ν):(jY x sp pl).lookup (Κ "ends")=!.int x.2.1:=rfl
def SN (x:Dd)(sp pl:Ν):(jY x sp pl).lookup (Κ "fate")=!.str x.2.2:=rfl
def SO (x:Dd)(sp pl:Ν)(z:Str):qu "fate" (.str z) (jY x sp pl)=jY (x.1,x.2.1,z) sp pl:=rfl
abbrev eY.begin (M:eY)(s:Str)(e:Int):eY:=⟨M.ds++[(s,e,aH)],λz=>if z=s then some (M.ds.4+1) else M.B z,M.sz+1⟩
abbrev eY.finish (M:eY)(i:Nat)(x:Dd)(z:Str):eY:=⟨M.ds.set i (x.1,x.2.1,z),λy=>if y=x.1 then none else M.B y,M.sz⟩
abbrev Oy (C CD:Ν):Sp:=aR λx=>aN λH Q _=>∃dx,H x=!.ins C dx []/\∀dl bz H',H dl=none->H bz=none->ϰ [x] H H'->cu C CD H' x dl bz [] wQ->Q .bM H'
abbrev Oz (C CD:Ν):Sp:=aR λr=>aN λH Q _=>∃dl bz us M,cu C CD H r dl bz us M/\Q (.int (M.ds.4+1)) H
abbrev OA (C CD:Ν):Sp:=aR λr=>aS λs=>aN λH Q _=>∃dl bz us M,cu C CD H r dl bz us M/\Q (.int ((M.B s).getD 0)) H
abbrev odd (M:eY)(t:Int)(i:Nat):Bool:=match M.ds[i]? with
 | some x=>decide (x.2.2=aH) && decide (x.2.1<=t)
 | none=>false
abbrev i8 (M:eY)(t:Int)(n:Nat):-Int:=((aU n).filter (odd M t)).map λ(i:Nat)=>(i:Int)+1
abbrev OB (C CD:Ν):Sp:=aR λr=>aI λt=>aN λH Q _=>∃dl bz us M,cu C CD H r dl bz us M/\M.ds.4<=1000/\∀D H',H D=none->ι H H'->H' D=!.lst ((i8 M t M.ds.4).map V.int)->Q (.ref D) H'
def AH (M:eY)(t:Int)(n:Nat):i8 M t (n+1)=i8 M t n++(if odd M t n=true then[(n:Int)+1] else[]):=by
 unfold i8;rw[zM,ir,Ϣ]
 by_cases c:odd M t n=true
 ·rw[ε c,cS c];rfl
 ·rw[Ψ c,bT c];rfl
structure xW (M:eY):Prop where
 a:∀z n,M.B z=!n->∃(i:Nat) (e:Int),n=i+1/\M.ds[i]?=!(z,e,aH)
 b:∀(i:Nat) x,M.ds[i]?=!x->x.2.2=aH->M.B x.1=!((i:Int)+1)
def xW.begin (h:xW M)(s:Str)(e:Int)(hs:M.B s=none):xW (M.begin s e):=by
 show⟨λz n hz=>?_,λi x hx ho=>?_⟩
 ·let OC:(if z=s then some ((M.ds.4:Int)+1) else M.B z)=!n:=hz
  change ∃(i:Nat) (e':Int),n=i+1/\(M.ds++[(s,e,aH)])[i]?=!(z,e',aH)
  by_cases c:z=s
  ·rw[ε c] at OC
   cases OC;show(cJ M.ds.4 e rfl (by rw[Ϙ (ξ _),qA,c];rfl))
  ·rw[Ψ c] at OC
   (show zU (h.a z n OC) λi e' h1 h2=>?_);show(cJ i e' h1 (by rw[ϟ (Α.mp h2).1];show h2))
 ·let Ox:(M.ds++[(s,e,aH)])[i]?=!x:=hx
  show(if x.1=s then some ((M.ds.4:Int)+1) else M.B x.1)=!((i:Int)+1)
  by_cases c:i < M.ds.4
  ·rw[ϟ c] at Ox
   let hb:=h.b i x Ox ho;rw[Ψ (λz=>by rw[z,hs] at hb;cases hb)];show hb
  ·rw[Ϙ ()] at Ox
   let hi:i - M.ds.4=0:=by
    cases k:i - M.ds.4 with
    | zero=>rfl
    | succ k=>rw[k] at Ox;simp at Ox
   rw[hi] at Ox;simp at Ox;subst Ox;rw[ε rfl,show i=M.ds.4 by lk]
def xW.finish (h:xW M){x:Dd}(hx:M.ds[i]?=!x)(hb:M.B x.1=!((i:Int)+1))(hz:z≠aH):xW (M.finish i x z):=by
 show⟨λy n hy=>?_,λj w hw ho=>?_⟩
 ·let Mq:(if y=x.1 then none else M.B y)=!n:=hy
  by_cases c:y=x.1
  ·rw[ε c] at Mq;cases Mq
  ·rw[Ψ c] at Mq
   (show zU (h.a y n Mq) λj e' h1 h2=>?_);show(cJ j e' h1 ?_);show(M.ds.set i (x.1,x.2.1,z))[j]?=_;rw[ak (λq=>c ?_)]
   ·show h2
   ·subst q
    rw[hx] at h2;cases h2;rfl
 ·let jZ:(M.ds.set i (x.1,x.2.1,z))[j]?=!w:=hw
  show(if w.1=x.1 then none else M.B w.1)=!j+1
  by_cases c:i=j
  ·subst c
   rw[ar ((Α.mp hx).1)] at jZ;cases jZ;show absurd ho hz
  ·rw[ak c] at jZ
   let Wj:=h.b j w jZ ho;rw[Ψ (λq=>by rw[q,hb] at Wj;cases Wj;show c rfl)];show Wj
def Paired.adR {F:α->β->Prop}{a:α}{b:β}(f:F a b){as:-α}{bs:-β}(r:Paired F as bs):Paired F (as++[a]) (bs++[b]):=by
 induction r with
 | nil=>show .cons f .nil
 | cons r t ih=>show .cons r ih
def bb.add {D t:Ν}{r:-V}(h:bb H D rows)(c:ϰ [D] H H')(ht:H' t=!.tup r)(hD:∀ts,H D=!.lst ts->H' D=!.lst (ts++[V.ref t])):bb H' D (rows++[r]):=by
 (revert h;show ay λts e z=>?_);show(δ (ts++[t]) (by rw[hD _ e,Ϣ];rfl) ((z.bO c).snoc ht))
abbrev Ko (J:It)(n:Nat)(g:TG)(tt:TT)(te:TE)(σ:St)(H1:Hp)(Q:VK):Prop:=∀D,H1 D=none->∃W:Nat->Nat->-V->Hp->Prop,(∃m,W 0 m [] (upd H1 D (.lst [])))/\∀i m ys H2,W i m ys H2->
 (J.stop i H2/\H2 D=!.lst ys/\Q (.ref D) H2)\/(J.go i H2/\ys.4 < sizeLine/\∀x H3,J.Mh i H2 x H3->∀o,o.4=n->g x (o++σ) H3 λσ' H3'=>(∃o',o'.4=n/\σ'=o'++σ)/\tt σ' H3' λb H4=>
  if b=true then te σ' H4 λy H5=>H5 D=!.lst ys/\∃m',m' < m/\W (i+1) m' (ys++[y]) (upd H5 D (.lst (ys++[y]))) else ∃m',m' < m/\W (i+1) m' ys H4)
def abI (n:Nat)(wi:TI)(g:TG)(tt:TT)(te:TE)(σ:St)(H:Hp)(Q:VK):JV n wi g tt te σ H Q=wi σ H λJ H1=>Ko J n g tt te σ H1 Q:=rfl
def Hg {K:ζ}(hl:bb H a rows)(hn:rows.4<=1000)(hw:∀xs∈rows,xs.4=n)(q:-V->Bool)(f:-V->V)
  (hg:∀t xs H' (o:St) (R:St->Hp->Prop),xs∈rows->ι H H'->H' t=!.tup xs->o.4=n->R (xs.map some++σ) H'->g (.ref t) (o++σ) H' R)
  (ht:∀xs H',xs∈rows->ι H H'->∀Qt:Bool->Hp->Prop,(∀kh,ι H' kh->Qt (q xs) kh)->tt (xs.map some++σ) H' Qt)
  (he:∀xs H',xs∈rows->q xs=true->ι H H'->∀Qe:VK,(∀kh,ι H' kh->Qe (f xs) kh)->te (xs.map some++σ) H' Qe)
  (hd:∀D H',H D=none->ι H H'->H' D=!.lst ((rows.filter q).map f)->Q (.ref D) H'):Ko (Mj K a) n g tt te σ H Q:=by
 (revert hl;show ay λts e hT=>?_);let hlen:=hT.4;intro D hD;show(δ (λi m ys H2=>m=rows.4 - i/\i<=rows.4/\ys=((rows.take i).filter q).map f/\ι H H2/\H2 D=!.lst ys) (GD _ rfl (Ϝ _) rfl (ι.upd hD) Δ) ?_)
 rintro i m ys H2 ⟨rfl,hi,rfl,sm,Jg⟩
 let sq:fK K H2 a (ts.map V.ref):=.inl (.inl (sm _ _ e))
 by_cases kz:i < rows.4
 ·let ND:(((rows.take i).filter q).map f).4 < sizeLine:=by
   rw[Η];let h1:=cw q (rows.take i);rw[af] at h1;show υ (show((rows.take i).filter q).4<=1000 by lk) "!"
  show .inr ⟨(cJ (ts.map V.ref) (V.ref (ts[i]'())) sq ∅),ND,?_⟩
  rintro x H3 ⟨rfl,hx⟩ o ho
  let Ox:=hx _ sq;rw[Ξ] at Ox;(show Ϗ (χ.mp Ox) λt SQ ϐ=>?_;subst ϐ);(show Ϗ (hT.get SQ) λxs hxs hxt=>?_);let hm:=Β hxs;let Vs:rows.take (i+1)=rows.take i++[xs]:=by rw[cR,hxs];rfl
  show hg t xs H3 o _ hm sm (sm _ _ hxt) ho ⟨(δ (xs.map some) (by rw[Η];show hw xs hm) rfl),ht xs H3 hm sm _ λH4 s4=>?_⟩
  by_cases c:q xs=true
  ·rw[ε c]
   show he xs H4 hm c (sm.trans s4) _ λH5 s5=>⟨s5 _ _ (s4 _ _ Jg),(Nk (rows.4 - (i+1)) () rfl kz ?_ ?_ Δ)⟩
   ·rw[Vs,ir,Ϣ,cS c,qB];rfl
   ·intro b o' hb
    rw[ν (aj hb hD)];show s5 _ _ (s4 _ _ (sm _ _ hb))
  ·rw[Ψ c]
   show(Nk (rows.4 - (i+1)) () rfl kz ?_ (sm.trans s4) (s4 _ _ Jg));rw[Vs,ir,bT c,qB,cV]
 ·have:i=rows.4:=by lk
  subst this;show .inl ⟨(δ (ts.map V.ref) sq (by rw[Η];lk)),Jg,?_⟩;rw[ϴ] at Jg;show hd D H2 hD sm Jg
structure SR where
 R:Str->Option (Int×Int)
 sz:Nat
abbrev read0:SR:=⟨λ_=>none,0⟩
abbrev adT (a b:Ν):-(Str×V):=[("rows",.ref a),("places",.ref b)]
structure ur (C:Ν)(H:Hp)(r a b:Ν)(M:SR):Prop where
 obj:∃dx,H r=!.ins C dx (adT a b)
 row:∃kvs,H a=!.dK kvs/\kvs.4<=M.sz/\(∀z,a8 kvs (.inr z)=(M.R z).map λx=>V.int x.1)/\∀p,a8 kvs (.inl p)=none
 pla:∃kvs,H b=!.dK kvs/\kvs.4<=M.sz/\∀z,a8 kvs (.inr z)=(M.R z).map λx=>V.int x.2
 ra:r≠a
 rb:r≠b
 ab:a≠b
def ur.bO {A:-Ν}(h:ur C H r a b M)(c:ϰ A H H')(hr:r∉A)(ha:a∉A)(hb:b∉A):ur C H' r a b M:=by
 obtain⟨dx,e⟩:=h.27;(show au h.row λk1 e1 l1 v1=>?_);(show au h.pla λk2 e2 l2 v2=>?_);show⟨⟨dx,c.keep _ _ e hr⟩,(ac k1 (c.keep _ _ e1 ha) l1 v1),(ac k2 (c.keep _ _ e2 hb) l2 v2),h.ra,h.rb,h.ab⟩
abbrev OD (C:Ν):Sp:=aR λx=>aN λH Q _=>∃dx,H x=!.ins C dx []/\
 ∀a b H',H a=none->H b=none->ϰ [x] H H'->ur C H' x a b read0->Q .bM H'
inductive kj (P:aox):-rO->Prop
 | nil:kj P []
 | cons {x:Str} {t:Tok} {u:Ω} {r:-rO}:kj P r->kj P (⟨Rg P x,.str x t,u⟩::r)
def kj.mem (h:kj P l):∀e∈l,∃x t,e.85=.str x t/\e.hash=Rg P x:=by
 induction h with
 | nil=>intro e he;cases he
 | cons _ ih=>
  intro e he;rcases Ι.mp he with rfl | he
  ·show(cJ _ _ rfl rfl)
  ·show ih e he
abbrev DV (es:Array rO)(x:Str):Option Ω:=findBy xJ es (.inr x)
abbrev Wk (w:dX)(K:ζ)(mg:Str->Option Ω)(x:Str)(F:-(Str×V)):Prop:=∃p es ep,mg x=!.ref p/\K.lookup p=some { cls:=.type "dict",dict:=none,data:=.dict es ep,slots:=#[] }/\
 kj w.40 es.34/\∀kv∈F,∃u,DV es kv.1=!u/\RelV kv.2 u
def Hh {es:Array rO}:∀kv∈([]:-(Str×V)),∃u,DV es kv.1=!u/\RelV kv.2 u:=λ_ h=>nomatch h
def dO {es:Array rO}{F:-(Str×V)}(h:DV es k=!u)(r:RelV v u)(t:∀kv∈F,∃u,DV es kv.1=!u/\RelV kv.2 u):∀kv∈(k,v)::F,∃u,DV es kv.1=!u/\RelV kv.2 u:=λkv hkv=>by
 rcases Ι.mp hkv with rfl | hkv
 ·show(δ u h r)
 ·show t kv hkv
abbrev ahW (F:-(Str×V))(te:TE):TE:=λσ H Q=>te σ H λy H1=>∃kv∈F,y=.str kv.1/\Q kv.2 H1
section
variable {X:Cx}
def Fk {K:ζ}{F:-(Str×V)}(c:Wk w K X.mg x F)(he:PE X e te)(hs:EV e)(hg: ~~~(Gl X x))(hw: ~~~(X.w=w))(hK: ~~~(X.K=K))(hd:autoParam (EM x) L2.fR._auto_1) :
  PE X (.Subscript (.Name x p) e pos) (ahW F te):=by
 subst hw;subst hK;intro pins s σ H Q I h;(revert c;show Ve λa es ep hm hl hk hf=>?_);show Xe (Vo (R:=λv y H2=>v=.ref a/\∃kv∈F,y=.str kv.1/\Q kv.2 H2) (EN (v:=.ref a) hg hm rfl hd) he I ?_ λv u s2 y z H2 I2 ry rz q=>?_)
 ·change te σ H _
  show(?_);let e:(λ(y:V) H1=>V.ref a=V.ref a/\∃kv∈F,y=.str kv.1/\Q kv.2 H1)=λy H1=>∃kv∈F,y=.str kv.1/\Q kv.2 H1:=by
   simp
  rw[e];show h
 ·(revert q;show ke λϐ=>ia λkv hkv gO q=>?_;subst ϐ;subst gO)
  cases (ry);(show Ϗ (hf kv hkv) λw' hw Ah=>?_);let ho:=I2.wm _ _ hl;let hT:s2.TypeIs (.ref a) "dict":=(δ _ ho rfl)
  let hM:s2.heap.MapOf (bX X.29 X.w) a (findBy xJ es):=(dL _ es ep ho ⟨rfl,rfl,rfl⟩ rfl (λe he=>by
   (show zU (hk.mem e (by simpa using he)) λx t e1 e2=>?_)
   show(δ (.inr x) (by rw[e1];show xK _ _ x t) e2)) (λk=>rfl))
  show Ut hT PySem.F.slot_dict_getitem.lookup (abf (tw (k:=.inr kv.1) rz) hM hw ?_) (hs _ _);show(ϧ kv.2 H2 (I2.tok _) Ah q)
inductive OE (X:Cx) (E:XK):-(Ν×Sp)->Prop
 | nil:OE X E []
 | cons {CX:RI} {k:Nat} {f:Ν} {fd:fF} {ps:-Str} {sp:Sp} {L:-(Ν×Sp)} (F:X.Fo CX k f fd ps sp) (hr:ga k X.A) (hk:ix X.K (.ref f)=true) (hb:Binds X.K fd ps []) (hx:Passes CX X E):OE X E L->OE X E ((f,sp)::L)
def OE.get {E:XK}{L:-(Ν×Sp)}(c:OE X E L){f:Ν}{sp:Sp}(h:(f,sp)∈L):∃CX k fd ps,X.Fo CX k f fd ps sp/\ga k X.A/\ix X.K (.ref f)=true/\Binds X.K fd ps []/\Passes CX X E:=by
 induction c with
 | nil=>cases h
 | cons F hr hk hb hx r ih=>
  rcases Ι.mp h with e | h
  ·cases e;show(Jr _ _ _ _ F hr hk hb hx)
  ·show ih h
abbrev Z8 (L:-(Ν×Sp))(E:XK)(te:TE)(t:TA):TE:=λσ H Q=>te σ H λx H1=>∃f sp,x=.ref f/\(f,sp)∈L/\t σ H1 λvs H2=>sp vs H2 Q E
def SS {t:TA}{E:XK}(c:OE X E L)(hx:PE X (.Name x p) te)(ha:PA X (e::es) t)
  (he: ~~~(RH X e es)) (lZ: ~~~(Xu X pos es)) :
  PE X (.Call (.Name x p) (e::es) [] pos) (Z8 L E te t):=by
 intro pins s σ H Q I h;show bW (iZ (hx pins s σ H _ I h) λv s1 η=>kf η λy H1 I1 r1=>gI λf sp ey hm q1=>?_);subst ey;cases (r1);(show acl (c.get hm) λCX k fd ps F=>yz λhr hk hb hp=>?_);show zg I.64 hk (zW (ha pos pins s1 σ H1 _ I1 q1) λus s2 vs H2 I2 r q=>⟨I2.wm,(ET F hr hb .nil hp I2 r (by rw[cV];show q))⟩) he lZ
end
abbrev Kp:Sp:=aT λz1=>aN λH Q _=>∃c,z1=[c]/\oS c=true/\Q (.bl true) H
abbrev OF:Sp:=aT λl=>aN λH Q _=>Fm l 1 24 oS/\∀H',ι H H'->Q (.bl true) H'
abbrev Kq:Sp:=aV λx=>aN λH Q _=>(x=.bM\/∃l,x=.str (S l)/\Fm l 0 200 oS)/\∀H',ι H H'->Q (.bl true) H'
abbrev AI:Sp:=λ_ _ _ _=>False
def qv.never {K:ζ}:qv P w K mg base CX k f fd ps AI:=
 ⟨λ_ _ _ _ h=>h.38,λ_ _ _ _ _ _ _ _ _ _ _ _ _ h=>h.38⟩
abbrev qR:-Str:=["sender","key","group","shelf","taker","reader"]
abbrev tK (o:Option (-Nat)):-Nat:=match o with
 | none=>[45]
 | some w=>61::w
abbrev Hi (p:Str)(v:V)(t:-Nat):Prop:=(p∈qR/\v=.str (S t))\/(p="word" /\ ∃o,v=wV o/\t=tK o)\/(p∉qR/\p ≠ "word" /\ p ≠ "owner" /\ ∃n:Nat,v=.int (n:Int)/\n < 10 ^ 10/\t=dU (n:Int))
abbrev Fl:Sp:=aV λz1=>aN λH Q _=>∃o,z1=wV o/\(∀w,o=!w->w.4<=1000)/\Q (.str (S (tK o))) H
abbrev Kr:Sp:=aS λp=>aV λv=>aN λH Q _=>∃t,Hi p v t/\t.4<=1000/\Q (.str (S t)) H
section
variable {s:ς}
def Ks {it t:Ν}{x:Ω}{Q:Ω->ς->Prop}(hit:s.heap.IsTupleIter it t i)(ht:s.heap.IsTuple t items)(hx:items[i]?=!x)
  (hQ:∀h',h'.IsTupleIter it t (i+1)->ql it s.12 h'->Q x { s with heap:=h' }):wpAny (model prog w) A (rP (.ref it)) Q E s:=by
 (show au (id hit) λo ho hc hd=>?_);(revert ht;show ia λol ZS _=>uf λnl Go=>?_);show θ (fH hit.35 PySem.F.slot_tuple_iterator_next (ko PySem.F.slot_tuple_iterator_next hit.35 PySem.F.entry_tuple_iterator_next ?_ (PySem.F.args_tuple_iterator_next_1 _)));change wpAny _ _ (field (.ref it) 0 >>= _) _ _ s;show θ (cZ ho hd rfl (θ (cZ ho hd rfl ?_)));show θ (gW ZS Go ?_);simp only[bG,hx];show θ (afa ho hd ∅ (ϫ (δ x rfl ?_)));let hi:(s.heap.update it (Obj.mapFields (·.setIfInBounds 1 (rawInt (i+1))))).IsTupleIter it t (i+1):=
  (ac _ (IZ _ ho (Obj.isFreed_of_fields (QQ hd _))) ((Obj.cls_mapFields ..).trans hc) (by rw[QQ hd];simp[rawInt]))
 first
  | show ϫ (hQ _ hi (oI ..))
  | show hQ _ hi (oI ..)
def AJ {it t:Ν}{Q:Ω->ς->Prop}(hh:A.41=none)(hit:s.heap.IsTupleIter it t i)(ht:s.heap.IsTuple t items)(hx:items[i]?=none)
  (hE:∀h' e,abj it s.12 h'->(∃o,h'.get? e=!o/\o.98=.type "StopIteration")->E (.ref e) { s with heap:=h' }):wpAny (model prog w) A (rP (.ref it)) Q E s:=by
 (show au (id hit) λo ho hc hd=>?_);(revert ht;show ia λol ZS _=>uf λnl Go=>?_);show θ (fH hit.35 PySem.F.slot_tuple_iterator_next (ko PySem.F.slot_tuple_iterator_next hit.35 PySem.F.entry_tuple_iterator_next ?_ (PySem.F.args_tuple_iterator_next_1 _)));change wpAny _ _ (field (.ref it) 0 >>= _) _ _ s;show θ (cZ ho hd rfl (θ (cZ ho hd rfl ?_)));show θ (gW ZS Go ?_);simp only[bG,hx];show θ (Xi (θ (afa ho hd ∅ (θ ?_))));show θ (Cu (θ (alC (by first | rfl | (simp only[firstArgMember];rfl)) ?_)) (by size_fits));show Cu (θ (wpAny_handled ?_)) (by size_fits);rw[show A.in1.41=none from hh];show θ (ϫ (wpAny_throw (hE _ _ (((oI ..).extBut.push _).push _) (δ _ (ϑ _ rfl) rfl))))
def OG {z TI TO i2:Ν}{k1 k2:Nat}{xs ys:Array Ω}{x y a b:Ω}{Q:Ω->ς->Prop}(D:I8 z TI TO i1 i2 l1 l2)
  (hz:Nf s.12 z TI TO .none) (CT:kq s.12 TI (.ref i1) (.ref i2)) (CU:kq s.12 TO a b)
  (h1:s.heap.IsTupleIter i1 l1 k1) (h2:s.heap.IsListIter i2 l2 k2) (J8:s.heap.IsTuple l1 xs) (CN:s.heap.IsList l2 ys) (hx:xs[k1]?=!x) (hy:ys[k2]?=!y)
  (hQ:∀h',Nf h' z TI TO (rawInt s.5)->kq h' TO x y->h'.IsTupleIter i1 l1 (k1+1)->h'.IsListIter i2 l2 (k2+1)->kq h' s.5 x y->h'.7=s.5+1->
   (∀c o,c≠z->c≠TO->c≠i1->c≠i2->s.heap.get? c=!o->h'.get? c=!o)->Q (.ref s.5) { s with heap:=h' }) :
  wpAny (model prog w) A (Gv.«zip.__next__» ⟨[.ref z],[]⟩) (λfin s'=>∃v,fin=.done (.ret v)/\Q v s') E s:=by
 change wpAny _ _ (field (.ref z) 2 >>= _) _ _ _;show θ (cZ hz rfl rfl (θ (cZ hz rfl rfl (θ (gW CT rfl ?_)))));show θ (θ (cZ hz rfl rfl (ϫ ?_)));show θ (Xi (θ (cZ hz rfl rfl (θ (i6 hz ∅ λg1 z1 b1=>θ ?_)))));show θ (θ (Mb ?_));show θ (Ks (h1.extBut b1.32 D.i1z) (J8.extBut b1.32 D.l1z) hx λg2 t2 b2=>ϫ ?_);let o2:=b2.extBut _ _ D.TOi1 (b1.extBut _ _ D.TOz CU);show θ (gW o2 rfl (θ (UC o2 λg3 o3 b3=>θ (alD (ϫ ?_)))));show θ (θ (Mb ?_));show θ (wpAny_nextOf_list_item (((h2.extBut b1.32 D.i2z).extBut b2.32 D.i12.17).extBut b3.32 D.TOi2.17) (((CN.extBut b1.32 D.l2z).extBut b2.32 D.l2i1).extBut b3.32 D.l2TO) hy λg4 t4 b4=>ϫ ?_);let o4:=b4.extBut _ _ D.TOi2 o3;show θ (gW o4 rfl (θ (UC o4 λg5 o5 b5=>θ (alD (ϫ (ϫ ?_))))));replace o5:kq g5 TO x y:=o5;show θ (gW o5 rfl (θ (wpAny_newTuple ?_)));let sz:g5.7=s.5:=by rw[b5.1,b4.1,b3.1,b2.1,b1.1]
 let z5:=b5.extBut _ _ D.TOz.17 (b4.extBut _ _ D.i2z.17 (b3.extBut _ _ D.TOz.17 (b2.extBut _ _ D.i1z.17 z1)));let k5:∀c o,c≠z->c≠TO->c≠i1->c≠i2->s.heap.get? c=!o->g5.get? c=!o:=λc o c1 c2 c3 c4 e=>b5.extBut _ _ c2 (b4.extBut _ _ c4 (b3.extBut _ _ c2 (b2.extBut _ _ c3 (b1.extBut _ _ c1 e))));let t5:=((t2.extBut b3.32 D.TOi1.17).extBut b4.32 D.i12).extBut b5.32 D.TOi1.17;let l5:=t4.extBut b5.32 D.TOi2.17;let zlt:=ύ z5;change wpAny _ _ (ma (.ref z) (.ref g5.7) >>= _) _ _ _;show θ ?_;unfold ma;let z6:Nf (g5.push { cls:=.type "tuple",data:=.seq #[x,y] }) z TI TO .ellipsis:=Χ _ z5;show θ (i6 z6 ∅ λg7 z7 b7=>(i6 z7 ∅ λg8 z8 b8=>?_));let up:∀c o,c≠z->g5.get? c=!o->g8.get? c=!o:=λc o c1 e=>b8.extBut _ _ c1 (b7.extBut _ _ c1 (Χ _ e));let p8:=b8.extBut _ _ (fG zlt) (b7.extBut _ _ (fG zlt) (ϑ _ rfl));let s8:g8.7=g5.7+1:=by rw[b8.1,b7.1,bp]
 rw[sz] at z8 p8 s8;show ϫ (δ _ rfl ?_);change Q (.ref g5.7) _;rw[sz];(revert t5;show ay λe1 q1 r1=>?_);(revert l5;show ay λe2 q2 r2=>?_);show hQ g8 z8 (up _ _ D.TOz o5) (δ e1 (up _ _ D.i1z q1) r1) (δ e2 (up _ _ D.i2z q2) r2) p8 s8 λc o c1 c2 c3 c4 e=>up c o c1 (k5 c o c1 c2 c3 c4 e)
def OH {z TI TO i2:Ν}{k1 k2:Nat}{xs ys:Array Ω}{x y a b:Ω}{Q:Option Ω->ς->Prop}(D:I8 z TI TO i1 i2 l1 l2)
  (hz:Nf s.12 z TI TO .none) (CT:kq s.12 TI (.ref i1) (.ref i2)) (CU:kq s.12 TO a b)
  (h1:s.heap.IsTupleIter i1 l1 k1) (h2:s.heap.IsListIter i2 l2 k2) (J8:s.heap.IsTuple l1 xs) (CN:s.heap.IsList l2 ys) (hx:xs[k1]?=!x) (hy:ys[k2]?=!y)
  (hQ:∀h',Nf h' z TI TO (rawInt s.5)->kq h' TO x y->h'.IsTupleIter i1 l1 (k1+1)->h'.IsListIter i2 l2 (k2+1)->kq h' s.5 x y->h'.7=s.5+1->
   (∀c o,c≠z->c≠TO->c≠i1->c≠i2->s.heap.get? c=!o->h'.get? c=!o)->Q (!.ref s.5) { s with heap:=h' }):wpAny (model prog w) A (pyNext (.ref z)) Q E s:=by
 let hT:s.TypeIs (.ref z) "zip":=(δ _ hz rfl)
 show θ (Ma (fH hT PySem.F.slot_zip_next (ko PySem.F.slot_zip_next hT PySem.F.entry_zip_next
  (OG D hz CT CU h1 h2 J8 CN hx hy λh' a1 a2 a3 a4 a5 a6 a7=>ϫ (hQ h' a1 a2 a3 a4 a5 a6 a7)) (PySem.F.args_zip_next_1 _))))
def SU {z TI TO i2:Ν}{k1 k2:Nat}{xs:Array Ω}{a b:Ω}{Q:Option Ω->ς->Prop}(hh:A.41=none)(D:I8 z TI TO i1 i2 l1 l2)
  (hz:Nf s.12 z TI TO .none) (CT:kq s.12 TI (.ref i1) (.ref i2)) (CU:kq s.12 TO a b) (h1:s.heap.IsTupleIter i1 l1 k1) (J8:s.heap.IsTuple l1 xs) (hx:xs[k1]?=none)
  (hQ:∀h',(∀c o,c≠z->c≠TO->c≠i1->c≠i2->s.heap.get? c=!o->h'.get? c=!o)->Q none { s with heap:=h' }):wpAny (model prog w) A (pyNext (.ref z)) Q E s:=by
 let hT:s.TypeIs (.ref z) "zip":=(δ _ hz rfl)
 show θ (Ma (fH hT PySem.F.slot_zip_next (ko PySem.F.slot_zip_next hT PySem.F.entry_zip_next ?_ (PySem.F.args_zip_next_1 _))));change wpAny _ _ (field (.ref z) 2 >>= _) _ _ _;show θ (cZ hz rfl rfl (θ (cZ hz rfl rfl (θ (gW CT rfl ?_)))));show θ (θ (cZ hz rfl rfl (ϫ ?_)));show θ (Xi (θ (cZ hz rfl rfl (θ (i6 hz ∅ λg1 z1 b1=>θ ?_)))));show θ (θ (Mb (θ (AJ hh (h1.extBut b1.32 D.i1z) (J8.extBut b1.32 D.l1z) hx λg2 e b2 he=>?_))));(revert he;show ay λoe hoe Cw=>?_);let z2:=b2 _ _ D.i1z.17 z1;let ez:e≠z:=λx=>by subst x;rw[z2] at hoe;cases hoe;simp at Cw
 show i6 z2 ∅ λg3 _ b3=>θ (abk (δ oe (b3.extBut _ _ ez hoe) Cw) ae' ?_);show ϫ (hQ _ λc o c1 _ c3 _ x=>b3.extBut _ _ c1 (b2 _ _ c3 (b1.extBut _ _ c1 x)))
end
section
variable {s:ς}
abbrev zt1 (h:a9)(l1:Ν):a9:=h.push { cls:=.type "tuple_iterator",data:=.fields #[.ref l1,.int 0 0] }
abbrev zt2 (h:a9)(l1 l2:Ν):a9:=(zt1 h l1).push { cls:=.type "list_iterator",data:=.fields #[.ref l2,.int 0 0] }
abbrev zt3 (h:a9)(l1 l2:Ν):a9:=(zt2 h l1 l2).push { cls:=.type "tuple",data:=.seq #[.ref h.7,.ref (zt1 h l1).7] }
abbrev zt4 (h:a9)(l1 l2:Ν):a9:=(zt3 h l1 l2).push { cls:=.type "tuple",data:=.seq #[.none,.none] }
abbrev zt5 (h:a9)(l1 l2:Ν):a9:=(zt4 h l1 l2).push { cls:=.type "zip",data:=.fields #[.none,.bool false,.bool false,.ref (zt2 h l1 l2).7,.ref (zt3 h l1 l2).7] }
def Kt (l1 l2:Ν)(xs ys:Array Ω) :
  ae9 (Gv.«zip.__new__» ⟨[.type "zip",.ref l1,.ref l2],[]⟩) (λ_ R s=>s.heap.IsTuple l1 xs/\s.heap.IsList l2 ys/\R (.ok (.ret (.ref (zt4 s.12 l1 l2).7))) { s with heap:=zt5 s.12 l1 l2 }):=
 .of_wp λprog w A R s h=>by
  obtain⟨hp,g,d,tk,os⟩:=s;(revert h;show qp λJ8 CN h=>?_);let N':=sub_zip;let hL2:abi (Xh ⟨hp.push { cls:=.type "tuple_iterator",data:=.fields #[.ref l1,.int 0 0] },g,d,tk,os⟩) l2 ys:=afb CN _
  wp_walk using Xf J8,fg hL2
  show(δ _ rfl h)
def OI {xs ys:Array Ω}{Q:Ω->ς->Prop}(J8:s.heap.IsTuple l1 xs)(CN:s.heap.IsList l2 ys)
  (h:∀h',Nf h' (s.5+4) (s.5+2) (s.5+3) .none->kq h' (s.5+2) (.ref s.5) (.ref (s.5+1))->
   kq h' (s.5+3) .none .none->h'.IsTupleIter s.5 l1 0->h'.IsListIter (s.5+1) l2 0->
   (∀c o,s.heap.get? c=!o->h'.get? c=!o)->Q (.ref (s.5+4)) { s with heap:=h' }):wpAny (model prog w) A (call (.type "zip") [.ref l1,.ref l2]) Q E s:=by
 show callType_new PySem.F.called_zip "!" (PySem.F.typeCall_zip_2 _ _) (PySem.F.newCall_zip_2 _ _) (λobj=>PySem.F.args_object_init_3 obj _ _) PySem.F.entry_zip_new (Kt l1 l2 xs ys) ⟨J8,CN,?_⟩;let z1:(zt1 s.12 l1).7=s.5+1:=bp ..;let z2:(zt2 s.12 l1 l2).7=s.5+2:=by unfold zt2;rw[bp,z1]
 let z3:(zt3 s.12 l1 l2).7=s.5+3:=by unfold zt3;rw[bp,z2]
 let z4:(zt4 s.12 l1 l2).7=s.5+4:=by unfold zt4;rw[bp,z3]
 let g5:(zt5 s.12 l1 l2).get? (zt4 s.12 l1 l2).7=!_:=ϑ _ rfl;let g4:(zt5 s.12 l1 l2).get? (zt3 s.12 l1 l2).7=!_:=Χ _ (ϑ _ rfl);let g3:(zt5 s.12 l1 l2).get? (zt2 s.12 l1 l2).7=!_:=Χ _ (Χ _ (ϑ _ rfl));let g2:(zt5 s.12 l1 l2).get? (zt1 s.12 l1).7=!_:=Χ _ (Χ _ (Χ _ (ϑ _ rfl)));let g1:(zt5 s.12 l1 l2).get? s.5=!_:=Χ _ (Χ _ (Χ _ (Χ _ (ϑ _ rfl))));rw[z2,z3,z4] at g5;rw[z1,z2] at g3;rw[z3] at g4;rw[z1] at g2;rw[z4];show⟨(δ _ g5 rfl),h _ g5 g3 g4 (ac _ g1 rfl rfl) (ac _ g2 rfl rfl) λc o x=>Χ _ (Χ _ (Χ _ (Χ _ (Χ _ x))))⟩
end
abbrev Wl (K:ζ)(a b:Ν):It:=
 ⟨λi H=>∃xs ys x y,iV K H a xs/\fK K H b ys/\xs[i]?=!x/\ys[i]?=!y,
  λi H v H'=>∃T x y,v=.ref T/\H T=none/\H'=upd H T (.tup [x,y])/\(∀xs,iV K H a xs->xs[i]?=!x)/\∀ys,fK K H b ys->ys[i]?=!y,
  λi H=>∃xs ys,iV K H a xs/\fK K H b ys/\xs.4<=i⟩
def SV (I:Inv X pins σ H s)(h:iV X.K H a xs)(f:qr X pins H b):a≠b:=by
 intro z;subst z;rcases h with h | ⟨o,bn,n,hk,_⟩
 ·rcases h with h | ⟨od,h⟩
  ·rw[f.1] at h;cases h
  ·rw[f.1] at h;cases h
 ·let e:=I.ok.mod.Xl _ _ hk
  rcases f.2.2.2.1 with q | q
  ·show I.ok.Jw a o e q
  ·show absurd (Ϧ (ύ (I.ok.bs a o e).1) q) (fP _)
def OJ {P:ah}{K:ζ}(a b z TI TO i1 i2:Ν)(h12:i1≠i2)(hTT:TI≠TO) :
  Turn P w K (.Tuple elts k0 pos) (Wl K a b) [z,TI,TO,i1,i2] z (λi h=>Nf h z TI TO .none/\kq h TI (.ref i1) (.ref i2)/\(∃x y,kq h TO x y)/\h.IsTupleIter i1 a i/\h.IsListIter i2 b i) where
 mem:=by simp
 obj:=λi h st c hc=>by
  (revert st;show yw λhz CT ϐ gO zz3=>?_;obtain ⟨x,y,CU⟩:=ϐ;obtain ⟨o1,e1,c1,d1⟩:=gO;obtain ⟨o2,e2,c2,d2⟩:=zz3);simp only[Ι,Μ,ϖ] at hc;rcases hc with rfl | rfl | rfl | rfl | rfl
  ·show(δ _ hz (λv q=>by cases q))
  ·show(δ _ CT (λv q=>by cases q))
  ·show(δ _ CU (λv q=>by cases q))
  ·show(δ _ e1 (λv q=>by rw[d1] at q;cases q))
  ·show(δ _ e2 (λv q=>by rw[d2] at q;cases q))
 keep:=λi h h' st k=>by
  (revert st;show yw λhz CT ϐ gO h2=>?_;obtain ⟨x,y,CU⟩:=ϐ;obtain ⟨o1,e1,r1⟩:=gO);show⟨k _ ∅ _ hz,k _ ∅ _ CT,(uY x y (k _ ∅ _ CU)),(δ o1 (k _ ∅ _ e1) r1),h2.at λo e=>k _ ∅ o e⟩
 item:=by
  intro X hP hw hK hc i pins s σ H E I hf st hg;subst hP hw hK;(revert st;show yw λhz CT ϐ h1 h2=>?_;obtain ⟨x0,y0,CU⟩:=ϐ);(revert hg;show oK λxs ys x y hx=>qp λhy ex ey=>?_);(show au (I.tuple hx) λbn rv p _=>?_);(show au (I.list hy) λwy rv' p' _=>?_);(show Ϗ (rv.get ex) λu hu ru=>?_);(show Ϗ (rv'.get ey) λu' hu' ru'=>?_);let hp:=p;let D:I8 z TI TO i1 i2 a b:=by
   (show au (id h1) λo1 e1 c1 d1=>?_);(show au (id h2) λo2 e2 c2 d2=>?_);(show au (id hp) λoa ea ca _=>?_);(show au (id p'.18) λob eb cb _=>?_);let ne:∀{c d:Ν} {o o':Obj},s.heap.get? c=!o->s.heap.get? d=!o'->o.98≠o'.98->c≠d:=λ{c d o o'} h h' n q=>by
    subst q;rw[h] at h';cases h';show n rfl
   show⟨ne CT hz ∅,ne CU hz ∅,ne e1 hz (by rw[c1];simp),ne e2 hz (by rw[c2];simp),hTT,ne CT e1 (by rw[c1];simp),ne CT e2 (by rw[c2];simp),ne CU e1 (by rw[c1];simp),ne CU e2 (by rw[c2];simp),h12,
    ne ea hz (by rw[ca];simp),SV I hx (hf TO ∅),ne ea e1 (by rw[ca,c1];simp),ne ea e2 (by rw[ca,c2];simp),ne eb hz (by rw[cb];simp),ne eb CU (by rw[cb];simp),ne eb e1 (by rw[cb,c1];simp),ne eb e2 (by rw[cb,c2];simp)⟩
  show OH D hz CT CU h1 h2 hp p'.18 (by simpa using hu) (by simpa using hu') λh' a1 a2 a3 a4 a5 a6 hk=>?_;show(δ _ rfl (wpAny_letOwnedTupleGo_zip a1 λh'' ahZ sb=>?_));let I1:=I.rW (t':=s.23) (λc o hc e=>sb.extBut _ _ (λq=>hc (by simp[q])) (hk c o (λq=>hc (by simp[q])) (λq=>hc (by simp[q])) (λq=>hc (by simp[q])) (λq=>hc (by simp[q])) e)) hf;let I2:Inv X pins σ (upd H s.5 (.tup [x,y])) { s with heap:=h'' }:=I1.Sm (I.EQ (ξ _) I.71) ⟨(by show 2<=sizeLine;decide),(δ ([u,u']) (.cons ru (.cons ru' .nil)) (ac _ (sb.extBut _ _ (fG (ύ hz)) a5) rfl (qq _ rfl)))⟩ (λ_ _=>trivial);show(CI (.ref s.5) _ I2 rfl (dL _ x y rfl I.71 rfl (λzs hq=>by rw[I.Dz hq hx];show ex) (λzs hq=>by rw[I.u0 hq hy];show ey)) ?_ (λc hc=>?_))
  ·show⟨ahZ,sb.extBut _ _ D.TIz (hk _ _ D.TIz D.TITO D.TIi1 D.TIi2 CT),(uY u u' (sb.extBut _ _ D.TOz a2)),a3.extBut sb.32 D.i1z,a4.extBut sb.32 D.i2z⟩
  ·let DN:c < s.5:=by
    (revert h1;show ay λo1 e1 _=>?_);(revert h2;show ay λo2 e2 _=>?_);simp only[Ι,Μ,ϖ] at hc;rcases hc with rfl | rfl | rfl | rfl | rfl
    ·show ύ hz
    ·show ύ CT
    ·show ύ CU
    ·show ύ e1
    ·show ύ e2
   rw[ν (Ϫ DN)];show(hf c hc).1
 done:=by
  intro X hP hw hK hc i pins s σ H E I hf st hg;subst hP hw hK;(revert st;show yw λhz CT ϐ h1 h2=>?_;obtain ⟨x0,y0,CU⟩:=ϐ);(revert hg;show gI λxs ys hx hy ady=>?_);(show au (I.tuple hx) λbn rv p _=>?_);(show au (I.list hy) λwy rv' p' _=>?_);let hp:=p;let D:I8 z TI TO i1 i2 a b:=by
   (show au (id h1) λo1 e1 c1 d1=>?_);(show au (id h2) λo2 e2 c2 d2=>?_);(show au (id hp) λoa ea ca _=>?_);(show au (id p'.18) λob eb cb _=>?_);let ne:∀{c d:Ν} {o o':Obj},s.heap.get? c=!o->s.heap.get? d=!o'->o.98≠o'.98->c≠d:=λ{c d o o'} h h' n q=>by
    subst q;rw[h] at h';cases h';show n rfl
   show⟨ne CT hz ∅,ne CU hz ∅,ne e1 hz (by rw[c1];simp),ne e2 hz (by rw[c2];simp),hTT,ne CT e1 (by rw[c1];simp),ne CT e2 (by rw[c2];simp),ne CU e1 (by rw[c1];simp),ne CU e2 (by rw[c2];simp),h12,
    ne ea hz (by rw[ca];simp),SV I hx (hf TO ∅),ne ea e1 (by rw[ca,c1];simp),ne ea e2 (by rw[ca,c2];simp),ne eb hz (by rw[cb];simp),ne eb CU (by rw[cb];simp),ne eb e1 (by rw[cb,c1];simp),ne eb e2 (by rw[cb,c2];simp)⟩
  let l1:=rv.4;show SU (k2:=0) (I.ok.hd hc) D hz CT CU h1 hp (by simp;lk) λh' hk=>⟨rfl,(I.rW (λc o hc e=>hk c o (λq=>hc (by simp[q])) (λq=>hc (by simp[q])) (λq=>hc (by simp[q])) (λq=>hc (by simp[q])) e) hf)⟩
 self:=λ_ _ _ _ _ st h=>abl st.1 h
section
variable {X:Cx}
abbrev adY (K:ζ)(ta:TA):TI:=λσ H R=>ta σ H λvs H1=>∃a b xs ys,vs=[.ref a,.ref b]/\iV K H1 a xs/\fK K H1 b ys/\R (Wl K a b) H1
def MD {K:ζ}{a b:bS}{ta:TA}(hg:Gl X "zip")(hm:X.mg "zip"=none)(ha:PA X [a,b] ta)(hs: ~~~(starEach [a,b] X.8=[(false,eval a X.8),(false,eval b X.8)]))(UG: ~~~(starEach [b] X.8=[(false,eval b X.8)]))
  (hK: ~~~(X.K=K)):PI X (.Tuple elts k0 Vc) (.Call (.Name "zip" p) [a,b] [] pos) (adY K ta):=by
 subst hK;intro pins s σ H R I h;show aeZ (kG I hg hm boot_zip (ba (zW (ha pos pins s σ H _ I h) λus s1 vs H1 I1 r1 q1=>?_) (by rw[hs,UG]) (by rw[UG];rfl)));(revert q1;show oK λl1 l2 xs ys ϐ=>qp λhx hy q=>?_;subst ϐ);(show kf (vals2 r1) λu v ϐ ru rv=>?_;subst ϐ);cases ru;cases rv;(show au (I1.tuple hx) λbn rx px _=>?_);(show au (I1.list hy) λwy ry py _=>?_);show OI px py.18 λh' z1 z2 z3 z4 z5 hk=>abl z1 (EH _ _ _ _ H1 rfl (I1.kept hk) (OJ l1 l2 _ _ _ _ _ (Ϫ (fh _)) (Ϫ (fh _))) ⟨z1,z2,(uY _ _ z3),z4,z5⟩ (λc hc=>?_) q);let DN:s1.5<=c:=by
  simp only[Ι,Μ,ϖ] at hc;rcases hc with rfl | rfl | rfl | rfl | rfl<;>lk
 show I1.EQ DN (I1.cx.fresh DN)
end
def OK {K:ζ}(Pv:Nat->St->Hp->Prop)(hxy:xs.4=ys.4)(h0:Pv 0 σ H)(hl:∀i σ H,i<=xs.4->Pv i σ H->iV K H a xs/\fK K H b ys)
  (hs:∀i x y T σ H,xs[i]?=!x->ys[i]?=!y->H T=none->Pv i σ H->g (.ref T) σ (upd H T (.tup [x,y])) λσ2 H2=>tb { D with nx:=Pv (i+1),ct:=Pv (i+1),bk:=D.nx } σ2 H2)
  (hd:∀σ H,Pv xs.4 σ H->D.nx σ H):GY (Wl K a b) g tb D σ H:=by
 show(δ (λi m σ H=>m=xs.4 - i/\i<=xs.4/\Pv i σ H) (ac _ rfl (Ϝ _) h0) ?_)
 rintro i m σ H ⟨rfl,hi,p⟩
 obtain⟨lx,ly⟩:=hl i σ H hi p
 by_cases kz:i < xs.4
 ·show .inr ⟨(ack xs ys (xs[i]) (ys[i]'()) lx ly ∅ ∅),(δ (Pv (i+1)) (λσ' H' p'=>(mh (xs.4 - (i+1)) () rfl kz p')) (λv H' y=>?_))⟩
  (revert y;show ug λT x y ϐ hT gO h1 h2=>?_;subst ϐ;subst gO);show hs i x y T σ _ (h1 xs lx) (h2 ys ly) hT p
 ·let e:i=xs.4:=by lk
  subst e;show .inl ⟨(ϧ xs ys lx ly (ξ _)),hd σ H p⟩
def Hj (z:Str)(l:-Str):JP (.str z) (l.map V.str)=decide (z∈l):=by
 unfold JP
 induction l with
 | nil=>rfl
 | cons x r ih=>
  rw[ϒ,jG,ih];show((x == z) || decide (z∈r))=_
  by_cases e:z=x
  ·subst e;simp
  ·let e1:(x == z)=false:=by rw[dY];show ό e
   rw[e1];simp[e]
noncomputable abbrev Part:=Str×V×-Nat
abbrev nT (n:Str)(ps:-Part):-(Key×V):=(.inr "event",.str n)::ps.map λx=>(.inr x.1,x.2.1)
structure nU (n:Str)(ps:-Part):Prop where
 part:∀x∈ps,Hi x.1 x.2.1 x.2.2/\x.2.2.4<=201/\∀c∈x.2.2,c < 128
 nd:((Κ "event")::ps.map (·.1)).13
 len:ps.4<=7
abbrev DW (n:-Nat)(k:Nat):-Part:=[("sender",.str (S n),n),("life",.int (k:Int),dU (k:Int))]
abbrev wR (n:-Nat)(k dd r pl:Nat)(key:-Nat)(wo:Option (-Nat)):-Part:=
 [("sender",.str (S n),n),("number",.int (k:Int),dU (k:Int)),("deed",.int (dd:Int),dU (dd:Int)),("row",.int (r:Int),dU (r:Int)),("place",.int (pl:Int),dU (pl:Int)),("key",.str (S key),key),("word",wV wo,tK wo)]
def nV (h:k∉kvs.map (·.1)):putK kvs k v=kvs++[(k,v)]:=by
 unfold putK;rw[Ψ];rw[yq]
 rintro⟨x,hx,e⟩
 show h (μ.mpr (δ x hx (by simpa using e)))
def wS {z:-Nat}{c:Nat}:∀{ls:-(-Nat)},c∈bV z ls->c∈z\/∃l∈ls,c∈l
 | [],h=>by simp[bV] at h
 | [a],h=>.inr (δ a ∅ (by simpa [bV] using h))
 | a::b::r,h=>by
  let h':c∈a++(z++bV z (b::r)):=by simpa [bV] using h
  rcases Ο.mp h' with h1 | h1
  ·show .inr (δ a ∅ h1)
  ·rcases Ο.mp h1 with h2 | h2
   ·show .inl h2
   ·rcases wS h2 with q | ⟨l,hl,q⟩
    ·show .inl q
    ·show .inr (δ l (ψ _ hl) q)
def AK {z:-Nat}{m:Nat}:∀{ls:-(-Nat)},(∀l∈ls,l.4<=m)->(bV z ls).4<=ls.4 * (m+z.4)
 | [],_=>by simp[bV]
 | [a],h=>by have:=h a ∅;simp[bV];lk
 | a::b::r,h=>by
  let h1:=h a ∅;let h2:=AK (z:=z) (ls:=b::r) λl hl=>h l (ψ _ hl);let e:bV z (a::b::r)=a++(z++bV z (b::r)):=by simp[bV]
  rw[e];simp only[Ρ,ω] at h2 ⊢;rw[Nat.add_mul (r.4+1) 1];lk
def XV {a:-Nat}(h:∀c∈a,c < 128):∀c∈gd a,c < 128:=by
 intro c hc;(show Ϗ (Rh.mp hc) λx hx hc=>?_);have:=h x hx;unfold XT at hc
 split at hc
 ·simp at hc;lk
 ·split at hc
  ·simp at hc;lk
  ·simp at hc;lk
def SW {n:-Nat}(ok:nU m ps)(hn:n.4<=8)(hc:∀c∈n,c < 128):UQ (bV [59] ((n::ps.map λx=>x.2.2).map gd)):=by
 constructor
 ·intro c h
  rcases wS h with q | ⟨l,hl,q⟩
  ·simp at q;lk
  ·(show Ϗ (μ.mp hl) λa ha ϐ=>?_;subst ϐ)
   show XV ?_ c q;rcases Ι.mp ha with rfl | ha
   ·show hc
   ·(show Ϗ (μ.mp ha) λx hx ϐ=>?_;subst ϐ)
    show(ok.part x hx).2.2
 ·let h1:=AK (z:=[59]) (m:=402) (ls:=(n::ps.map λx=>x.2.2).map gd) (λl hl=>by
   (show Ϗ (μ.mp hl) λa ha ϐ=>?_;subst ϐ);have:=AC a;rcases Ι.mp ha with rfl | ha
   ·lk
   ·(show Ϗ (μ.mp ha) λx hx ϐ=>?_;subst ϐ)
    have:=(ok.part x hx).2.1
    lk)
  let h2:=ok.26;simp at h1 ⊢;lk
def Ku {K:ζ}(hl:∀H,iV K H a xs)(hn:xs.4<=sizeLine)(f:V->V)
  (he:∀x H',x∈xs->ι H H'->∀Qe,(∀kh,ι H' kh->Qe (f x) kh)->te (some x::σ) H' Qe)
  (hd:∀D H',H D=none->ι H H'->H' D=!.lst (xs.map f)->Q (.ref D) H'):va (Itt K a) CO te σ H Q:=λD hD=>
 wF xs.4 hn hD (λi=>xs.getD i .bM) (λi=>f (xs.getD i .bM)) (λ_=>true) (λH' s=>(δ xs (hl H') (ξ _)))
  (λi H' s h=>(cJ xs (xs[i]) (hl H') ∅))
  (λi H' x kh s hi y=>by
   obtain⟨rfl,z⟩:=y;show⟨rfl,?_⟩;rw[Ϩ,z xs (hl _)]
   rfl)
  (λi H' h s Qt q=>q H' (ι.refl _))
  (λi H' h hp s Qe q=>he _ H' (by rw[Ϩ,Ε h];show oG h) s Qe q)
  (λH' s h=>hd D H' hD s (by
   rw[h];congr 2;rw[jB];show yp ∅ λi h1 h2=>?_;simp at h1 h2 ⊢;rw[Ε h2]
   rfl))
def AL:∀{ps:-Part} {x:Part},(ps.map (·.1)).13->x∈ps->a8 (ps.map λy=>((.inr y.1:Key),y.2.1)) (.inr x.1)=!x.2.1
 | y::r,x,nd,hx=>by
  rw[ϒ,Ϛ] at nd;rw[ϒ];rcases Ι.mp hx with rfl | hx
  ·show dC rfl
  ·rw[cK (λq=>nd.1 (by rw[db q];show μ.mpr (δ x hx rfl)))]
   show AL nd.2 hx
abbrev DY (ps:-Part):V->V:=λv=>match v with
 | .str p=>.str (S (((ps.find? λx=>decide (x.1=p)).map λx=>x.2.2).getD []))
 | v=>v
def AM:∀{ps:-Part} {x:Part},(ps.map (·.1)).13->x∈ps->DY ps (.str x.1)=.str (S x.2.2)
 | y::r,x,nd,hx=>by
  rw[ϒ,Ϛ] at nd;rcases Ι.mp hx with rfl | hx
  ·simp[DY]
  ·let h1:y.1≠x.1:=λq=>nd.1 (by rw[q];show μ.mpr (δ x hx rfl))
   have:=AM nd.2 hx;simp only[DY,d4,h1,decide_false] at this ⊢;show this
def OL {ps:-Part}(nd:(ps.map (·.1)).13):((ps.map (·.1)).map V.str).map (DY ps)=tx (ps.map λx=>x.2.2):=by
 unfold tx;rw[Ϥ,Ϥ,Ϥ];show df λx hx=>AM nd hx
abbrev dj (l:-Nat):Prop:=Fm l 1 12 inN
abbrev keyOk (l:-Nat):Prop:=Fm l 1 24 oS
abbrev wT (o:Option (-Nat)):Prop:=∀w,o=!w->Fm w 0 200 oS
abbrev Hk:Sp:=aR λp=>aN λH Q _=>∃ls,H p=!.lst (tx ls)/\ls.4<=9/\(∀l∈ls,dj l/\l.4<=1000)/\∀H',ι H H'->Q .bM H'
abbrev w3V (x:Int×Int×Int):-V:=[.int x.1,.int x.2.1,.int x.2.2]
abbrev Fn:Sp:=aR λp=>aN λH Q _=>∃(xs:-(Int×Int×Int)),bb H p (xs.map w3V)/\xs.4<=9/\(∀x∈xs,x.2.1<=x.1/\x.1<=x.2.2)/\∀H',ι H H'->Q .bM H'
abbrev Fp:Sp:=aT λk=>aV λz2=>aN λH Q _=>∃o,z2=wV o/\keyOk k/\k.4<=1000/\wT o/\(∀w,o=!w->w.4<=1000)/\∀H',ι H H'->Q .bM H'
structure CK where
 C:Ν
 S:Ν
 B:Ν
 H:Ν
 R:Ν
 N:Ν
 D:Ν
 Rd:Ν
set_option genInjectivity false in
structure CA where
 c:Ν
 st:Ν
 bk:Ν
 bl:Ν
 sh:Ν
 shl:Ν
 rl:Ν
 sn:Ν
 l:Ν
 t:Ν
 p:Ν
 de:Ν
 dl:Ν
 bz:Ν
 gr:Ν
 rd:Ν
 ra:Ν
 rb:Ν
 rs:-Ν
 ds:-Ν
structure CM where
 xs:-l6
 Ms:-eX
 S:vk
 ls:-(-Nat)
abbrev CA.fix (A:CA):-Ν:=[A.c,A.st,A.bk,A.bl,A.sh,A.61,A.rl,A.sn,A.l,A.t,A.p,A.de,A.dl,A.bz,A.gr,A.rd,A.ra,A.rb]++(A.rs++A.ds)
abbrev stF (A:CA):-(Str×V):=[("shelves",.ref A.sh),("rows",.ref A.rl),("senders",.ref A.sn),("deeds",.ref A.de),("groups",.ref A.gr),("readers",.ref A.rd),("turn",.int 0)]
abbrev ceF (A:CA):-(Str×V):=[("state",.ref A.st),("book",.ref A.bk)]
structure Kv (k:CK)(H:Hp)(A:CA)(Z:-Ν)(M:CM):Prop where
 pG:∃dx,H A.st=!.ins k.S dx (stF A)
 Fq:Aw k.H H A.sh A.61 M.xs
 Cy:iF M.xs
 oW:H A.rl=!.lst (A.rs.map V.ref)
 row:∀(i:Nat) r d m,A.rs[i]?=!r->A.ds[i]?=!d->M.Ms[i]?=!m->io k.R H r d m
 len:A.rs.4=aG M.xs M.xs.4
 lend:A.ds.4=A.rs.4
 kM:M.Ms.4=A.rs.4
 snd:dE k.N H A.sn A.l A.t A.p Z M.S
 XW:cu k.D 0 H A.de A.dl A.bz [] wQ
 Wm:ur k.Rd H A.rd A.ra A.rb read0
 grp:H A.gr=!.dK []
 sG:A.bl∈Z/\A.rl∈Z/\A.61∈Z/\A.dl∈Z
 zo:∀b∈Z,∃o,H b=!o
 nd:A.fix.13
structure qS (k:CK)(H:Hp)(A:CA)(Z:-Ν)(M:CM):Prop where
 pH:∃dx,H A.c=!.ins k.C dx (ceF A)
 book:ic k.B H A.bk A.bl M.ls
 st:Kv k H A Z M
def gQ (c:ϰ B H H')(hb:∀b∈B,∃o,H' b=!o):∀b,(∃o,H b=!o)->∃o,H' b=!o:=λb η=>YC η λo e=>by
 by_cases m:b∈B
 ·show hb b m
 ·show⟨o,c.keep _ _ e m⟩
def mi {l:-Ν}{x:Ν}(i:Nat)(h:l[i]?=!x):x∈l:=Β h
def Kv.bO {A:CA}(h:Kv k H A Z M)(c:ϰ B H H')(hB:∀b∈B,b∉A.fix)(hz:∀b∈B,b∈Z\/∀xs,H b≠!.lst xs)(hs:∀b∈B,∃o,H' b=!o):Kv k H' A Z M:=by
 let n:∀{a:Ν},a∈A.fix->a∉B:=λha hb=>hB _ hb ha;let f:∀{a:Ν},a∈[A.c,A.st,A.bk,A.bl,A.sh,A.61,A.rl,A.sn,A.l,A.t,A.p,A.de,A.dl,A.bz,A.gr,A.rd,A.ra,A.rb]->a∉B:=λha=>n (Φ _ ha);obtain⟨dx,e⟩:=h.pG
 show⟨⟨dx,c.keep _ _ e (f (mi 1 rfl))⟩,h.Fq.bO c (f (mi 4 rfl)) (f (mi 5 rfl)),h.Cy,c.keep _ _ h.oW (f (mi 6 rfl)),
  λi r d m h1 h2 h3=>(h.row i r d m h1 h2 h3).bO c (n (Θ _ (Φ _ (Β h1)))) (n (Θ _ (Θ _ (Β h2)))),h.26,h.46,h.kM,
  h.snd.bO c (f (mi 7 rfl)) (f (mi 8 rfl)) (f (mi 9 rfl)) (f (mi 10 rfl)) hz,h.XW.bO c (f (mi 11 rfl)) (f (mi 12 rfl)) (f (mi 13 rfl)) (λ_ hu=>nomatch hu),h.Wm.bO c (f (mi 15 rfl)) (f (mi 16 rfl)) (f (mi 17 rfl)),c.keep _ _ h.grp (f (mi 14 rfl)),h.sG,λb hb=>gQ c hs b (h.zo b hb),h.nd⟩
def qS.bO {A:CA}(h:qS k H A Z M)(c:ϰ B H H')(hB:∀b∈B,b∉A.fix)(hz:∀b∈B,b∈Z\/∀xs,H b≠!.lst xs)(hs:∀b∈B,∃o,H' b=!o):qS k H' A Z M:=by
 let f:∀{a:Ν},a∈[A.c,A.st,A.bk,A.bl,A.sh,A.61,A.rl,A.sn,A.l,A.t,A.p,A.de,A.dl,A.bz,A.gr,A.rd,A.ra,A.rb]->a∉B:=λha hb=>hB _ hb (Φ _ ha);obtain⟨dx,e⟩:=h.pH;obtain⟨ME,e2⟩:=h.book.27;show⟨⟨dx,c.keep _ _ e (f ∅)⟩,⟨⟨ME,c.keep _ _ e2 (f ∅)⟩,c.keep _ _ h.book.33 (f ∅)⟩,h.st.bO c hB hz hs⟩
def qS.same {A:CA}(h:qS k H A Z M)(s:ι H H'):qS k H' A Z M:=h.bO (B:=[]) (ϰ.of_same s) (λ_ z=>nomatch z) (λ_ z=>nomatch z) (λ_ z=>nomatch z)
def Hl (A:CA):(stF A).lookup (Κ "shelves")=!.ref A.sh:=rfl
def jd (A:CA):(ceF A).lookup (Κ "state")=!.ref A.st:=rfl
def Hm (A:CA):(ceF A).lookup (Κ "book")=!.ref A.bk:=rfl
abbrev CM.cr (M:CM)(n:Str):CM:={ M with S:=M.S.cr n }
abbrev CM.put (M:CM)(i:Nat)(m:eX)(x:N6)(n:Str)(k:Int):CM:={ M with Ms:=M.Ms.set i (m.add x),S:=M.S.note n k ((i:Int),m.24) }
def CA.aab {A:CA}(nd:A.fix.13)(ha:a∈[A.c,A.st,A.bk,A.bl,A.sh,A.61,A.rl,A.sn,A.l,A.t,A.p,A.de,A.dl,A.bz,A.gr,A.rd,A.ra,A.rb]):a∉A.rs/\a∉A.ds:=by
 have:=(ϗ.mp nd).2.2;show⟨λz=>this a ha a (Φ _ z) rfl,λz=>this a ha a (Θ _ z) rfl⟩
def CA.adZ {A:CA}(nd:A.fix.13):[A.c,A.st,A.bk,A.bl,A.sh,A.61,A.rl,A.sn,A.l,A.t,A.p,A.de,A.dl,A.bz,A.gr,A.rd,A.ra,A.rb].13:=(ϗ.mp nd).1
def aO {l A:-Ν}{x:Ν}(h:l.13)(i:Nat)(js:-Nat)(hx:l[i]?=!x)(hA:A.map some=js.map λj=>l[j]?)(hij:i∉js):x∉A:=λm=>by
 let m2:some x∈A.map some:=μ.mpr (δ x m rfl);rw[hA] at m2;(show Ϗ (μ.mp m2) λj hj ej=>?_);obtain⟨hi,ei⟩:=Α.mp hx;obtain⟨hj',ej'⟩:=Α.mp ej;let SD:i≠j:=λz=>hij (by rw[z];show hj);let hp:=bv.mp h;rcases iy SD with z | z
 ·show hp i j hi hj' z (ei.trans ej'.17)
 ·show hp j i hj' hi z (ej'.trans ei.17)
def r6 {l:-Ν}(nd:l.13)(h1:l[i]?=!a)(h2:l[j]?=!a):i=j:=by
 by_cases e:i=j
 ·show e
 ·show absurd rfl (adw nd h1 h2 e)
def OM (n:-Nat)(k:Nat):a8 (nT "hail" (DW n k)) (.inr "sender")=!.str (S n):=by rfl
section
variable (n:-Nat) (k dd r pl:Nat) (key:-Nat) (wo:Option (-Nat))
def ON:a8 (nT "put" (wR n k dd r pl key wo)) (.inr "sender")=!.str (S n):=by rfl
def OO:a8 (nT "put" (wR n k dd r pl key wo)) (.inr "number")=!(.int (k:Int)):=by rfl
def Fs:a8 (nT "put" (wR n k dd r pl key wo)) (.inr "deed")=!(.int (dd:Int)):=by rfl
def aac:a8 (nT "put" (wR n k dd r pl key wo)) (.inr "row")=!(.int (r:Int)):=by rfl
def aad:a8 (nT "put" (wR n k dd r pl key wo)) (.inr "key")=!.str (S key):=by rfl
def Wn:a8 (nT "put" (wR n k dd r pl key wo)) (.inr "word")=!wV wo:=by rfl
end
def dg (h:H D=!.dK kvs)(e:a8 kvs (.inr x)=!v):bH H D (.str x) (!v):=by
 let g:=bH.k (k:=.inr x) h;rw[e] at g;show g
def dj.len {n:-Nat}(h:dj n):1<=n.4/\n.4<=12/\∀c∈n,c < 128:=⟨h.1,h.2.1,λc hc=>by
 let key:∀c∈T36,c < 128:=by decide
 show key c (by simpa [inN] using h.2.2 c hc)⟩
def DZ {c:Nat}(h:oS c=true):c < 128:=by
 unfold oS at h;simp only[bd,dP] at h;lk
def vo {p:Str}(hp:p∈qR):Hi p (.str (S l)) l:=.inl ⟨hp,rfl⟩
def iG {p:Str}{m:Nat}(h1:p∉qR)(h2:p ≠ "word")(h3:p ≠ "owner")(hm:m < 10 ^ 10):Hi p (.int (m:Int)) (dU (m:Int))/\(dU (m:Int)).4<=201/\∀c∈dU (m:Int),c < 128:=
 ⟨.inr (.inr ⟨h1,h2,h3,(ac m rfl hm rfl)⟩),ϊ (zE "!" hm) "!",λc hc=>by have:=qN m c hc;lk⟩
def kD {n:-Nat}(hn:dj n)(hk:k < 10 ^ 9):nU "hail" (DW n k):=by
 (show cW hn.26 λ_ n1 n2=>?_);show⟨λx hx=>?_,by show gu [Κ "event","sender","life"];decide +kernel,by show 2<=7;decide⟩;simp only[DW,Ι,Μ,ϖ] at hx;rcases hx with rfl | rfl
 ·show⟨vo (p:="sender") (s!"d"),by show n.4<=201;lk,n2⟩
 ·show iG (p:="life") (s!"d") (s!"d") (s!"d") ()
def keyOk.len {n:-Nat}(h:keyOk n):n.4<=24/\∀c∈n,c < 128:=⟨h.2.1,λc hc=>DZ (h.2.2 c hc)⟩
def SX (h:wT wo)(hl:∀w,wo=!w->w.4<=200):(tK wo).4<=201/\∀c∈tK wo,c < 128:=by
 cases wo with
 | none=>show⟨"!","!"⟩
 | some w=>
  let h1:=h w rfl;show⟨fi h1.2.1,λc hc=>?_⟩;rcases Ι.mp hc with rfl | hc
  ·decide
  ·show DZ (h1.2.2 c hc)
def AN {n:-Nat}{k r pl:Nat}(hn:dj n)(hk:k < 10 ^ 10)(hd:dd < 10 ^ 10)(hr:r < 10 ^ 10)(hp:pl < 10 ^ 10)(hky:keyOk key)(hw:wT wo)(RP:∀w,wo=!w->w.4<=200):nU "put" (wR n k dd r pl key wo):=by
 (show cW hn.26 λ_ n1 n2=>?_);obtain⟨k1,k2⟩:=hky.26;obtain⟨w1,w2⟩:=SX hw RP;show⟨λx hx=>?_,by show gu [Κ "event","sender","number","deed","row","place","key","word"];decide +kernel,by show 7<=7;decide⟩;simp only[wR,Ι,Μ,ϖ] at hx;rcases hx with rfl | rfl | rfl | rfl | rfl | rfl | rfl
 ·show⟨vo (p:="sender") (s!"d"),by show n.4<=201;lk,n2⟩
 ·show iG (p:="number") (s!"d") (s!"d") (s!"d") ()
 ·show iG (p:="deed") (s!"d") (s!"d") (s!"d") ()
 ·show iG (p:="row") (s!"d") (s!"d") (s!"d") ()
 ·show iG (p:="place") (s!"d") (s!"d") (s!"d") ()
 ·show⟨vo (p:="key") (s!"d"),by show key.4<=201;lk,k2⟩
 ·show⟨.inr (.inl ⟨rfl,(δ wo rfl rfl)⟩),w1,w2⟩
abbrev Kw:Sp:=aR λp=>aN λH Q _=>∃xs,bb H p (xs.map l6.v)/\iF xs/\xs.4<=3/\∀b H',ι H H'->UQ b->Q (.str (S b)) H'
structure St0 (k:CK)(H:Hp)(A:CA)(xs:-l6):Prop where
 pG:∃dx,H A.st=!.ins k.S dx (stF A)
 Fq:Aw k.H H A.sh A.61 xs
 Cy:iF xs
 oW:H A.rl=!.lst (A.rs.map V.ref)
 row:∀(i:Nat) r d,A.rs[i]?=!r->A.ds[i]?=!d->io k.R H r d Fb
 len:A.rs.4=aG xs xs.4
 lend:A.ds.4=A.rs.4
 snd:dE k.N H A.sn A.l A.t A.p [] xV
 XW:cu k.D 0 H A.de A.dl A.bz [] wQ
 Wm:ur k.Rd H A.rd A.ra A.rb read0
 grp:H A.gr=!.dK []
abbrev CA.new (A:CA):-Ν:=[A.sh,A.61,A.rl,A.sn,A.l,A.t,A.p,A.de,A.dl,A.bz,A.gr,A.rd,A.ra,A.rb]++(A.rs++A.ds)
structure Fr (H H':Hp)(L:-Ν):Prop where
 nd:L.13
 no:∀b∈L,H b=none
 yes:∀b∈L,∃o,H' b=!o
abbrev pI (H H':Hp):Prop:=∀b,(∃o,H b=!o)->∃o,H' b=!o
def pI.refl (H:Hp):pI H H:=λ_ h=>h
def pI.trans (a:pI H H1)(b:pI H1 H2):pI H H2:=λc h=>b c (a c h)
def pI.back (h:pI H H')(e:H' b=none):H b=none:=by
 cases q:H b with
 | none=>rfl
 | some o=>obtain⟨o',e'⟩:=h b ⟨o,q⟩;rw[e] at e';cases e'
def ι.gh (s:ι H H'):pI H H':=λb η=>YC η λo e=>⟨o,s b o e⟩
def ϰ.ah1 {x:Ν}(c:ϰ [x] H H')(e:H' x=!o):pI H H':=λb hb=>gQ c (λb hb=>by rw[Ζ.mp hb];show⟨o,e⟩) b hb
def pI.wr :pI H (upd H b o):=λc η=>YC η λu e=>by
 by_cases z:c=b
 ·subst z;show⟨o,Δ⟩
 ·show⟨u,by rw[ν z];show e⟩
def Fr.nil:Fr H H []:=⟨gw,λ_ h=>(nomatch h),λ_ h=>(nomatch h)⟩
def Fr.gh (f:Fr H H1 L)(l:pI H1 H2):Fr H H2 L:=⟨f.nd,f.no,λb hb=>l b (f.yes b hb)⟩
def Fr.add (f:Fr H H1 L)(l0:pI H H1)(hb:H1 b=none)(l:pI H1 H2)(e:∃o,H2 b=!o):Fr H H2 (b::L):=
 ⟨Ϛ.mpr ⟨λz=>by (obtain⟨o,q⟩:=f.yes b z;rw[hb] at q;cases q),f.nd⟩,λc hc=>by
  rcases Ι.mp hc with rfl | hc
  ·show l0.back hb
  ·show f.no c hc,λc hc=>by
  rcases Ι.mp hc with rfl | hc
  ·show e
  ·show l c (f.yes c hc)⟩
def Fr.perm (f:Fr H H1 L)(p:L.Perm L'):Fr H H1 L':=⟨p.nodup_iff.mp f.nd,λb hb=>f.no b (p.mem_iff.mpr hb),λb hb=>f.yes b (p.mem_iff.mpr hb)⟩
abbrev Kx (k:CK):Sp:=aR λx=>aR λp=>aN λH Q _=>∃dx xs,H x=!.ins k.S dx []/\bb H p (xs.map l6.v)/\iF xs/\
 ∀A H',A.st=x->ϰ [x] H H'->Fr H H' A.new->St0 k H' A xs->Q .bM H'
def Fr.adds (M:-Ν)(f:Fr H H1 L)(l0:pI H H1)(nd:M.13)(hb:∀b∈M,H1 b=none)(l:pI H1 H2)(e:∀b∈M,∃o,H2 b=!o):Fr H H2 (M++L):=
 ⟨ϗ.mpr ⟨nd,f.nd,λa ha b UP z=>by subst z;obtain⟨o,q⟩:=f.yes a UP;rw[hb a ha] at q;cases q⟩,
  λc hc=>by
  rcases Ο.mp hc with h | h
  ·show l0.back (hb c h)
  ·show f.no c h,
  λc hc=>by
  rcases Ο.mp hc with h | h
  ·show e c h
  ·show l c (f.yes c h)⟩
def AO {L M:-Ν}(h:∀a,L.count a=M.count a):L.Perm M:=kr.mpr h
def iq {s:Ν}{o:HO}(hs:H s=none)(hd:H dx=none)(c:ϰ [s] (upd (upd H dx (.own s)) s o) H2):ι H H2:=λb u e=>by
 let n1:b≠s:=λz=>by rw[z,hs] at e;cases e
 let n2:b≠dx:=λz=>by rw[z,hd] at e;cases e
 show c.keep b u (by rw[ν n1,ν n2];show e) (by simp;show n1)
def dq (h:upd (upd H dx (.own s)) s o l=none):H l=none/\l≠s/\l≠dx:=by
 let n1:l≠s:=λz=>by rw[z,Δ] at h;cases h
 rw[ν n1] at h;let n2:l≠dx:=λz=>by rw[z,Δ] at h;cases h
 rw[ν n2] at h;show⟨h,n1,n2⟩
structure kN (C:Ν)(H H':Hp)(D:Ν)(ys:-V)(i:Nat)(rs ds:-Ν):Prop where
 eq:ys=rs.map V.ref
 lr:rs.4=i
 ld:ds.4=i
 row:∀(j:Nat) r d,rs[j]?=!r->ds[j]?=!d->io C H' r d Fb
 lst:H' D=!.lst ys
 same:ι H H'
 fr:Fr H H' (D::(rs++ds))
def kN.zero (hD:H D=none):kN C H (upd H D (.lst [])) D [] 0 [] []:=
 ⟨rfl,rfl,rfl,λj r d h=>by simp at h,Δ,ι.upd hD,Fr.add (Fr.nil) (pI.refl _) hD (ι.upd hD).gh ⟨_,Δ⟩⟩
def kN.succ {rs ds:-Ν}(h:kN C H H' D ys i rs ds)(s5:ι H' H5)(hr:H' r=none)(hd:H' d=none)(nrd:d≠r)(R:io C H5 r d Fb) :
  H5 D=!.lst ys/\kN C H (upd H5 D (.lst (ys++[.ref r]))) D (ys++[.ref r]) (i+1) (rs++[r]) (ds++[d]):=by
 let n1:r≠D:=λz=>by rw[z,h.33] at hr;cases hr
 let n2:d≠D:=λz=>by rw[z,h.33] at hd;cases hd
 let f5:=h.fr.adds [r,d] h.same.gh (by simp;show λz=>nrd z.17) (λb hb=>by
  simp only[Ι,Μ,ϖ] at hb;rcases hb with rfl | rfl
  ·show hr
  ·show hd) s5.gh (λb hb=>by
  obtain⟨dx,e⟩:=R.27;(show Ϗ R.59 λkv e2 _=>?_);simp only[Ι,Μ,ϖ] at hb;rcases hb with rfl | rfl
  ·show⟨_,e⟩
  ·show⟨_,e2⟩)
 let c6:ϰ [D] H5 (upd H5 D (.lst (ys++[.ref r]))):=ϰ.upd ∅ (λxs z=>by rw[s5 _ _ h.33] at z;cases z);let nd:=h.fr.nd;rw[Ϛ] at nd;show⟨s5 _ _ h.33,by rw[h.eq];simp,by simp[h.lr],by simp[h.ld],λj r1 d1 h1 h2=>?_,Δ,ι.wr (h.same.trans s5) (h.fr.no D ∅),?_⟩
 ·by_cases ej:j < i
  ·rw[ϟ (by rw[h.lr];show ej)] at h1
   rw[ϟ (by rw[h.ld];show ej)] at h2;show((h.row j r1 d1 h1 h2).same s5).bO c6 (by simp;show λz=>nd.1 (z▸Φ _ (Β h1))) (by simp;show λz=>nd.1 (z▸Θ _ (Β h2)))
  ·let l1:=(Α.mp h1).1
   rw[Ρ,h.lr] at l1;let ej2:j=i:=by simp at l1;lk
   subst ej2;rw[Ϙ (by rw[h.lr];show ξ _),h.lr,qA] at h1;rw[Ϙ (by rw[h.ld];show ξ _),h.ld,qA] at h2;cases h1;cases h2;show R.bO c6 (by simp;show n1) (by simp;show n2)
 ·show(f5.gh pI.wr).perm (AO λa=>?_)
  simp only[iX,im,iY,dA,fJ];lk
def Hn {x:Ν}(hx:H x=!.ins C dx fs)(e:upd H x (.ins C dx fs')=H'):ϰ [x] H H'/\H' x=!.ins C dx fs'/\pI H H':=by
 subst e;show⟨ϰ.upd ∅ (λxs z=>by rw[hx] at z;cases z),Δ,pI.wr⟩
def Fr.two (f:Fr H H1 L)(l0:pI H H1)(l:pI H1 H2)(n:a≠b)(ha:H1 a=none)(hb:H1 b=none)(ea:∃o,H2 a=!o)(eb:∃o,H2 b=!o):Fr H H2 ([a,b]++L):=
 f.adds [a,b] l0 (by simp;show n) (λc hc=>by
  simp only[Ι,Μ,ϖ] at hc;rcases hc with rfl | rfl
  ·show ha
  ·show hb) l (λc hc=>by
  simp only[Ι,Μ,ϖ] at hc;rcases hc with rfl | rfl
  ·show ea
  ·show eb)
def Fr.three {c:Ν}(f:Fr H H1 L)(l0:pI H H1)(l:pI H1 H2)(n1:a≠b)(n2:a≠c)(n3:b≠c)(ha:H1 a=none)(hb:H1 b=none)(hc:H1 c=none)(ea:∃o,H2 a=!o)(eb:∃o,H2 b=!o)(ec:∃o,H2 c=!o):Fr H H2 ([a,b,c]++L):=
 f.adds [a,b,c] l0 (by simp;show⟨⟨n1,n2⟩,n3⟩) (λd hd=>by
  simp only[Ι,Μ,ϖ] at hd;rcases hd with rfl | rfl | rfl
  ·show ha
  ·show hb
  ·show hc) l (λd hd=>by
  simp only[Ι,Μ,ϖ] at hd;rcases hd with rfl | rfl | rfl
  ·show ea
  ·show eb
  ·show ec)
def Fr.four {c:Ν}(f:Fr H H1 L)(l0:pI H H1)(l:pI H1 H2)(nd:[a,b,c,d].13)(ha:H1 a=none)(hb:H1 b=none)(hc:H1 c=none)(hd:H1 d=none)(ea:∃o,H2 a=!o)(eb:∃o,H2 b=!o)(ec:∃o,H2 c=!o)(ed:∃o,H2 d=!o):Fr H H2 ([a,b,c,d]++L):=
 f.adds [a,b,c,d] l0 nd (λx hx=>by
  simp only[Ι,Μ,ϖ] at hx;rcases hx with rfl | rfl | rfl | rfl
  ·show ha
  ·show hb
  ·show hc
  ·show hd) l (λx hx=>by
  simp only[Ι,Μ,ϖ] at hx;rcases hx with rfl | rfl | rfl | rfl
  ·show ea
  ·show eb
  ·show ec
  ·show ed)
def SY (A:CA):([A.rd,A.ra,A.rb]++(A.gr::([A.de,A.dl,A.bz]++([A.sn,A.l,A.t,A.p]++((A.rl::(A.rs++A.ds))++[A.sh,A.61]))))).Perm A.new:=AO λa=>by
 unfold CA.new;simp only[iX,im,iY,dA]
 ac_rfl
abbrev AQ (xs:-l6)(i:Nat):-(-Nat):=(Κ "shelves").6::(xs.take i).flatMap λx=>[x.47,dU (x.42:Int),x.kind.6]
def OP {xs:-l6}{y:l6}(h:xs[i]?=!y):tx (AQ xs (i+1))=tx (AQ xs i)++[.str (S y.47),.str (S (dU (y.42:Int))),.str y.57]:=by
 unfold AQ tx;rw[cR,h];simp[<-Ap]
def aae {c:Nat}(h:inN c=true):c < 128:=by
 let h2:c∈T36:=by simpa [inN] using h
 let key:∀c∈T36,c < 128:=by decide
 show key c h2
def Ft {xs:-l6}(ok:iF xs)(i:Nat):∀l∈AQ xs i,l.4<=12/\∀c∈l,c < 128:=λl hl=>by
 unfold AQ at hl;rcases Ι.mp hl with rfl | hl
 ·decide +kernel
 ·(show Ϗ (Rh.mp hl) λx hx hl=>?_)
  let o:=ok.each x (Jn hx);simp only[Ι,Μ,ϖ] at hl;rcases hl with rfl | rfl | rfl
  ·show⟨o.1.2.1,λc hc=>aae (jy.mp o.1.2.2 c hc)⟩
  ·show⟨ϊ (zE (k:=1) "!" (by have:=o.2.1;lk)) "!",λc hc=>by have:=qN _ c hc;lk⟩
  ·rcases o.2.2 with e | e<;>rw[e]<;>decide +kernel
def AR {xs:-l6}(i:Nat):(AQ xs i).4<=1+3 * xs.4:=by
 unfold AQ;rw[ω,List.length_flatMap];let h:∀l:-l6,(l.map λx=>[x.47,dU x.42,x.kind.6].4).72=3 * l.4:=by
  intro l
  induction l with
  | nil=>rfl
  | cons a l ih=>rw[ϒ,cH,ih,ω];simp;lk
 rw[h,af];lk
def aaf {xs:-l6}(ok:iF xs)(h3:xs.4<=3)(i:Nat):UQ (bV [59] ((AQ xs i).map gd)):=by
 constructor
 ·intro c h
  rcases wS h with q | ⟨l,hl,q⟩
  ·simp at q;lk
  ·(show Ϗ (μ.mp hl) λa ha ϐ=>?_;subst ϐ)
   show XV (Ft ok i a ha).2 c q
 ·let h1:=AK (z:=[59]) (m:=24) (ls:=(AQ xs i).map gd) (λl hl=>by
   (show Ϗ (μ.mp hl) λa ha ϐ=>?_;subst ϐ);have:=AC a;have:=(Ft ok i a ha).1
   lk)
  let h2:=AR (xs:=xs) i;rw[Η,ϯ] at h1;lk
def Ho:∀{l:-(-Nat)},(∀a∈l,a.4<=12)->(l.map be).72<=12 * l.4
 | [],_=>by simp
 | a::l,h=>by
  have:=h a ∅;have:=Ho (l:=l) λb hb=>h b (by simp[hb]);simp only[ϒ,cH,ω];lk
def Kv.lines {A:CA}(h:Kv k H A Z M)(c:ϰ [A.bl] H H')(hs:∃o,H' A.bl=!o)(ls:-(-Nat)):Kv k H' A Z { M with ls:=ls }:=by
 let Ky:=CA.adZ h.nd;let nr:=CA.aab h.nd (mi 3 rfl);obtain⟨dx,e⟩:=h.pG;let hz:∀b∈[A.bl],b∈Z\/∀xs,H b≠!.lst xs:=λb hb=>.inl (by rw[Ζ.mp hb];show h.sG.1)
 show⟨⟨dx,c.keep _ _ e (aO Ky 1 [3] rfl rfl "!")⟩,h.Fq.bO c (aO Ky 4 [3] rfl rfl "!") (aO Ky 5 [3] rfl rfl "!"),h.Cy,c.keep _ _ h.oW (aO Ky 6 [3] rfl rfl "!"),λi r d m h1 h2 h3=>?_,h.26,h.46,h.kM,
  h.snd.bO c (aO Ky 7 [3] rfl rfl "!") (aO Ky 8 [3] rfl rfl "!") (aO Ky 9 [3] rfl rfl "!") (aO Ky 10 [3] rfl rfl "!") hz,h.XW.bO c (aO Ky 11 [3] rfl rfl "!") (aO Ky 12 [3] rfl rfl "!") (aO Ky 13 [3] rfl rfl "!") (λ_ hu=>nomatch hu),h.Wm.bO c (aO Ky 15 [3] rfl rfl "!") (aO Ky 16 [3] rfl rfl "!") (aO Ky 17 [3] rfl rfl "!"),c.keep _ _ h.grp (aO Ky 14 [3] rfl rfl "!"),h.sG,λb hb=>gQ c (λb hb=>by rw[Ζ.mp hb];show hs) b (h.zo b hb),h.nd⟩
 show(h.row i r d m h1 h2 h3).bO c (by simp;show λz=>nr.1 (z▸(Β h1))) (by simp;show λz=>nr.2 (z▸(Β h2)))
def qS.wrote {A:CA}(h:qS k H A Z M)(c:ϰ [A.bl] H H')(b:ic k.B H' A.bk A.bl ls):qS k H' A Z { M with ls:=ls }:=by
 obtain⟨dx,e⟩:=h.pH;show⟨⟨dx,c.keep _ _ e (aO (CA.adZ h.94) 0 [3] rfl rfl "!")⟩,b,h.st.lines c ⟨_,b.33⟩ ls⟩
def qS.ah2 {A:CA}(h:qS k H A Z M)(h0:∀z,M.S.L z=none)(Z':-Ν)(hz:∀b∈Z',∃o,H b=!o):qS k H A (Z'++Z) M:=
 letI s:=h.st
 ⟨h.pH,h.91,⟨s.pG,s.Fq,s.Cy,s.oW,s.row,s.26,s.46,s.kM,⟨s.snd.27,s.snd.gh,s.snd.QV,by
  (show au s.snd.UR λkv e1 e2 _=>?_)
  show(ac kv e1 e2 (λz hz=>by rw[h0 z] at hz;cases hz)),s.snd.rl,s.snd.rt,s.snd.rp,s.snd.lt,s.snd.lp,s.snd.tp⟩,s.XW,s.Wm,s.grp,
  ⟨Θ _ s.sG.1,Θ _ s.sG.2.1,Θ _ s.sG.2.2.1,Θ _ s.sG.2.2.2⟩,λb hb=>(Ο.mp hb).elim (hz b) (s.zo b),s.nd⟩⟩
def Hq (A:CA)(x bk bl:Ν):(x::([bk,bl]++(A.new++[A.st]))).Perm ({ A with c:=x,bk:=bk,bl:=bl }:CA).fix:=AO λa=>by
 unfold CA.new CA.fix;simp only[iX,im,iY,dA]
 ac_rfl
def ϰ.past {A:-Ν}(c:ϰ A H H1)(d:ϰ [b] H1 H2)(h:H b=none):ϰ A H H2:=
 ⟨λx o e n=>d.keep x o (c.keep x o e n) (by simp;show λz=>by rw[z,h] at e;cases e),λx xs e=>d.tup x xs (c.tup x xs e)⟩
def nx0 (h:R=tR)(k:tR D σ H):R D σ H:=h▸k
def nx1 {R t1:TS}(h:R=ja t1 tR)(k:∀R,R=tR->ja t1 R D σ H):R D σ H:=h▸k _ rfl
def nx2 {R t1 t2:TS}(h:R=ja t1 (ja t2 tR))(k:∀R,R=tR->ja t1 (ja t2 R) D σ H):R D σ H:=h▸k _ rfl
def n1 {x y:Ν}(h:x≠y):x∉[y]:=λm=>h (Ζ.mp m)
structure SZ where
 F:-Ν
 R:Hp->Prop
 bO:∀{B:-Ν} {H H':Hp},R H->ϰ B H H'->(∀b∈B,b∉F)->R H'
 here:∀{H:Hp},R H->∀b∈F,∃o,H b=!o
abbrev CA.fx (A:CA):-Ν:=[A.c,A.st,A.bk,A.bl,A.sh,A.61,A.rl,A.sn,A.l,A.t,A.p]++(A.rs++A.ds)
abbrev Wo (A:CA)(t:Int):-(Str×V):=[("shelves",.ref A.sh),("rows",.ref A.rl),("senders",.ref A.sn),("deeds",.ref A.de),("groups",.ref A.gr),("readers",.ref A.rd),("turn",.int t)]
structure oC (k:CK)(R:SZ)(t:Int)(H:Hp)(A:CA)(Z:-Ν)(M:CM):Prop where
 pG:∃dx,H A.st=!.ins k.S dx (Wo A t)
 Fq:Aw k.H H A.sh A.61 M.xs
 Cy:iF M.xs
 oW:H A.rl=!.lst (A.rs.map V.ref)
 row:∀(i:Nat) r d m,A.rs[i]?=!r->A.ds[i]?=!d->M.Ms[i]?=!m->io k.R H r d m
 len:A.rs.4=aG M.xs M.xs.4
 lend:A.ds.4=A.rs.4
 kM:M.Ms.4=A.rs.4
 snd:dE k.N H A.sn A.l A.t A.p Z M.S
 rest:R.R H
 sG:A.bl∈Z/\A.rl∈Z/\A.61∈Z
 zf:∀b∈R.F,b∈Z\/∀xs,H b≠!.lst xs
 zo:∀b∈Z,∃o,H b=!o
 nd:(A.fx++R.F).13
structure D6 (k:CK)(R:SZ)(t:Int)(H:Hp)(A:CA)(Z:-Ν)(M:CM):Prop where
 pH:∃dx,H A.c=!.ins k.C dx (ceF A)
 book:ic k.B H A.bk A.bl M.ls
 st:oC k R t H A Z M
def CA.D7 {A:CA}{F:-Ν}(nd:(A.fx++F).13):A.fx.13:=(ϗ.mp nd).1
def CA.oX {A:CA}{F:-Ν}(nd:(A.fx++F).13)(h:a∈A.fx):a∉F:=λz=>(ϗ.mp nd).2.2 a h a z rfl
def CA.vp {A:CA}(nd:A.fx.13)(ha:a∈[A.c,A.st,A.bk,A.bl,A.sh,A.61,A.rl,A.sn,A.l,A.t,A.p]):a∉A.rs/\a∉A.ds:=by
 have:=(ϗ.mp nd).2.2;show⟨λz=>this a ha a (Φ _ z) rfl,λz=>this a ha a (Θ _ z) rfl⟩
def CA.S0 {A:CA}(nd:A.fx.13):[A.c,A.st,A.bk,A.bl,A.sh,A.61,A.rl,A.sn,A.l,A.t,A.p].13:=(ϗ.mp nd).1
def CA.ah3 {A:CA}(nd:A.fx.13):(A.rs++A.ds).13:=(ϗ.mp nd).2.1
def oC.bO {A:CA}(h:oC k R t H A Z M)(c:ϰ B H H')(hB:∀b∈B,b∉A.fx)(hF:∀b∈B,b∉R.F)(hz:∀b∈B,b∈Z\/∀xs,H b≠!.lst xs)(hs:∀b∈B,∃o,H' b=!o):oC k R t H' A Z M:=by
 let n:∀{a:Ν},a∈A.fx->a∉B:=λha hb=>hB _ hb ha;let f:∀{a:Ν},a∈[A.c,A.st,A.bk,A.bl,A.sh,A.61,A.rl,A.sn,A.l,A.t,A.p]->a∉B:=λha=>n (Φ _ ha);obtain⟨dx,e⟩:=h.pG
 show⟨⟨dx,c.keep _ _ e (f (mi 1 rfl))⟩,h.Fq.bO c (f (mi 4 rfl)) (f (mi 5 rfl)),h.Cy,c.keep _ _ h.oW (f (mi 6 rfl)),
  λi r d m h1 h2 h3=>(h.row i r d m h1 h2 h3).bO c (n (Θ _ (Φ _ (Β h1)))) (n (Θ _ (Θ _ (Β h2)))),h.26,h.46,h.kM,
  h.snd.bO c (f (mi 7 rfl)) (f (mi 8 rfl)) (f (mi 9 rfl)) (f (mi 10 rfl)) hz,R.bO h.36 c hF,h.sG,λb hb=>(h.zf b hb).imp id λz xs q=>by
   obtain⟨o,eo⟩:=R.here h.36 b hb;rw[c.keep _ _ eo (λUP=>hF b UP hb)] at q
   show z xs (by rw[eo];show q),λb hb=>gQ c hs b (h.zo b hb),h.nd⟩
def oC.same {A:CA}(h:oC k R t H A Z M)(s:ι H H'):oC k R t H' A Z M:=h.bO (B:=[]) (ϰ.of_same s) (λ_ z=>nomatch z) (λ_ z=>nomatch z) (λ_ z=>nomatch z) (λ_ z=>nomatch z)
def oC.zfk {A:CA}(h:oC k R t H A Z M)(c:ϰ B H H')(hF:∀b∈B,b∉R.F):∀b∈R.F,b∈Z\/∀xs,H' b≠!.lst xs:=λb hb=>(h.zf b hb).imp id λz xs q=>by
 obtain⟨o,eo⟩:=R.here h.36 b hb;rw[c.keep _ _ eo (λUP=>hF b UP hb)] at q;show z xs (by rw[eo];show q)
def oC.sends {A:CA}(h:oC k R t H A Z M)(c:ϰ [A.l,A.t,A.p] H H')(s':dE k.N H' A.sn A.l A.t A.p Z S'):oC k R t H' A Z { M with S:=S' }:=by
 let nf:=CA.D7 h.nd;let CV:=CA.S0 nf;let inl:∀a∈[A.l,A.t,A.p],a∈[A.c,A.st,A.bk,A.bl,A.sh,A.61,A.rl,A.sn,A.l,A.t,A.p]:=λa ha=>by
  simp only[Ι,Μ,ϖ] at ha;rcases ha with rfl | rfl | rfl
  ·show mi 8 rfl
  ·show mi 9 rfl
  ·show mi 10 rfl
 let nr:=λa ha=>CA.vp nf (inl a ha);let hF:=λb hb=>CA.oX h.nd (Φ _ (inl b hb));obtain⟨dx,e⟩:=h.pG;let hs:∀b∈[A.l,A.t,A.p],∃o,H' b=!o:=λb hb=>by
  (show Ϗ s'.gh λk1 e1 _=>?_);(show Ϗ s'.QV λk2 e2 _=>?_);(show Ϗ s'.UR λk3 e3 _=>?_);simp only[Ι,Μ,ϖ] at hb;rcases hb with rfl | rfl | rfl
  ·show⟨_,e1⟩
  ·show⟨_,e2⟩
  ·show⟨_,e3⟩
 show⟨⟨dx,c.keep _ _ e (aO CV 1 [8,9,10] rfl rfl "!")⟩,h.Fq.bO c (aO CV 4 [8,9,10] rfl rfl "!") (aO CV 5 [8,9,10] rfl rfl "!"),h.Cy,c.keep _ _ h.oW (aO CV 6 [8,9,10] rfl rfl "!"),λi r d m h1 h2 h3=>?_,h.26,h.46,h.kM,s',
  R.bO h.36 c hF,h.sG,h.zfk c hF,λb hb=>gQ c hs b (h.zo b hb),h.nd⟩
 show(h.row i r d m h1 h2 h3).bO c (λz=>(nr r z).1 (Β h1)) (λz=>(nr d z).2 (Β h2))
def oC.ad2 {A:CA}(h:oC k R t H A Z M)(hr:A.rs[i]?=!r)(hd:A.ds[i]?=!d)(c:ϰ [r,d] H H')(R':io k.R H' r d m'):oC k R t H' A Z { M with Ms:=M.Ms.set i m' }:=by
 let nf:=CA.D7 h.nd;let mr:=Β hr;let md:=Β hd;let f:∀{a:Ν},a∈[A.c,A.st,A.bk,A.bl,A.sh,A.61,A.rl,A.sn,A.l,A.t,A.p]->a∉[r,d]:=λha z=>by
  have:=CA.vp nf ha;simp only[Ι,Μ,ϖ] at z;rcases z with rfl | rfl
  ·show this.1 mr
  ·show this.2 md
 let hF:∀b∈[r,d],b∉R.F:=λb hb=>CA.oX h.nd (Θ _ (by
  simp only[Ι,Μ,ϖ] at hb;rcases hb with rfl | rfl
  ·show Φ _ mr
  ·show Θ _ md))
 let ndR:=CA.ah3 nf;let ndx:=(ϗ.mp ndR).2.2;obtain⟨dx,e⟩:=h.pG;obtain⟨XX,er⟩:=R'.27;(show Ϗ R'.59 λkd ed _=>?_);let hs:∀b∈[r,d],∃o,H' b=!o:=λb hb=>by
  simp only[Ι,Μ,ϖ] at hb;rcases hb with rfl | rfl
  ·show⟨_,er⟩
  ·show⟨_,ed⟩
 let hi:=(Α.mp hr).1;let hz:∀b∈[r,d],b∈Z\/∀xs,H b≠!.lst xs:=λb hb=>.inr λxs z=>by
  let hm:M.Ms[i]?=!(M.Ms[i]'(by rw[h.kM];show hi)):=by simp
  obtain⟨dx0,e0⟩:=(h.row i r d _ hr hd hm).27;(show Ϗ ((h.row i r d _ hr hd hm).59) λkv0 e1 _=>?_);simp only[Ι,Μ,ϖ] at hb;rcases hb with rfl | rfl
  ·rw[e0] at z;cases z
  ·rw[e1] at z;cases z
 show⟨⟨dx,c.keep _ _ e (f (mi 1 rfl))⟩,h.Fq.bO c (f (mi 4 rfl)) (f (mi 5 rfl)),h.Cy,c.keep _ _ h.oW (f (mi 6 rfl)),λj r1 d1 m1 h1 h2 h3=>?_,h.26,h.46,by simp[h.kM],
  h.snd.bO c (f (mi 7 rfl)) (f (mi 8 rfl)) (f (mi 9 rfl)) (f (mi 10 rfl)) hz,R.bO h.36 c hF,h.sG,h.zfk c hF,λb hb=>gQ c hs b (h.zo b hb),h.nd⟩
 by_cases ej:j=i
 ·subst ej
  rw[hr] at h1;rw[hd] at h2;cases h1;cases h2;rw[ar (by rw[h.kM];show hi)] at h3;cases h3;show R'
 ·rw[ak (ό ej)] at h3
  show(h.row j r1 d1 m1 h1 h2 h3).bO c ?_ ?_
  ·simp only[Ι,Μ,ϖ,yr]
   show⟨λz=>ej (r6 ((ϗ.mp ndR).1) h1 (z▸hr)),λz=>ndx r1 (Β h1) d md z⟩
  ·simp only[Ι,Μ,ϖ,yr]
   show⟨λz=>ndx r mr d1 (Β h2) z.17,λz=>ej (r6 ((ϗ.mp ndR).2.1) h2 (z▸hd))⟩
def oC.lines {A:CA}(h:oC k R t H A Z M)(c:ϰ [A.bl] H H')(hs:∃o,H' A.bl=!o)(ls:-(-Nat)):oC k R t H' A Z { M with ls:=ls }:=by
 let nf:=CA.D7 h.nd;let CV:=CA.S0 nf;let nr:=CA.vp nf (mi 3 rfl);let hF:∀b∈[A.bl],b∉R.F:=λb hb=>by rw[Ζ.mp hb];show CA.oX h.nd (Φ _ (mi 3 rfl))
 obtain⟨dx,e⟩:=h.pG;let hz:∀b∈[A.bl],b∈Z\/∀xs,H b≠!.lst xs:=λb hb=>.inl (by rw[Ζ.mp hb];show h.sG.1)
 show⟨⟨dx,c.keep _ _ e (aO CV 1 [3] rfl rfl "!")⟩,h.Fq.bO c (aO CV 4 [3] rfl rfl "!") (aO CV 5 [3] rfl rfl "!"),h.Cy,c.keep _ _ h.oW (aO CV 6 [3] rfl rfl "!"),λi r d m h1 h2 h3=>?_,h.26,h.46,h.kM,
  h.snd.bO c (aO CV 7 [3] rfl rfl "!") (aO CV 8 [3] rfl rfl "!") (aO CV 9 [3] rfl rfl "!") (aO CV 10 [3] rfl rfl "!") hz,R.bO h.36 c hF,h.sG,h.zfk c hF,λb hb=>gQ c (λb hb=>by rw[Ζ.mp hb];show hs) b (h.zo b hb),h.nd⟩
 show(h.row i r d m h1 h2 h3).bO c (n1 λz=>nr.1 (z▸(Β h1))) (n1 λz=>nr.2 (z▸(Β h2)))
def oC.ad3 {A:CA}(h:oC k R t H A Z M)(c:ϰ B H H')(hB:∀b∈B,b∈R.F)(r':R'.R H')(nd:(A.fx++R'.F).13)(zf:∀b∈R'.F,b∈Z\/∀xs,H' b≠!.lst xs)(hs:∀b∈B,∃o,H' b=!o):oC k R' t H' A Z M:=by
 let n:∀{a:Ν},a∈A.fx->a∉B:=λha hb=>CA.oX h.nd ha (hB _ hb);let f:∀{a:Ν},a∈[A.c,A.st,A.bk,A.bl,A.sh,A.61,A.rl,A.sn,A.l,A.t,A.p]->a∉B:=λha=>n (Φ _ ha);obtain⟨dx,e⟩:=h.pG
 show⟨⟨dx,c.keep _ _ e (f (mi 1 rfl))⟩,h.Fq.bO c (f (mi 4 rfl)) (f (mi 5 rfl)),h.Cy,c.keep _ _ h.oW (f (mi 6 rfl)),
  λi r d m h1 h2 h3=>(h.row i r d m h1 h2 h3).bO c (n (Θ _ (Φ _ (Β h1)))) (n (Θ _ (Θ _ (Β h2)))),h.26,h.46,h.kM,
  h.snd.bO c (f (mi 7 rfl)) (f (mi 8 rfl)) (f (mi 9 rfl)) (f (mi 10 rfl)) (λb hb=>h.zf b (hB b hb)),r',h.sG,zf,λb hb=>gQ c hs b (h.zo b hb),nd⟩
def dE.ah5 {l t p:Ν}(h:dE C H r l t p Z M)(hy:∀b∈Y,H b=none):dE C H r l t p (Y++Z) M:=by
 (show au h.UR λkv e1 e2 e3=>?_)
 show⟨h.27,h.gh,h.QV,(ac kv e1 e2 (λz hz=>by
  (show ww (e3 z hz) λq ts g1 g2 g3 g4=>?_)
  show(fk q ts g1 g2 g3 (λm=>(Ο.mp m).elim (λz=>by rw[hy q z] at g2;cases g2) g4)))),h.rl,h.rt,h.rp,h.lt,h.lp,h.tp⟩
abbrev OQ (C CD:Ν):Sp:=aR λr=>aS λs=>aN λH Q _=>∃dl bz us M,cu C CD H r dl bz us M/\M.B s=none/\Q .bM H

abbrev OR (C CD:Ν):Sp:=aR λr=>aS λs=>aN λH Q _=>∃dl bz us M n,cu C CD H r dl bz us M/\M.B s=!n/\Q (.int n) H
abbrev OS (C CD:Ν):Sp:=aR λr=>aI λk=>aN λH Q _=>∃(dl bz:Ν) (us:-Ν) (M:eY),cu C CD H r dl bz us M/\∃(i:Nat) (u:Ν),k=i+1/\us[i]?=!u/\Q (.ref u) H
noncomputable abbrev jH:=Int×Int
noncomputable abbrev wU:=-Nat×Int×Int
abbrev mV (x:jH):-V:=[.int x.1,.int x.2]
abbrev aag (x:wU):-V:=[.str (S x.1),.int x.2.1,.int x.2.2]
structure DX (C CD:Ν)(H:Hp)(r dl bz:Ν)(us iu i':-Ν)(M:eY)(xs:-(-jH×-wU)):Prop where
 da:cu C CD H r dl bz us M
 l1:iu.4=us.4
 l2:i'.4=us.4
 l3:xs.4=us.4
 ob:∀(i:Nat) u s p x,us[i]?=!u->iu[i]?=!s->i'[i]?=!p->M.ds[i]?=!x->∃dx,H u=!.ins CD dx (jY x s p)
 sp:∀(i:Nat) s e,iu[i]?=!s->xs[i]?=!e->bb H s (e.1.map mV)
 pl:∀(i:Nat) p e,i'[i]?=!p->xs[i]?=!e->bb H p (e.2.map aag)
 ok:∀e∈xs,(∀y∈e.2,Sr y.1)/\e.1.4<=1000/\e.2.4<=1000
 nd:(dl::(iu++i')).13
def DX.same {dl:Ν}{xs:-(-jH×-wU)}(h:DX C CD H r dl bz us iu i' M xs)(s:ι H H'):DX C CD H' r dl bz us iu i' M xs:=
 ⟨h.da.same s,h.l1,h.l2,h.l3,λi u a b x h1 h2 h3 h4=>let ⟨dx,e⟩:=h.ob i u a b x h1 h2 h3 h4;⟨dx,s _ _ e⟩,λi a e h1 h2=>(h.sp i a e h1 h2).same s,λi a e h1 h2=>(h.pl i a e h1 h2).same s,h.ok,h.nd⟩
def DX.bO {A:-Ν}{dl:Ν}{xs:-(-jH×-wU)}(h:DX C CD H r dl bz us iu i' M xs)(c:ϰ A H H')(hr:r∉A)(hd:dl∉A)(hb:bz∉A)(hu:∀u∈us,u∉A)(hs:∀u∈iu,u∉A)(hp:∀u∈i',u∉A):DX C CD H' r dl bz us iu i' M xs:=
 ⟨h.da.bO c hr hd hb hu,h.l1,h.l2,h.l3,λi u a b x h1 h2 h3 h4=>let ⟨dx,e⟩:=h.ob i u a b x h1 h2 h3 h4;⟨dx,c.keep _ _ e (hu u (Β h1))⟩,λi a e h1 h2=>(h.sp i a e h1 h2).bO c (hs a (Β h1)),λi a e h1 h2=>(h.pl i a e h1 h2).bO c (hp a (Β h1)),h.ok,h.nd⟩
def DX.kinds {dl:Ν}{xs:-(-jH×-wU)}(h:DX C CD H r dl bz us iu i' M xs){vs:-V}(ha:H a=!.lst vs):a≠r/\a≠bz/\a∉us:=by
 obtain⟨dx,e⟩:=h.da.27;(show Ϗ h.86 λkvs e2 _=>?_);show⟨dQ ha e (by intro z;cases z),dQ ha e2 (by intro z;cases z),λm=>?_⟩;obtain⟨i,hi⟩:=ϛ m;let uU:=(Α.mp hi).1;let ul:=h.da.26;(show EI (h.da.each i a _ hi (Ε ())) λd s p e3=>?_);rw[ha] at e3;cases e3
abbrev OU (CD:Ν):Sp:=aR λx=>aS λs=>aI λe=>aN λH Q _=>∃dx,H x=!.ins CD dx []/\∀sp pl H',H sp=none->H pl=none->sp≠pl->ϰ [x] H H'->H' x=!.ins CD dx (jY (s,e,aH) sp pl)->H' sp=!.lst []->H' pl=!.lst []->Q .bM H'
abbrev Kz (C CD:Ν):Sp:=aR λr=>aS λs=>aI λe=>aN λH Q _=>∃dl bz us iu i' M xs,DX C CD H r dl bz us iu i' M xs/\M.B s=none/\M.ds.4<=1000/\M.sz<=1000/\
 ∀u sp pl H',H u=none->H sp=none->H pl=none->ϰ [dl,bz] H H'->DX C CD H' r dl bz (us++[u]) (iu++[sp]) (i'++[pl]) (M.begin s e) (xs++[([],[])])->Q (.int (M.ds.4+1)) H'
abbrev OV (C CD:Ν):Sp:=aR λr=>aI λk=>aI λa=>aI λb=>aN λH Q _=>∃(dl bz:Ν) (us iu i':-Ν) (M:eY) (xs:-(-jH×-wU)),DX C CD H r dl bz us iu i' M xs/\
 ∃(i:Nat) (e:-jH×-wU) (s:Ν),k=i+1/\xs[i]?=!e/\iu[i]?=!s/\e.1.4 < 1000/\∀H',ϰ [s] H H'->DX C CD H' r dl bz us iu i' M (xs.set i (e.1++[(a,b)],e.2))->Q .bM H'
abbrev Hr (C CD:Ν):Sp:=aR λr=>aI λk=>aS λz=>aN λH Q _=>∃(dl bz:Ν) (us iu i':-Ν) (M:eY) (xs:-(-jH×-wU)),DX C CD H r dl bz us iu i' M xs/\
 ∃(i:Nat) (u:Ν) (x:Dd),k=i+1/\us[i]?=!u/\M.ds[i]?=!x/\M.B x.1=!((i:Int)+1)/\∀H',ϰ [u,bz] H H'->DX C CD H' r dl bz us iu i' (M.finish i x z) xs->Q .bM H'
abbrev KC (C CD:Ν):Sp:=aR λr=>aI λk=>aN λH Q _=>∃(dl bz:Ν) (us iu i':-Ν) (M:eY) (xs:-(-jH×-wU)),DX C CD H r dl bz us iu i' M xs/\
 ∃(i:Nat) (e:-jH×-wU),k=i+1/\xs[i]?=!e/\∀D H',H D=none->ι H H'->bb H' D (e.1.map mV)->Q (.ref D) H'
abbrev Fu (C CD:Ν):Sp:=aR λr=>aI λk=>aN λH Q _=>∃(dl bz:Ν) (us iu i':-Ν) (M:eY) (xs:-(-jH×-wU)),DX C CD H r dl bz us iu i' M xs/\
 ∃(i:Nat) (e:-jH×-wU),k=i+1/\xs[i]?=!e/\∀D H',H D=none->ι H H'->bb H' D (e.2.map aag)->Q (.ref D) H'
def XY {l:-Ν}(h:l.13)(hi:l[i]?=!a)(hj:l[j]?=!b)(SD:i≠j):a≠b:=by
 obtain⟨h1,e1⟩:=Α.mp hi;obtain⟨h2,e2⟩:=Α.mp hj;let hp:=bv.mp h;rcases iy SD with z | z
 ·intro e;show hp i j h1 h2 z (e1.trans (e.trans e2.17))
 ·intro e;show hp j i h2 h1 z (e2.trans (e.symm.trans e1.17))
section
variable {dl:Ν} {us:-Ν} {M:eY} {xs:-(-jH×-wU)} {e:-jH×-wU}
def DX.ah6 (h:DX C CD H r dl bz us iu i' M xs)(hs:iu[i]?=!s)(he:xs[i]?=!e)(c:ϰ [s] H H')(hL:bb H' s (e1.map mV))(hl:e1.4<=1000):DX C CD H' r dl bz us iu i' M (xs.set i (e1,e.2)):=by
 (show Ϗ (h.sp i s e hs he) λXZ e0 _=>?_);(show cW (h.kinds e0) λk1 k2 k3=>?_);obtain⟨n1,n2⟩:=Ϛ.mp h.nd;(show cW (ϗ.mp n2) λm1 m2 m3=>?_);let hsm:=Β hs;let ndl:dl∉[s]:=by simp;show λz=>n1 (by rw[z];show Φ _ hsm)
 let nu:∀u∈us,u∉[s]:=λu hu=>by simp;show λz=>k3 (z▸hu)
 let uU:=(Α.mp he).1;show⟨h.da.bO c (by simp;show ό k1) ndl (by simp;show ό k2) nu,h.l1,h.l2,by rw[bq];show h.l3,λj u a b x h1 h2 h3 h4=>?_,λj a e' h1 h2=>?_,λj a e' h1 h2=>?_,λe' DU=>?_,h.nd⟩
 ·obtain⟨dx,z⟩:=h.ob j u a b x h1 h2 h3 h4
  show⟨dx,c.keep _ _ z (nu u (Β h1))⟩
 ·by_cases ej:i=j
  ·subst ej
   rw[ar uU] at h2;cases h2;rw[hs] at h1;cases h1;show hL
  ·rw[ak ej] at h2
   show(h.sp j a e' h1 h2).bO c (by simp;show XY m1 h1 hs (ό ej))
 ·let nap:a∉[s]:=by simp;show λz=>m3 s hsm a (Β h1) z.17
  by_cases ej:i=j
  ·subst ej
   rw[ar uU] at h2;cases h2;show(h.pl i a e h1 he).bO c nap
  ·rw[ak ej] at h2
   show(h.pl j a e' h1 h2).bO c nap
 ·rcases mQ DU with z | z
  ·show h.ok e' z
  ·rw[z]
   (show cW (h.ok e (Β he)) λo1 o2 o3=>?_);show⟨o1,hl,o3⟩
def DX.get (h:DX C CD H r dl bz us iu i' M xs)(he:xs[i]?=!e):∃u s p x dx,us[i]?=!u/\iu[i]?=!s/\i'[i]?=!p/\M.ds[i]?=!x/\H u=!.ins CD dx (jY x s p)/\bb H s (e.1.map mV)/\bb H p (e.2.map aag):=by
 let uU:=(Α.mp he).1;let a1:=h.l1;let a2:=h.l2;let a3:=h.l3;let a4:=h.da.26;let h1:us[i]?=some us[i]:=Ε ();let h2:iu[i]?=some iu[i]:=Ε ();let h3:i'[i]?=some i'[i]:=Ε ();let h4:M.ds[i]?=some M.ds[i]:=Ε ();obtain⟨dx,z⟩:=h.ob i _ _ _ _ h1 h2 h3 h4;show(EH _ _ _ _ dx h1 h2 h3 h4 z ⟨h.sp i _ e h2 he,h.pl i _ e h3 he⟩)
end
def D8 (x:Dd)(sp pl:Ν):(jY x sp pl).lookup (Κ "spots")=!.ref sp:=rfl
def Hs (x:Dd)(sp pl:Ν):(jY x sp pl).lookup (Κ "pledges")=!.ref pl:=rfl
structure DA where
 us:-Ν
 iu:-Ν
 i':-Ν
structure DM where
 M:eY
 xs:-(-jH×-wU)
 R:SR
abbrev fD (A:CA)(d:DA):-Ν:=[A.de,A.dl,A.bz,A.gr,A.rd,A.ra,A.rb]++(d.us++(d.iu++d.i'))
structure Ht (k:CK)(CD:Ν)(A:CA)(d:DA)(m:DM)(H:Hp):Prop where
 dx:DX k.D CD H A.de A.dl A.bz d.us d.iu d.i' m.M m.xs
 rd:ur k.Rd H A.rd A.ra A.rb m.R
 gr:H A.gr=!.dK []
def Ht.bO {A:CA}{d:DA}(h:Ht k CD A d m H)(c:ϰ B H H')(hB:∀b∈B,b∉fD A d):Ht k CD A d m H':=by
 let n:∀{a:Ν},a∈fD A d->a∉B:=λha hb=>hB _ hb ha;let f:∀{a:Ν},a∈[A.de,A.dl,A.bz,A.gr,A.rd,A.ra,A.rb]->a∉B:=λha=>n (Φ _ ha)
 show⟨h.dx.bO c (f (mi 0 rfl)) (f (mi 1 rfl)) (f (mi 2 rfl)) (λu hu=>n (Θ _ (Φ _ hu))) (λu hu=>n (Θ _ (Θ _ (Φ _ hu)))) (λu hu=>n (Θ _ (Θ _ (Θ _ hu)))),
  h.rd.bO c (f (mi 4 rfl)) (f (mi 5 rfl)) (f (mi 6 rfl)),c.keep _ _ h.gr (f (mi 3 rfl))⟩
def Ht.here {A:CA}{d:DA}(h:Ht k CD A d m H):∀b∈fD A d,∃o,H b=!o:=λb hb=>by
 obtain⟨_,e1⟩:=h.21;(show Ϗ h.dx.86 λ_ e2 _=>?_);obtain⟨_,e3⟩:=h.rd.27;(show Ϗ h.rd.row λ_ e4 _=>?_);(show Ϗ h.rd.pla λ_ e5 _=>?_);let q0:=h.dx.da.26;let q1:=h.dx.l1;let q2:=h.dx.l2;let q3:=h.dx.l3;rcases Ο.mp hb with hb | hb
 ·simp only[Ι,Μ,ϖ] at hb
  rcases hb with rfl | rfl | rfl | rfl | rfl | rfl | rfl
  ·show⟨_,e1⟩
  ·show⟨_,h.dx.da.33⟩
  ·show⟨_,e2⟩
  ·show⟨_,h.gr⟩
  ·show⟨_,e3⟩
  ·show⟨_,e4⟩
  ·show⟨_,e5⟩
 ·rcases Ο.mp hb with hb | hb
  ·obtain⟨i,hi⟩:=ϛ hb
   let uU:=(Α.mp hi).1;(show EI (h.dx.da.each i b _ hi (Ε ())) λ_ _ _ e=>?_);show⟨_,e⟩
  ·rcases Ο.mp hb with hb | hb
   ·obtain⟨i,hi⟩:=ϛ hb
    let uU:=(Α.mp hi).1;(show Ϗ (h.dx.sp i b _ hi (Ε ())) λ_ e _=>?_);show⟨_,e⟩
   ·obtain⟨i,hi⟩:=ϛ hb
    let uU:=(Α.mp hi).1;(show Ϗ (h.dx.pl i b _ hi (Ε ())) λ_ e _=>?_);show⟨_,e⟩
abbrev X3 (k:CK)(CD:Ν)(A:CA)(d:DA)(m:DM):SZ:=⟨fD A d,Ht k CD A d m,λh c hB=>h.bO c hB,λh=>h.77⟩
theorem Cz (k:CK)(CD:Ν)(t:Int)(H:Hp)(A:CA)(d:DA)(Z:-Ν)(M:CM)(m:DM):Prop:=oC k (X3 k CD A d m) t H A Z M
theorem Hu (k:CK)(CD:Ν)(t:Int)(H:Hp)(A:CA)(d:DA)(Z:-Ν)(M:CM)(m:DM):Prop:=D6 k (X3 k CD A d m) t H A Z M
def D6.bO {A:CA}(h:D6 k R t H A Z M)(c:ϰ B H H')(hB:∀b∈B,b∉A.fx)(hF:∀b∈B,b∉R.F)(hz:∀b∈B,b∈Z\/∀xs,H b≠!.lst xs)(hs:∀b∈B,∃o,H' b=!o):D6 k R t H' A Z M:=by
 let f:∀{a:Ν},a∈[A.c,A.st,A.bk,A.bl,A.sh,A.61,A.rl,A.sn,A.l,A.t,A.p]->a∉B:=λha hb=>hB _ hb (Φ _ ha);obtain⟨dx,e⟩:=h.pH;obtain⟨ME,e2⟩:=h.book.27;show⟨⟨dx,c.keep _ _ e (f (mi 0 rfl))⟩,⟨⟨ME,c.keep _ _ e2 (f (mi 2 rfl))⟩,c.keep _ _ h.book.33 (f (mi 3 rfl))⟩,h.st.bO c hB hF hz hs⟩
def D6.same {A:CA}(h:D6 k R t H A Z M)(s:ι H H'):D6 k R t H' A Z M:=h.bO (B:=[]) (ϰ.of_same s) (λ_ z=>nomatch z) (λ_ z=>nomatch z) (λ_ z=>nomatch z) (λ_ z=>nomatch z)
def D6.wrote {A:CA}(h:D6 k R t H A Z M)(c:ϰ [A.bl] H H')(b:ic k.B H' A.bk A.bl ls):D6 k R t H' A Z { M with ls:=ls }:=by
 obtain⟨dx,e⟩:=h.pH;show⟨⟨dx,c.keep _ _ e (aO (CA.S0 (CA.D7 h.94)) 0 [3] rfl rfl "!")⟩,b,h.st.lines c ⟨_,b.33⟩ ls⟩
def D6.stood {k:CK}{R R':SZ}{t':Int}{A:CA}{B:-Ν}{M M':CM}(h:D6 k R t H A Z M)(c:ϰ B H H')(hB:∀b∈B,b∈A.st::A.l::A.t::A.p::(A.rs++A.ds)\/b∈R.F)(s':oC k R' t' H' A Z' M')(e:M'.ls=M.ls):D6 k R' t' H' A Z' M':=by
 let nf:=CA.D7 h.94;let no:∀(m:Nat) a,[A.c,A.st,A.bk,A.bl,A.sh,A.61,A.rl,A.sn,A.l,A.t,A.p][m]?=!a->m∉[1,8,9,10]->a∉B:=λm a ha hm hb=>by
  let n1:=CA.vp nf (mi m ha);rcases hB a hb with z | z
  ·rcases Ο.mp (show a∈[A.st,A.l,A.t,A.p]++(A.rs++A.ds) from z) with z | z
   ·show (aO (A:=[A.st,A.l,A.t,A.p]) (CA.S0 nf) m [1,8,9,10] ha rfl hm) z
   ·show(Ο.mp z).elim n1.1 n1.2
  ·show CA.oX h.94 (Φ _ (mi m ha)) z
 obtain⟨dx,e1⟩:=h.pH;obtain⟨ME,e2⟩:=h.book.27;show⟨⟨dx,c.keep _ _ e1 (no 0 _ rfl "!")⟩,⟨⟨ME,c.keep _ _ e2 (no 2 _ rfl "!")⟩,by rw[e];show c.keep _ _ h.book.33 (no 3 _ rfl "!")⟩,s'⟩
def D6.there {A:CA}(h:D6 k R t H A Z M):∀b∈A.fx++R.F,∃o,H b=!o:=λb hb=>by
 obtain⟨dx1,e1⟩:=h.pH;obtain⟨ME,e2⟩:=h.book.27;obtain⟨Wp,e3⟩:=h.st.pG;obtain⟨dx4,e4⟩:=h.st.Fq.27;(show Ϗ h.st.Fq.33 λ_ e5 _=>?_);obtain⟨dx6,e6⟩:=h.st.snd.27;(show Ϗ h.st.snd.gh λ_ e7 _=>?_);(show Ϗ h.st.snd.QV λ_ e8 _=>?_);(show Ϗ h.st.snd.UR λ_ e9 _=>?_);rcases Ο.mp hb with hb | hb
 ·unfold CA.fx at hb
  rcases Ο.mp hb with hb | hb
  ·simp only[Ι,Μ,ϖ] at hb
   rcases hb with rfl | rfl | rfl | rfl | rfl | rfl | rfl | rfl | rfl | rfl | rfl
   ·show⟨_,e1⟩
   ·show⟨_,e3⟩
   ·show⟨_,e2⟩
   ·show⟨_,h.book.33⟩
   ·show⟨_,e4⟩
   ·show⟨_,e5⟩
   ·show⟨_,h.st.oW⟩
   ·show⟨_,e6⟩
   ·show⟨_,e7⟩
   ·show⟨_,e8⟩
   ·show⟨_,e9⟩
  ·rcases Ο.mp hb with hb | hb
   ·obtain⟨i,hi⟩:=ϛ hb
    let uU:=(Α.mp hi).1;let hd:A.ds[i]?=!(A.ds[i]'(by rw[h.st.46];show uU)):=by simp
    let hm:M.Ms[i]?=!(M.Ms[i]'(by rw[h.st.kM];show uU)):=by simp
    obtain⟨_,e⟩:=(h.st.row i b _ _ hi hd hm).27;show⟨_,e⟩
   ·obtain⟨i,hi⟩:=ϛ hb
    let uU:=(Α.mp hi).1;let hr:A.rs[i]?=!(A.rs[i]'(by rw[<-h.st.46];show uU)):=by simp
    let hm:M.Ms[i]?=!(M.Ms[i]'(by rw[h.st.kM,<-h.st.46];show uU)):=by simp
    (show Ϗ ((h.st.row i _ b _ hr hi hm).59) λ_ e _=>?_);show⟨_,e⟩
 ·show R.here h.st.36 b hb
def D6.MF {A:CA}(h:D6 k R t H A Z M)(e:H b=none):b∉A.fx++R.F:=λz=>by
 obtain⟨o,q⟩:=h.there b z;rw[e] at q;cases q
noncomputable abbrev EvL:=-(Str×-Str×Ν)
abbrev KD (L:EvL):Sp:=aS λn=>aR λp=>aN λH Q _=>∃pa ps,H p=!(.lst (ps.map λx=>x.2.1))/\(n,ps.map (·.1),pa)∈L/\nU n ps/\
 ∀D H',H D=none->ι H H'->H' D=!.dK (nT n ps)->Q (.ref D) H'
abbrev bdT (n:Str)(ps:-Part):-Nat:=bV [59] ((n.6::ps.map λx=>x.2.2).map gd)
abbrev OW (L:EvL):Sp:=aR λD=>aN λH Q _=>∃n pa ps,H D=!.dK (nT n ps)/\(n,ps.map (·.1),pa)∈L/\nU n ps/\
 ∀H',ι H H'->UQ (bdT n ps)->Q (.str (S (bdT n ps))) H'
abbrev ut (dd:Nat)(n:-Nat)(e:Nat):-Part:=[("deed",.int (dd:Int),dU (dd:Int)),("sender",.str (S n),n),("end",.int (e:Int),dU (e:Int))]
abbrev pJ (dd:Nat):-Part:=[("deed",.int (dd:Int),dU (dd:Int))]
abbrev D9 (t:Nat):-Part:=[("turn",.int (t:Int),dU (t:Int))]
abbrev S6 (ph pp pb pc pd pt:Ν):EvL:=[("hail",["sender","life"],ph),("put",["sender","number","deed","row","place","key","word"],pp),("begin",["deed","sender","end"],pb),("close",["deed"],pc),("drop",["deed"],pd),("turn",["turn"],pt)]
def Wq {x a b c d e f:α}(h:x∈[a,b,c,d,e,f]):x=a\/x=b\/x=c\/x=d\/x=e\/x=f:=by
 simpa using h
def bI {l:-α}{x:α}(i:Nat)(h:l[i]?=!x):x∈l:=Β h
abbrev vq:Str:=Κ "closed"
abbrev gR:Str:=Κ "dropped"
abbrev OX (A:CA)(F:-Ν):-Ν:=(A.st::A.l::A.t::A.p::(A.rs++A.ds))++F
abbrev xX (k:CK)(CD:Ν)(H:Hp)(A:CA)(d:DA)(Z:-Ν)(t':Int)(M':CM)(m':DM)(R:Hp->Prop):Prop:=
 ∀H' d' Z',ϰ (OX A (fD A d)) H H'->(∀b∈fD A d',b∈fD A d\/H b=none)->(∀b∈Z,b∈Z')->Cz k CD t' H' A d' Z' M' m'->R H'
abbrev DM.hold (m:DM)(j:Nat)(e:-jH×-wU)(y:jH):DM:={ m with xs:=m.xs.set j (e.1++[y],e.2) }
abbrev DM.begin (m:DM)(s:Str)(e:Int):DM:={ m with M:=m.M.begin s e,xs:=m.xs++[([],[])] }
abbrev DM.finish (m:DM)(j:Nat)(x:Dd)(z:Str):DM:={ m with M:=m.M.finish j x z }
abbrev mW (Ms:-eX)(iu:-jH):-eX:=iu.foldl (λMs s=>Ms.modify s.1.9 λm=>m.out s.2) Ms
abbrev Hv (k:CK)(CD:Ν):Sp:=aR λz1=>aR λD=>aN λH Q _=>∃t A,z1=A.st/\∃d Z M m n kk,Cz k CD t H A d Z M m/\H D=!.dK (nT "hail" (DW n kk))/\M.S.sz<=100000/\(∀v,M.S.L (S n)=!v->1<=v)/\
 xX k CD H A d Z t (M.cr (S n)) m (Q .bM)
abbrev Hw (k:CK)(CD:Ν):Sp:=aR λz1=>aR λD=>aN λH Q _=>∃t A,z1=A.st/\∃d Z M m t',Cz k CD t H A d Z M m/\H D=!.dK (nT "turn" (D9 t'))/\xX k CD H A d Z (t':Int) M m (Q .bM)
abbrev Ea (k:CK)(CD:Ν):Sp:=aR λz1=>aR λD=>aN λH Q _=>∃t A,z1=A.st/\∃d Z M m dd n e,Cz k CD t H A d Z M m/\H D=!.dK (nT "begin" (ut dd n e))/\m.M.B (S n)=none/\m.M.ds.4<=1000/\m.M.sz<=1000/\(∀b∈A.fx,∃o,H b=!o)/\
 xX k CD H A d Z t M (m.begin (S n) e) (Q .bM)
abbrev Eb (k:CK)(CD:Ν):Sp:=aR λz1=>aR λD=>aN λH Q _=>∃t A,z1=A.st/\∃d Z M m j x,Cz k CD t H A d Z M m/\H D=!.dK (nT "close" (pJ (j+1)))/\m.M.ds[j]?=!x/\m.M.B x.1=!((j:Int)+1)/\
 xX k CD H A d Z t M (m.finish j x vq) (Q .bM)
abbrev Hy (k:CK)(CD:Ν):Sp:=aR λz1=>aR λD=>aN λH Q _=>∃t A,z1=A.st/\∃d Z M m j x e,Cz k CD t H A d Z M m/\H D=!.dK (nT "drop" (pJ (j+1)))/\D∉OX A (fD A d)/\m.M.ds[j]?=!x/\m.M.B x.1=!((j:Int)+1)/\m.xs[j]?=!e/\(∀s∈e.1,0<=s.1/\s.1 < A.rs.4)/\
 xX k CD H A d Z t { M with Ms:=mW M.Ms e.1 } (m.finish j x gR) (Q .bM)
abbrev MG (k:CK)(CD:Ν):Sp:=aR λz1=>aR λD=>aN λH Q _=>∃t A,z1=A.st/\∃d Z M m n kk dd i pl key wo mr,Cz k CD t H A d Z M m/\H D=!.dK (nT "put" (wR n kk dd i pl key wo))/\D∉OX A (fD A d)/\
 M.Ms[i]?=!mr/\mr.24<=10000/\M.S.sz<=100000/\(M.S.L (S n)).11=true/\(kk:Int)=M.S.T (S n)+1/\
 ((dd=0/\xX k CD H A d Z t (M.put i mr (key,wo,0) (S n) kk) m (Q .bM))\/∃j e,dd=j+1/\m.xs[j]?=!e/\e.1.4 < 1000/\xX k CD H A d Z t (M.put i mr (key,wo,(dd:Int)) (S n) kk) (m.hold j e ((i:Int),mr.24)) (Q .bM))
def vt {A:CA}{F:-Ν}(h:b∈A.l::A.t::A.p::(A.rs++A.ds)):b∈OX A F:=Φ _ (ψ _ h)
def vv {A:CA}{F:-Ν}(h:b∈F):b∈OX A F:=Θ _ h
def kO {A:CA}{d:DA}:∀b∈fD A d,b∈fD A d\/H b=none:=λ_ h=>.inl h
def oC.X4 {A:CA}{d:DA}(h:Cz k CD t H A d Z M m)(c:ϰ B H H')(hB:∀b∈B,b∈fD A d)(dx:DX k.D CD H' A.de A.dl A.bz d.us d.iu d.i' m'.M m'.xs)(e:m'.R=m.R)(nB:∀b∈B,b∉[A.gr,A.rd,A.ra,A.rb])(hz:∀b∈B,b∈Z\/∀xs,H' b≠!.lst xs):Cz k CD t H' A d Z M m':=by
 let I:=h.36;let n:∀{a:Ν},a∈[A.gr,A.rd,A.ra,A.rb]->a∉B:=λha hb=>nB _ hb ha;let I':Ht k CD A d m' H':=⟨dx,by rw[e];show I.rd.bO c (n (mi 1 rfl)) (n (mi 2 rfl)) (n (mi 3 rfl)),c.keep _ _ I.gr (n (mi 0 rfl))⟩
 show h.ad3 c hB I' h.nd (λb hb=>?_) (λb hb=>I'.here b (hB b hb));rcases h.zf b hb with z | z
 ·show .inl z
 ·by_cases mb:b∈B
  ·show hz b mb
  ·obtain⟨o,eo⟩:=I.here b hb
   show .inr λxs q=>z xs ?_;rw[c.keep _ _ eo mb] at q;rw[eo];show q
def Hz (A:CA)(t:Int):(Wo A t).lookup (Κ "shelves")=!.ref A.sh:=rfl
def AS (A:CA)(t:Int):(Wo A t).lookup (Κ "rows")=!.ref A.rl:=rfl
def fj (A:CA)(t:Int):(Wo A t).lookup (Κ "senders")=!.ref A.sn:=rfl
def cN (A:CA)(t:Int):(Wo A t).lookup (Κ "deeds")=!.ref A.de:=rfl
def HA (A:CA)(t:Int):(Wo A t).lookup (Κ "turn")=!.int t:=rfl
def OY (dd:Nat)(n:-Nat)(e:Nat):a8 (nT "begin" (ut dd n e)) (.inr "sender")=!.str (S n):=by rfl
def aaj (dd:Nat)(n:-Nat)(e:Nat):a8 (nT "begin" (ut dd n e)) (.inr "end")=!(.int (e:Int)):=by rfl
def Wr (dd:Nat):a8 (nT "close" (pJ dd)) (.inr "deed")=!(.int (dd:Int)):=by rfl
def MH (dd:Nat):a8 (nT "drop" (pJ dd)) (.inr "deed")=!(.int (dd:Int)):=by rfl
def Ws (t:Nat):a8 (nT "turn" (D9 t)) (.inr "turn")=!(.int (t:Int)):=by rfl
def oC.inZ {A:CA}(h:oC k R t H A Z M)(hb:b∈R.F)(e:H b=!.lst xs):b∈Z:=(h.zf b hb).resolve_right λz=>z xs e
def MI {A:CA}{d:DA}(h:b∈d.us):b∈fD A d:=Θ _ (Φ _ h)
def AT {A:CA}{d:DA}(h:b∈d.iu):b∈fD A d:=Θ _ (Θ _ (Φ _ h))
def S7 {A:CA}{d:DA}(h:b∈d.i'):b∈fD A d:=Θ _ (Θ _ (Θ _ h))
def AU {A:CA}{d:DA}(h:b∈[A.de,A.dl,A.bz,A.gr,A.rd,A.ra,A.rb]):b∈fD A d:=Φ _ h
def oC.ndF {A:CA}{d:DA}(h:Cz k CD t H A d Z M m):(fD A d).13:=(ϗ.mp h.nd).2.1
def oC.ndX {A:CA}{d:DA}(h:Cz k CD t H A d Z M m)(ha:a∈[A.de,A.dl,A.bz,A.gr,A.rd,A.ra,A.rb])(hb:b∈d.us++(d.iu++d.i')):b≠a:=λz=>(ϗ.mp h.ndF).2.2 a ha b hb z.17
def m47 {x a b c:α}(h:x∈l):x∈a::b::c::l:=ψ _ (ψ _ (ψ _ h))
def oC.held {A:CA}{d:DA}{M:CM}{m:DM}{e:-jH×-wU}{y:jH}(h:Cz k CD t H A d Z M m)(hs:d.iu[j]?=!s)(he:m.xs[j]?=!e)(c:ϰ [s] H H')(dx:DX k.D CD H' A.de A.dl A.bz d.us d.iu d.i' m.M (m.xs.set j (e.1++[y],e.2))):Cz k CD t H' A d Z M (m.hold j e y):=by
 let ms:=Β hs;let mz:s∈Z:=by
  (show Ϗ (h.rest.dx.sp j s e hs he) λ_ e1 _=>?_);show h.inZ (AT ms) e1
 show h.X4 c (λb hb=>by rw[Ζ.mp hb];show AT ms) dx rfl (λb hb hm=>?_) (λb hb=>.inl (by rw[Ζ.mp hb];show mz));rw[Ζ.mp hb] at hm;let m7:s∈[A.de,A.dl,A.bz,A.gr,A.rd,A.ra,A.rb]:=by
  show m47 hm
 show h.ndX m7 (Θ _ (Φ _ ms)) rfl
def oC.finished {A:CA}{d:DA}{x:Dd}{u:Ν}(h:Cz k CD t H A d Z M m)(hu:d.us[j]?=!u)(c:ϰ [u,A.bz] H H')(dx:DX k.D CD H' A.de A.dl A.bz d.us d.iu d.i' (m.M.finish j x z) m.xs):Cz k CD t H' A d Z M (m.finish j x z):=by
 let mu:=Β hu;show h.X4 c (λb hb=>?_) dx rfl (λb hb hm=>?_) (λb hb=>.inr λxs q=>?_)
 ·simp only[Ι,Μ,ϖ] at hb
  rcases hb with rfl | rfl
  ·show MI mu
  ·show AU (mi 2 rfl)
 ·simp only[Ι,Μ,ϖ] at hb
  rcases hb with rfl | rfl
  ·let m7:b∈[A.de,A.dl,A.bz,A.gr,A.rd,A.ra,A.rb]:=by
    show m47 hm
   show h.ndX m7 (Φ _ mu) rfl
  ·show aO ((ϗ.mp h.ndF).1) 2 [3,4,5,6] rfl rfl "!" hm
 ·(show Ϗ dx.86 λ_ e1 _=>?_)
  simp only[Ι,Μ,ϖ] at hb;rcases hb with rfl | rfl
  ·let uU:=(Α.mp hu).1
   let ul:=dx.da.26;(show EI (dx.da.each j b _ hu (Ε ())) λ_ _ _ e2=>?_);rw[e2] at q;cases q
  ·rw[e1] at q;cases q
def oC.begun {A:CA}{d:DA}{e:Int}{u sp pl:Ν}(h:Cz k CD t H A d Z M m)(hu:H u=none)(oN:H sp=none)(lZ:H pl=none)(c:ϰ [A.dl,A.bz] H H')(dx:DX k.D CD H' A.de A.dl A.bz (d.us++[u]) (d.iu++[sp]) (d.i'++[pl]) (m.M.begin s e) (m.xs++[([],[])]))(hfx:∀b∈A.fx,∃o,H b=!o):Cz k CD t H' A ⟨d.us++[u],d.iu++[sp],d.i'++[pl]⟩ ([sp,pl]++Z) M (m.begin s e):=by
 let I:=h.36;let n7:=(ϗ.mp h.ndF).1;let lx:=I.dx.l3;(show Ϗ (dx.sp d.us.4 sp ([],[]) (by rw[<-I.dx.l1];simp) (by rw[<-lx];simp)) λ_ esp _=>?_);(show Ϗ (dx.pl d.us.4 pl ([],[]) (by rw[<-I.dx.l2];simp) (by rw[<-lx];simp)) λ_ epl _=>?_);let kd:=dx.kinds dx.da.33;let QW:sp≠u:=λz=>(dx.kinds esp).2.2 (by rw[z];simp);let Jh:pl≠u:=λz=>(dx.kinds epl).2.2 (by rw[z];simp);let nsl:=λz=>by
  have:=(ϗ.mp (Ϛ.mp dx.nd).2).2.2;show this sp ∅ pl ∅ z
 let old:=λb hb=>(Ο.mp hb).elim (hfx b) (I.here b);let no:∀{b:Ν},H b=none->b∉A.fx++fD A d:=λe z=>by
  obtain⟨o,q⟩:=old _ z;rw[e] at q;cases q
 let hB:∀b∈[A.dl,A.bz],b∈fD A d:=λb hb=>by
  simp only[Ι,Μ,ϖ] at hb;rcases hb with rfl | rfl
  ·show AU (mi 1 rfl)
  ·show AU (mi 2 rfl)
 let I':Ht k CD A ⟨d.us++[u],d.iu++[sp],d.i'++[pl]⟩ (m.begin s e) H':=⟨dx,I.rd.bO c (aO n7 4 [1,2] rfl rfl "!") (aO n7 5 [1,2] rfl rfl "!") (aO n7 6 [1,2] rfl rfl "!"),c.keep _ _ I.gr (aO n7 3 [1,2] rfl rfl "!")⟩
 let n:∀{a:Ν},a∈A.fx->a∉[A.dl,A.bz]:=λha hb=>CA.oX h.nd ha (hB _ hb);let f:∀{a:Ν},a∈[A.c,A.st,A.bk,A.bl,A.sh,A.61,A.rl,A.sn,A.l,A.t,A.p]->a∉[A.dl,A.bz]:=λha=>n (Φ _ ha);obtain⟨dx0,e0⟩:=h.pG;let hy:∀b∈[sp,pl],H b=none:=λb hb=>by
  simp only[Ι,Μ,ϖ] at hb;rcases hb with rfl | rfl
  ·show oN
  ·show lZ
 let UG:∀b∈[A.dl,A.bz],∃o,H' b=!o:=λb hb=>by
  (show Ϗ dx.86 λ_ e1 _=>?_);simp only[Ι,Μ,ϖ] at hb;rcases hb with rfl | rfl
  ·show⟨_,dx.da.33⟩
  ·show⟨_,e1⟩
 show⟨⟨dx0,c.keep _ _ e0 (f (mi 1 rfl))⟩,h.Fq.bO c (f (mi 4 rfl)) (f (mi 5 rfl)),h.Cy,c.keep _ _ h.oW (f (mi 6 rfl)),
  λi r d m h1 h2 h3=>(h.row i r d m h1 h2 h3).bO c (n (Θ _ (Φ _ (Β h1)))) (n (Θ _ (Θ _ (Β h2)))),h.26,h.46,h.kM,
  (h.snd.ah5 hy).bO c (f (mi 7 rfl)) (f (mi 8 rfl)) (f (mi 9 rfl)) (f (mi 10 rfl)) (λb hb=>(h.zf b (hB b hb)).imp (Θ _) id),I',?_,?_,?_,?_⟩
 ·show⟨Θ _ h.sG.1,Θ _ h.sG.2.1,Θ _ h.sG.2.2⟩
 ·let Wu:∀b∈fD A d,b∈[sp,pl]++Z\/∀xs,H' b≠!.lst xs:=λb hb=>by
   by_cases mb:b∈[A.dl,A.bz]
   ·(show Ϗ dx.86 λ_ e1 _=>?_)
    simp only[Ι,Μ,ϖ] at mb;rcases mb with rfl | rfl
    ·show .inl (Θ _ (h.inZ hb I.dx.da.33))
    ·show .inr λxs q=>by rw[e1] at q;cases q
   ·rcases h.zf b hb with z | z
    ·show .inl (Θ _ z)
    ·show .inr λxs q=>?_
     obtain⟨o,eo⟩:=I.here b hb;rw[c.keep _ _ eo mb] at q;show z xs (by rw[eo];show q)
  intro b hb;rcases Ο.mp hb with hb | hb
  ·show Wu b (AU hb)
  rcases Ο.mp hb with hb | hb
  ·rcases Ο.mp hb with hb | hb
   ·show Wu b (MI hb)
   ·rw[Ζ.mp hb]
    show .inr λxs q=>?_;show(dx.kinds q).2.2 ∅
  rcases Ο.mp hb with hb | hb
  ·rcases Ο.mp hb with hb | hb
   ·show Wu b (AT hb)
   ·rw[Ζ.mp hb];show .inl ∅
  ·rcases Ο.mp hb with hb | hb
   ·show Wu b (S7 hb)
   ·rw[Ζ.mp hb];show .inl ∅
 ·intro b hb
  rcases Ο.mp hb with hb | hb
  ·simp only[Ι,Μ,ϖ] at hb
   rcases hb with rfl | rfl
   ·show⟨_,esp⟩
   ·show⟨_,epl⟩
  ·show gQ c UG b (h.zo b hb)
 ·let pm:(A.fx++fD A ⟨d.us++[u],d.iu++[sp],d.i'++[pl]⟩).Perm (u::sp::pl::(A.fx++fD A d)):=kr.mpr λz=>by
   simp only[fD,iX,im,iY,i7];ac_rfl
  show pm.nodup_iff.mpr (Ϛ.mpr ⟨?_,Ϛ.mpr ⟨?_,Ϛ.mpr ⟨no lZ,h.nd⟩⟩⟩)
  ·simp only[Ι,yr]
   show⟨ό QW,ό Jh,no hu⟩
  ·simp only[Ι,yr]
   show⟨nsl,no oN⟩
def oC.turned {k:CK}{R:SZ}{t':Int}{A:CA}{M:CM}(h:oC k R t H A Z M)(iA:H A.st=!.ins k.S dx (Wo A t)):oC k R t' (upd H A.st (.ins k.S dx (Wo A t'))) A Z M:=by
 let nf:=CA.D7 h.nd;let CV:=CA.S0 nf;let nr:=CA.vp nf (mi 1 rfl);let c:ϰ [A.st] H (upd H A.st (.ins k.S dx (Wo A t'))):=ϰ.upd ∅ (bZ iA);let hF:∀b∈[A.st],b∉R.F:=λb hb=>by rw[Ζ.mp hb];show CA.oX h.nd (Φ _ (mi 1 rfl))
 let hz:∀b∈[A.st],b∈Z\/∀xs,H b≠!.lst xs:=λb hb=>by rw[Ζ.mp hb];show .inr λxs q=>by rw[iA] at q;cases q
 show⟨⟨dx,Δ⟩,h.Fq.bO c (aO CV 4 [1] rfl rfl "!") (aO CV 5 [1] rfl rfl "!"),h.Cy,c.keep _ _ h.oW (aO CV 6 [1] rfl rfl "!"),λi r d m h1 h2 h3=>?_,h.26,h.46,h.kM,
  h.snd.bO c (aO CV 7 [1] rfl rfl "!") (aO CV 8 [1] rfl rfl "!") (aO CV 9 [1] rfl rfl "!") (aO CV 10 [1] rfl rfl "!") hz,R.bO h.36 c hF,h.sG,h.zfk c hF,λb hb=>gQ c (λb hb=>by rw[Ζ.mp hb];show⟨_,Δ⟩) b (h.zo b hb),h.nd⟩
 show(h.row i r d m h1 h2 h3).bO c (n1 λz=>nr.1 (z▸(Β h1))) (n1 λz=>nr.2 (z▸(Β h2)))
def aak {A:CA}(h:b∈[A.l,A.t,A.p]):b∈A.l::A.t::A.p::(A.rs++A.ds):=Φ (bs:=A.rs++A.ds) h
def ad7 {A:CA}(h:b∈[A.dl,A.bz]):b∈[A.de,A.dl,A.bz,A.gr,A.rd,A.ra,A.rb]:=by
 simp only[Ι,Μ,ϖ] at h;rcases h with rfl | rfl
 ·show mi 1 rfl
 ·show mi 2 rfl
def aal {A:CA}{F:-Ν}(h:b∈A.rs):b∈OX A F:=vt (m47 (Φ _ h))
def S8 {A:CA}{F:-Ν}(h:b∈A.ds):b∈OX A F:=vt (m47 (Θ _ h))
def aam {A:CA}{d:DA}{u sp pl:Ν}(hu:H u=none)(oN:H sp=none)(lZ:H pl=none):∀b∈fD A ⟨d.us++[u],d.iu++[sp],d.i'++[pl]⟩,b∈fD A d\/H b=none:=λb hb=>by
 rcases Ο.mp hb with hb | hb
 ·show .inl (AU hb)
 rcases Ο.mp hb with hb | hb
 ·rcases Ο.mp hb with hb | hb
  ·show .inl (MI hb)
  ·rw[Ζ.mp hb];show .inr hu
 rcases Ο.mp hb with hb | hb
 ·rcases Ο.mp hb with hb | hb
  ·show .inl (AT hb)
  ·rw[Ζ.mp hb];show .inr oN
 ·rcases Ο.mp hb with hb | hb
  ·show .inl (S7 hb)
  ·rw[Ζ.mp hb];show .inr lZ
def S9 {A:CA}{d:DA}{u:Ν}(hu:d.us[j]?=!u)(h:b∈[u,A.bz]):b∈fD A d:=by
 simp only[Ι,Μ,ϖ] at h;rcases h with rfl | rfl
 ·show MI (Β hu)
 ·show AU (mi 2 rfl)
def DX.ad8 {dl:Ν}{xs:-(-jH×-wU)}(h:DX C CD H r dl bz us iu i' M xs){x:Dd}(hx:M.ds[j]?=!x):∃u,us[j]?=!u:=by
 let hj:=(Α.mp hx).1;have:=h.da.26;show⟨_,Ε ()⟩
def DX.ah' {dl:Ν}{xs:-(-jH×-wU)}(h:DX C CD H r dl bz us iu i' M xs){e:-jH×-wU}(hx:xs[j]?=!e):∃u,iu[j]?=!u:=by
 let hj:=(Α.mp hx).1;have:=h.l1;have:=h.l3;show⟨_,Ε ()⟩
def oC.ad9 {A:CA}(h:oC k R t H A Z M)(hm:M.Ms[i]?=!m):∃r d,A.rs[i]?=!r/\A.ds[i]?=!d:=by
 let hi:=(Α.mp hm).1;have:=h.kM;have:=h.46;show(cJ _ _ (Ε ()) (Ε ()))
def KF (Ms:-eX)(l:-jH)(y:jH):mW Ms (l++[y])=(mW Ms l).modify y.1.9 λm=>m.out y.2:=by
 unfold mW;rw[nv];rfl
def r8 (Ms:-eX)(l:-jH):(mW Ms l).4=Ms.4:=by
 unfold mW
 induction l generalizing Ms with
 | nil=>rfl
 | cons x l ih=>rw[Uz,ih];simp
def oC.aia {k:CK}{A:CA}{p:Int}(h:oC k R t H A Z M)(hr:A.rs[i]?=!r)(hd:A.ds[i]?=!d)(hm:M.Ms[i]?=!m)(c:ϰ [d] H H')(R':io k.R H' r d (m.out p)):oC k R t H' A Z { M with Ms:=M.Ms.modify i λm=>m.out p }:=by
 have:=h.ad2 hr hd (c.mono ∅) R';let e:M.Ms.modify i (λm=>m.out p)=M.Ms.set i (m.out p):=by
  show bg λj=>?_;rw[Jo,ck]
  by_cases ej:i=j
  ·subst ej
   rw[ε rfl,ε ((Α.mp hm).1),hm];simp
  ·rw[Ψ ej]
   cases M.Ms[j]?<;>simp[ej]
 rw[e];show this
def bb.atL {p:Ν}(h:bb H p rows):∃ts:-Ν,H p=!.lst (ts.map V.ref)/\ts.4=rows.4/\∀(i:Nat) x,(ts.map V.ref)[i]?=!x->∃t r,x=.ref t/\rows[i]?=!r/\H t=!.tup r:=by
 (revert h;show ay λts h1 h2=>?_);show(ac ts h1 h2.4 (λi x hx=>?_));rw[Ξ] at hx;cases e:ts[i]? with
 | none=>rw[e] at hx;cases hx
 | some t=>
  rw[e] at hx;(show Ϗ (h2.get e) λr hr ht=>?_);show(ϧ t r ((ϲ hx).17) hr ht)
inductive gJ
 | cr (n:-Nat) (k:Nat)
 | put (n:-Nat) (kk dd i pl:Nat) (key:-Nat) (wo:Option (-Nat))
 | begin (dd:Nat) (n:-Nat) (e:Nat)
 | close (dd:Nat)
 | drop (dd:Nat)
 | turn (t:Nat)
abbrev gJ.nm:gJ->Str
 | .cr _ _=>"hail"
 | .put _ _ _ _ _ _ _=>"put"
 | .begin _ _ _=>"begin"
 | .close _=>"close"
 | .drop _=>"drop"
 | .turn _=>"turn"
abbrev gJ.ps:gJ->-Part
 | .cr n k=>DW n k
 | .put n kk dd i pl key wo=>wR n kk dd i pl key wo
 | .begin dd n e=>ut dd n e
 | .close dd=>pJ dd
 | .drop dd=>pJ dd
 | .turn t=>D9 t
abbrev gJ.ad (ph pp pb pc pd pt:Ν):gJ->Ν
 | .cr _ _=>ph
 | .put _ _ _ _ _ _ _=>pp
 | .begin _ _ _=>pb
 | .close _=>pc
 | .drop _=>pd
 | .turn _=>pt
def gJ.inL (ph pp pb pc pd pt:Ν)(e:gJ):(e.nm,e.ps.map (·.1),e.ad ph pp pb pc pd pt)∈S6 ph pp pb pc pd pt:=by
 cases e
 ·show bI 0 rfl
 ·show bI 1 rfl
 ·show bI 2 rfl
 ·show bI 3 rfl
 ·show bI 4 rfl
 ·show bI 5 rfl
structure S5 where
 t:Int
 M:CM
 m:DM
abbrev S5.wl (X:S5)(ls:-(-Nat)):S5:=⟨X.t,{ X.M with ls:=ls },X.m⟩
abbrev i9:gJ->S5->S5->Prop
 | .cr n _,X,X'=>X.62<=100000/\(∀v,X.M.S.L (S n)=!v->1<=v)/\X'=⟨X.t,X.M.cr (S n),X.m⟩
 | .put n kk dd i _ key wo,X,X'=>∃mr,X.48[i]?=!mr/\mr.24<=10000/\X.62<=100000/\(X.M.S.L (S n)).11=true/\(kk:Int)=X.M.S.T (S n)+1/\
   ((dd=0/\X'=⟨X.t,X.M.put i mr (key,wo,0) (S n) kk,X.m⟩)\/∃j e,dd=j+1/\X.54[j]?=!e/\e.1.4 < 1000/\X'=⟨X.t,X.M.put i mr (key,wo,(dd:Int)) (S n) kk,X.m.hold j e ((i:Int),mr.24)⟩)
 | .begin _ n e,X,X'=>X.m.M.B (S n)=none/\X.m.M.ds.4<=1000/\X.87<=1000/\X'=⟨X.t,X.M,X.m.begin (S n) e⟩
 | .close dd,X,X'=>∃j x,dd=j+1/\X.15[j]?=!x/\X.m.M.B x.1=!((j:Int)+1)/\X'=⟨X.t,X.M,X.m.finish j x vq⟩
 | .drop dd,X,X'=>∃j x e,dd=j+1/\X.15[j]?=!x/\X.m.M.B x.1=!((j:Int)+1)/\X.54[j]?=!e/\(∀s∈e.1,0<=s.1/\s.1 < X.M.Ms.4)/\X'=⟨X.t,{ X.M with Ms:=mW X.48 e.1 },X.m.finish j x gR⟩
 | .turn t',X,X'=>X'=⟨(t':Int),X.M,X.m⟩
def i9.wl {e:gJ}(h:i9 e X X')(ls:-(-Nat)):i9 e (X.wl ls) (X'.wl ls):=by
 cases e
 ·(revert h;show qp λh1 h2 ϐ=>?_;subst ϐ);show⟨h1,h2,rfl⟩
 ·(revert h;show Jq λmr h1 h2 h3 h4=>ke λh5 h=>?_)
  show(Nk mr h1 h2 h3 h4 h5 ?_);rcases h with⟨h6,rfl⟩ | ⟨j,e,h6,h7,h8,rfl⟩
  ·show .inl ⟨h6,rfl⟩
  ·show .inr (fk j e h6 h7 h8 rfl)
 ·(revert h;show yz λh1 h2 h3 ϐ=>?_;subst ϐ);show⟨h1,h2,h3,rfl⟩
 ·(revert h;show su λj x h1 h2 h3 ϐ=>?_;subst ϐ);show(fk j x h1 h2 h3 rfl)
 ·(revert h;show ug λj x e h1 h2 h3 h4=>ke λh5 ϐ=>?_;subst ϐ);show(zS j x e h1 h2 h3 h4 h5 rfl)
 ·let h:=h
  rw[h];show rfl
abbrev KG (k:CK)(CD:Ν):Sp:=aR λz1=>aR λD=>aN λH Q _=>∃A,z1=A.st/\∃d Z X X' e,Cz k CD X.t H A d Z X.M X.m/\H D=!.dK (nT e.nm e.ps)/\D∉OX A (fD A d)/\(∀b∈A.fx,∃o,H b=!o)/\i9 e X X'/\
 xX k CD H A d Z X'.t X'.M X'.m (Q .bM)
structure eO (H:Hp)(ev:Ν)(Ds:-Ν)(es:-gJ):Prop where
 lst:H ev=!.lst (Ds.map V.ref)
 len:Ds.4=es.4
 at':∀(i:Nat) D e,Ds[i]?=!D->es[i]?=!e->H D=!.dK (nT e.nm e.ps)
def eO.bO {es:-gJ}(h:eO H ev Ds es)(c:ϰ B H H')(n1:ev∉B)(n2:∀D∈Ds,D∉B):eO H' ev Ds es:=⟨c.keep _ _ h.33 n1,h.26,λi D e h1 h2=>c.keep _ _ (h.at' i D e h1 h2) (n2 D (Β h1))⟩
def ϰ.tr2 (c:ϰ B H H')(c':ϰ B' H' H2)(h:∀b∈B',b∈B\/H b=none):ϰ B H H2:=⟨λa o e n=>c'.keep _ _ (c.keep _ _ e n) (λz=>(h a z).elim n (λy=>by rw[e] at y;cases y)),λa o e=>c'.tup _ _ (c.tup _ _ e)⟩
def aan {A:CA}{F:-Ν}(h:b∈OX A F):b∈A.fx++F:=by
 rcases Ο.mp h with h | h
 ·show Φ _ ?_
  rcases Ο.mp (show b∈[A.st,A.l,A.t,A.p]++(A.rs++A.ds) from h) with h | h
  ·show Φ _ ?_
   simp only[Ι,Μ,ϖ] at h;rcases h with rfl | rfl | rfl | rfl
   ·show mi 1 rfl
   ·show mi 8 rfl
   ·show mi 9 rfl
   ·show mi 10 rfl
  ·show Θ _ h
 ·show Θ _ h
abbrev KH (e:gJ):-Nat:=bdT e.nm e.ps
abbrev qT (ls:-(-Nat))(es:-gJ):-(-Nat):=ls++vj ls.4 (xU (es.map KH))
abbrev xY (k:CK)(CD:Ν)(H:Hp)(A:CA)(d:DA)(Z:-Ν)(L:-(-Nat))(X':S5)(R:Hp->Prop):Prop:=
 ∀H' d' Z',ϰ (A.fx++fD A d) H H'->(∀b∈fD A d',b∈fD A d\/H b=none)->(∀b∈Z,b∈Z')->Hu k CD X'.t H' A d' Z' { X'.M with ls:=L } X'.m->R H'
abbrev Fv (k:CK)(CD:Ν):Sp:=aR λz1=>aR λt=>aN λH Q _=>∃A,z1=A.c/\∃(d:DA) (Z:-Ν) (X:S5) (ev:Ν) (u:V) (Ds:-Ν) (es:-gJ) (Xs:Nat->S5),Hu k CD X.t H A d Z X.M X.m/\H t=!.tup [.ref ev,u]/\eO H ev Ds es/\ev∉A.fx++fD A d/\(∀D∈Ds,D∉A.fx++fD A d)/\(∀e∈es,nU e.nm e.ps)/\X.M.ls.4+es.4<=5000/\Xs 0=X/\(∀i e,es[i]?=!e->i9 e (Xs i) (Xs (i+1)))/\
 xY k CD H A d Z (qT X.25 es) (Xs es.4) (Q u)
def uu {n:-Nat}{e:Nat}(hn:dj n)(hd:dd < 10 ^ 10)(he:e < 10 ^ 10):nU "begin" (ut dd n e):=by
 (show cW hn.26 λ_ n1 n2=>?_);show⟨λx hx=>?_,by show gu [Κ "event","deed","sender","end"];decide +kernel,by show 3<=7;decide⟩;simp only[ut,Ι,Μ,ϖ] at hx;rcases hx with rfl | rfl | rfl
 ·show iG (p:="deed") (s!"d") (s!"d") (s!"d") ()
 ·show⟨vo (p:="sender") (s!"d"),by show n.4<=201;lk,n2⟩
 ·show iG (p:="end") (s!"d") (s!"d") (s!"d") ()
def eZ (hd:dd < 10 ^ 10):nU s (pJ dd):=by
 show⟨λx hx=>?_,by show gu [Κ "event","deed"];decide +kernel,by show 1<=7;decide⟩;simp only[pJ,Ι,Μ,ϖ] at hx;subst hx;show iG (p:="deed") (s!"d") (s!"d") (s!"d") ()
def wW {t:Nat}(hd:t < 10 ^ 10):nU s (D9 t):=by
 show⟨λx hx=>?_,by show gu [Κ "event","turn"];decide +kernel,by show 1<=7;decide⟩;simp only[D9,Ι,Μ,ϖ] at hx;subst hx;show iG (p:="turn") (s!"d") (s!"d") (s!"d") ()
abbrev nW (H:Hp)(es:-gJ)(U:V->Hp->Prop)(Q:VK):Prop:=
 ∀tt ev u Ds H',ι H H'->H ev=none->(∀D∈Ds,H D=none)->H' tt=!.tup [.ref ev,u]->eO H' ev Ds es->U u H'->Q (.ref tt) H'
def eO.one {e:gJ}(h1:H ev=!.lst [.ref D])(h2:H D=!.dK (nT e.nm e.ps)):eO H ev [D] [e]:=⟨h1,rfl,λi D' e' g1 g2=>by
 match i,g1,g2 with
 | 0,g1,g2=>cases g1;cases g2;show h2⟩
def nX (h:H D=none):∀D'∈[D],H D'=none:=λD' h'=>by rw[Ζ.mp h'];show h
structure Fw (k:CK)(CD:Ν)(t:Int)(H:Hp)(A:CA)(d:DA)(Z:-Ν)(M:CM)(m:DM)(n:-Nat)(life:Nat):Prop where
 st:Cz k CD t H A d Z M m
 nm:dj n
 lo:1<=life
 hi:life<=1000000000
 lf:M.S.L (S n)=!(life:Int)
def Fw.same {A:CA}{d:DA}{n:-Nat}(h:Fw k CD t H A d Z M m n life)(s:ι H H'):Fw k CD t H' A d Z M m n life:=⟨h.st.same s,h.nm,h.lo,h.hi,h.lf⟩
abbrev OZ (k:CK)(CD:Ν):Sp:=aR λz1=>aT λn=>aK λlife=>aN λH Q _=>∃t A,z1=A.st/\∃d Z M m,Fw k CD t H A d Z M m n life/\∀H',ι H H'->Q .bM H'
abbrev CW (k:CK)(CD:Ν):Sp:=aR λz1=>aT λn=>aK λlife=>aK λtu=>aN λH Q _=>∃(t:Nat) (A:CA),z1=A.st/\∃(d:DA) (Z:-Ν) (M:CM) (m:DM),Fw k CD (t:Int) H A d Z M m n life/\1<=tu/\tu<=1000/\t<=1000000/\m.M.ds.4<=1000/\
 m.M.B (S n)=none/\nW H [.begin (m.M.ds.4+1) n (t+tu)] (λu _=>u=.int ((m.M.ds.4:Int)+1)) Q
abbrev Fx (k:CK)(CD:Ν):Sp:=aR λz1=>aT λn=>aK λlife=>aN λH Q _=>∃(t:Int) (A:CA),z1=A.st/\∃(d:DA) (Z:-Ν) (M:CM) (m:DM),Fw k CD t H A d Z M m n life/\
 ∃j:Nat,m.M.B (S n)=!((j:Int)+1)/\j < 1000000/\nW H [.drop (j+1)] (λu _=>u=.int ((j:Int)+1)) Q
abbrev CY (k:CK)(CD:Ν):Sp:=aR λz1=>aT λn=>aK λlife=>aN λH Q _=>∃t A,z1=A.st/\∃(d:DA) (Z:-Ν) (M:CM) (m:DM),Fw k CD t H A d Z M m n life/\
 ∃(j:Nat) (e:-jH×-wU),m.M.B (S n)=!((j:Int)+1)/\j < 1000000/\m.xs[j]?=!e/\e.2=[]/\nW H [.close (j+1)] (λu H'=>∃L,u=.ref L/\H L=none/\bb H' L (e.1.map mV)) Q
abbrev Fy (k:CK)(CD:Ν):Sp:=aR λz1=>aK λtu=>aN λH Q _=>∃(t:Nat) (A:CA),z1=A.st/\∃(d:DA) (Z:-Ν) (M:CM) (m:DM),Cz k CD (t:Int) H A d Z M m/\1<=tu/\tu<=1000/\t<=1000000/\m.M.ds.4<=1000/\
 nW H (.turn (t+tu)::(i8 m.M ((t+tu:Nat):Int) m.M.ds.4).map λi=>.drop i.9) (λu _=>u=.int ((t+tu:Nat):Int)) Q
abbrev Fz (k:CK)(CD:Ν):Sp:=aR λz1=>aT λn=>aN λH Q _=>∃t A,z1=A.st/\∃(d:DA) (Z:-Ν) (M:CM) (m:DM) (kk:Nat),Cz k CD t H A d Z M m/\dj n/\(kk:Int)=(M.S.L (S n)).getD 0+1/\kk < 10 ^ 9/\
 ((m.M.B (S n)=none/\nW H [.cr n kk] (λu H'=>∃v,u=.ref v/\H' v=!(.tup [.int (kk:Int),.int (if (M.S.L (S n)).11=true then M.S.T (S n) else 0)])) Q)\/
  ∃j:Nat,m.M.B (S n)=!((j:Int)+1)/\j < 1000000/\nW H [.drop (j+1),.cr n kk] (λu H'=>∃v,u=.ref v/\H' v=!(.tup [.int (kk:Int),.int (if (M.S.L (S n)).11=true then M.S.T (S n) else 0)])) Q)
def eO.snoc {es:-gJ}{e:gJ}(h:eO H ev Ds es)(hD:H D=!.dK (nT e.nm e.ps)):eO (upd H ev (.lst (Ds.map V.ref++[.ref D]))) ev (Ds++[D]) (es++[e]):=by
 let ne:∀{x:Ν} {o},H x=!.dK o->x≠ev:=λhx z=>by rw[z,h.33] at hx;cases hx
 show⟨by rw[Δ,Ϣ];rfl,by simp[h.26],λi D' e' g1 g2=>?_⟩;let hl:=h.26
 by_cases hi:i < Ds.4
 ·rw[ϟ hi] at g1
  rw[ϟ ()] at g2;have:=h.at' i D' e' g1 g2;rw[ν (ne this)];show this
 ·rw[Ϙ ()] at g1
  rw[Ϙ ()] at g2;let hi0:i - Ds.4=0:=by
   have:=(Α.mp g1).1;simp at this;lk
  rw[hi0] at g1;rw[<-hl,hi0] at g2;cases g1;cases g2;rw[ν (ne hD)];show hD
def eO.same {es:-gJ}(h:eO H ev Ds es)(s:ι H H'):eO H' ev Ds es:=⟨s _ _ h.33,h.26,λi D e h1 h2=>s _ _ (h.at' i D e h1 h2)⟩
def eO.nil (h:H ev=!.lst []):eO H ev [] []:=⟨h,rfl,λi D e h1 _=>nomatch h1⟩
def Ec (h:∀D∈Ds,H D=none)(h':H D=none):∀D'∈Ds++[D],H D'=none:=λD' z=>(Ο.mp z).elim (h D') λz=>by rw[Ζ.mp z];show h'
structure Ta (k:CK)(CD:Ν)(t:Int)(H:Hp)(A:CA)(d:DA)(Z:-Ν)(M:CM)(m:DM)(n O0 key:-Nat)(wo:Option (-Nat))(life num dd j i pl:Nat)(x:l6)(mr:eX):Prop where
 ask:Fw k CD t H A d Z M m n life
 sh:dj O0
 ky:keyOk key
 wd:wT wo
 wl:∀w,wo=!w->w.4<=200
 nu:1<=num/\num<=1000000000
 dde:dd<=1000000000
 op:dd=0\/m.M.B (S n)=!(dd:Int)
 pos:M.xs[j]?=!x
 xn:x.47=O0
 nux:(num:Int)=M.S.T (S n)+1
 row:(i:Int)=vi M.xs j x key
 mrx:M.Ms[i]?=!mr
 plx:mr.24=(pl:Int)
 ple:pl < 10 ^ 9
abbrev HB (k:CK)(CD:Ν):Sp:=aR λz1=>aT λn=>aK λlife=>aK λnum=>aT λO0=>aR λlt=>aK λdd=>aN λH Q _=>∃t A,z1=A.st/\∃d Z M m key wo j i pl x mr,H lt=!.tup [.str (S key),wV wo]/\Ta k CD t H A d Z M m n O0 key wo life num dd j i pl x mr/\
 nW H [.put n num dd i pl key wo] (λu H'=>∃v,u=.ref v/\H' v=!(.tup [.int (i:Int),.int (pl:Int)])) Q
def HC {A:CA}(h:oC k R t H A Z M):A.rs.4<=9 * M.xs.4:=by
 rw[h.26];show oT (λx hx=>(h.Cy.each x hx).2.1.2) _
def cu.any {dl:Ν}(h:cu C CD H r dl bz [] wQ):cu C CD' H r dl bz [] wQ:=⟨h.27,h.33,h.26,λi u x h1 _=>by simp at h1,h.nd,h.Kn,h.ru⟩
abbrev dm0:DM:=⟨wQ,[],read0⟩
abbrev MJ:DA:=⟨[],[],[]⟩
def FA (A:CA):A.fix.Perm (A.fx++fD A MJ):=kr.mpr λz=>by
 simp only[CA.fix,CA.fx,fD,MJ,iX,im,iY,i7];ac_rfl
def qS.toD {A:CA}(h:qS k H A Z M):Hu k CD 0 H A MJ Z M dm0:=by
 let s:=h.st;obtain⟨_,e1⟩:=s.XW.27;(show Ϗ s.XW.Kn λ_ e2 _=>?_);obtain⟨_,e3⟩:=s.Wm.27;(show Ϗ s.Wm.row λ_ e4 _=>?_);(show Ϗ s.Wm.pla λ_ e5 _=>?_);show⟨h.pH,h.91,s.pG,s.Fq,s.Cy,s.oW,s.row,s.26,s.46,s.kM,s.snd,⟨⟨s.XW.any,rfl,rfl,rfl,λi u _ _ _ h1=>by simp[MJ] at h1,λi s e h1=>by simp[MJ] at h1,λi s e h1=>by simp[MJ] at h1,λe he=>by simp[dm0] at he,by simp[MJ]⟩,s.Wm,s.grp⟩,⟨s.sG.1,s.sG.2.1,s.sG.2.2.1⟩,λb hb=>?_,s.zo,(FA A).nodup_iff.mp s.nd⟩;let hb:b∈[A.de,A.dl,A.bz,A.gr,A.rd,A.ra,A.rb]:=by
  rcases Ο.mp hb with hb | hb
  ·show hb
  ·simp[MJ] at hb
 simp only[Ι,Μ,ϖ] at hb;rcases hb with rfl | rfl | rfl | rfl | rfl | rfl | rfl
 ·show .inr λxs q=>by rw[e1] at q;cases q
 ·show .inl s.sG.2.2.2
 ·show .inr λxs q=>by rw[e2] at q;cases q
 ·show .inr λxs q=>by rw[s.grp] at q;cases q
 ·show .inr λxs q=>by rw[e3] at q;cases q
 ·show .inr λxs q=>by rw[e4] at q;cases q
 ·show .inr λxs q=>by rw[e5] at q;cases q
def D6.reZ {A:CA}(h:D6 k R t H A Z M)(c:ϰ B H H')(hB:∀b∈B,b∉A.fx)(hF:∀b∈B,b∉R.F)(hz:∀b∈B,b∈Z\/∀xs,H b≠!.lst xs)(hs:∀b∈B,∃o,H' b=!o)(hy:∀b∈Y,b∈Z\/H b=none)(Mq:∀b∈Y,∃o,H' b=!o):D6 k R t H' A (Y++Z) M:=by
 let C:=h.bO c hB hF hz hs;let f:∀{a:Ν},a∈[A.c,A.st,A.bk,A.bl,A.sh,A.61,A.rl,A.sn,A.l,A.t,A.p]->a∉B:=λha hb=>hB _ hb (Φ _ ha);let s:=C.st;let sn:=(h.st.snd.less (λb hb=>(Ο.mp hb).elim (hy b) .inl)).bO c (f (mi 7 rfl)) (f (mi 8 rfl)) (f (mi 9 rfl)) (f (mi 10 rfl)) (λb hb=>(hz b hb).imp (Θ _) id);show⟨C.pH,C.91,⟨s.pG,s.Fq,s.Cy,s.oW,s.row,s.26,s.46,s.kM,sn,s.36,⟨Θ _ s.sG.1,Θ _ s.sG.2.1,Θ _ s.sG.2.2⟩,λb hb=>(s.zf b hb).imp (Θ _) id,λb hb=>(Ο.mp hb).elim (Mq b) (s.zo b),s.nd⟩⟩
def aap {A:CA}{d:DA}{es:-gJ}(hC:Hu k CD X.t H A d Z X.M X.m)(cx:∀e∈es,nU e.nm e.ps)(Wv:X.M.ls.4+es.4<=5000)(Xs:Nat->S5)(h0:Xs 0=X)(iA:∀i e,es[i]?=!e->i9 e (Xs i) (Xs (i+1)))
  (q:∀u H1 H',ι H H1->U u H1->ϰ (A.fx++fD A d) H1 H'->∀d' Z',(∀b∈fD A d',b∈fD A d\/H b=none)->(∀b∈Z,b∈Z')->Hu k CD (Xs es.4).t H' A d' Z' { (Xs es.4).M with ls:=qT X.25 es } (Xs es.4).m->Q u H') :
  nW H es U (λv H1=>∀E,Fv k CD [.ref A.c,v] H1 Q E):=λtt ev u Ds H1 s tM hDs QX hE hU E=>by
 show(δ A rfl (zT d Z X ev u Ds (agz es Xs (hC.same s) QX hE (hC.MF tM) (λD hD=>hC.MF (hDs D hD)) cx ⟨Wv,h0,iA,λH' d' Z' c hn hz C=>?_⟩)));show q u H1 H' s hU c d' Z' (λb hb=>(hn b hb).imp id λz=>ϸ s z) hz C
def nW.mono {es:-gJ}(h:nW H es U Q)(g:∀v H1,ι H H1->Q v H1->Q' v H1):nW H es U Q':=λtt ev u Ds H' s h1 h2 h3 h4 h5=>g _ _ s (h tt ev u Ds H' s h1 h2 h3 h4 h5)
abbrev aar (X X':S5):Nat->S5
 | 0=>X
 | _+1=>X'
def O1 {e:gJ}(h:i9 e X X'):∀i e',[e][i]?=!e'->i9 e' (aar X X' i) (aar X X' (i+1)):=λi e' he=>by
 match i,he with
 | 0,he=>cases he;show h
def aas {e:gJ}(h:nU e.nm e.ps):∀e'∈[e],nU e'.nm e'.ps:=λe' he=>by rw[Ζ.mp he];show h
def HD {A:CA}{d:DA}{e:gJ}(hC:Hu k CD X.t H A d Z X.M X.m)(cx:nU e.nm e.ps)(Wv:X.M.ls.4+1<=5000)(iA:i9 e X X')
  (q:∀u H1 H',ι H H1->U u H1->ϰ (A.fx++fD A d) H1 H'->∀d' Z',(∀b∈fD A d',b∈fD A d\/H b=none)->(∀b∈Z,b∈Z')->Hu k CD X'.t H' A d' Z' { X'.M with ls:=qT X.25 [e] } X'.m->Q u H') :
  nW H [e] U (λv H1=>∀E,Fv k CD [.ref A.c,v] H1 Q E):=aap hC (aas cx) Wv (aar X X') rfl (O1 iA) q
structure Ed (k:CK)(CD:Ν)(H:Hp)(A:CA)(d:DA)(Z:-Ν)(X:S5)(n:-Nat)(life:Nat):Prop where
 ce:Hu k CD X.t H A d Z X.M X.m
 nm:dj n
 lo:1<=life
 hi:life<=1000000000
 lf:X.M.S.L (S n)=!(life:Int)
 ln:X.M.ls.4+2<=5000
def Ed.ask {A:CA}{d:DA}{n:-Nat}(h:Ed k CD H A d Z X n life):Fw k CD X.t H A d Z X.M X.m n life:=⟨h.ce.st,h.nm,h.lo,h.hi,h.lf⟩
abbrev FB (k:CK)(CD:Ν):Sp:=λvs H Q _=>∃(A:CA) (d:DA) (Z:-Ν) (X:S5) (n:-Nat) (life tu t:Nat),vs=[.ref A.c,.str (S n),.int (life:Int),.int (tu:Int)]/\Ed k CD H A d Z X n life/\X.t=(t:Int)/\1<=tu/\tu<=1000/\t<=1000000/\X.m.M.ds.4<=1000/\X.87<=1000/\
 X.m.M.B (S n)=none/\xY k CD H A d Z (qT X.25 [.begin (X.m.M.ds.4+1) n (t+tu)]) ⟨X.t,X.M,X.m.begin (S n) ((t+tu:Nat):Int)⟩ (Q (.int ((X.m.M.ds.4:Int)+1)))
abbrev HE (k:CK)(CD:Ν):Sp:=λvs H Q _=>∃(A:CA) (d:DA) (Z:-Ν) (X:S5) (n:-Nat) (life:Nat),vs=[.ref A.c,.str (S n),.int (life:Int)]/\Ed k CD H A d Z X n life/\
 ∃(j:Nat) (x:Dd) (e:-jH×-wU),X.m.M.B (S n)=!((j:Int)+1)/\j < 1000000/\x.1=S n/\X.15[j]?=!x/\X.54[j]?=!e/\(∀s∈e.1,0<=s.1/\s.1 < X.M.Ms.4)/\
   xY k CD H A d Z (qT X.25 [.drop (j+1)]) ⟨X.t,{ X.M with Ms:=mW X.48 e.1 },X.m.finish j x gR⟩ (Q (.int ((j:Int)+1)))
abbrev FC (k:CK)(CD:Ν):Sp:=λvs H Q _=>∃(A:CA) (d:DA) (Z:-Ν) (X:S5) (n:-Nat) (life:Nat),vs=[.ref A.c,.str (S n),.int (life:Int)]/\Ed k CD H A d Z X n life/\
 ∃(j:Nat) (x:Dd) (e:-jH×-wU),X.m.M.B (S n)=!((j:Int)+1)/\j < 1000000/\x.1=S n/\X.15[j]?=!x/\X.54[j]?=!e/\e.2=[]/\
   ∀v,xY k CD H A d Z (qT X.25 [.close (j+1)]) ⟨X.t,X.M,X.m.finish j x vq⟩ (Q v)
abbrev HF (X:S5)(n:-Nat)(kk:Nat):-V:=[.int (kk:Int),.int (if (X.M.S.L (S n)).11=true then X.M.S.T (S n) else 0)]
abbrev xZ (k:CK)(CD:Ν):Sp:=λvs H Q _=>∃(A:CA) (d:DA) (Z:-Ν) (X:S5) (n:-Nat) (kk:Nat),vs=[.ref A.c,.str (S n)]/\Hu k CD X.t H A d Z X.M X.m/\dj n/\(kk:Int)=(X.M.S.L (S n)).getD 0+1/\kk < 10 ^ 9/\X.M.ls.4+2<=5000/\X.62<=100000/\(∀v,X.M.S.L (S n)=!v->1<=v)/\
 ((X.m.M.B (S n)=none/\∀v,xY k CD H A d Z (qT X.25 [.cr n kk]) ⟨X.t,X.M.cr (S n),X.m⟩ (λH'=>H' v=!.tup (HF X n kk)->Q (.ref v) H'))\/
  (∃(j:Nat) (x:Dd) (e:-jH×-wU),X.m.M.B (S n)=!((j:Int)+1)/\j < 1000000/\x.1=S n/\X.15[j]?=!x/\X.54[j]?=!e/\(∀s∈e.1,0<=s.1/\s.1 < X.M.Ms.4)/\
   ∀v,xY k CD H A d Z (qT X.25 [.drop (j+1),.cr n kk]) ⟨X.t,CM.cr { X.M with Ms:=mW X.48 e.1 } (S n),X.m.finish j x gR⟩ (λH'=>H' v=!.tup (HF X n kk)->Q (.ref v) H')))
abbrev aat (X X1 X2:S5):Nat->S5
 | 0=>X
 | 1=>X1
 | _+2=>X2
def O2 {e f:gJ}(h:i9 e X X1)(g:i9 f X1 X2):∀i e',[e,f][i]?=!e'->i9 e' (aat X X1 X2 i) (aat X X1 X2 (i+1)):=λi e' he=>by
 match i,he with
 | 0,he=>cases he;show h
 | 1,he=>cases he;show g
abbrev kP (X:S5)(t tu:Nat):-gJ:=.turn (t+tu)::(i8 X.m.M ((t+tu:Nat):Int) X.m.M.ds.4).map λi=>.drop i.9
abbrev HG (k:CK)(CD:Ν):Sp:=λvs H Q _=>∃(A:CA) (d:DA) (Z:-Ν) (X:S5) (tu t:Nat) (Xs:Nat->S5),vs=[.ref A.c,.int (tu:Int)]/\Hu k CD X.t H A d Z X.M X.m/\X.t=(t:Int)/\1<=tu/\tu<=1000/\t<=1000000/\X.m.M.ds.4<=1000/\X.M.ls.4+1+X.m.M.ds.4<=5000/\Xs 0=X/\(∀i e,(kP X t tu)[i]?=!e->i9 e (Xs i) (Xs (i+1)))/\
 xY k CD H A d Z (qT X.25 (kP X t tu)) (Xs (kP X t tu).4) (Q (.int ((t+tu:Nat):Int)))
abbrev AV (k:CK)(CD:Ν):Sp:=λvs H Q _=>∃(A:CA) (d:DA) (Z:-Ν) (X X':S5) (n O0 key:-Nat) (wo:Option (-Nat)) (life num dd j i pl:Nat) (x:l6) (mr:eX),vs=[.ref A.c,.str (S n),.int (life:Int),.int (num:Int),.str (S O0),.str (S key),wV wo,.int (dd:Int)]/\Hu k CD X.t H A d Z X.M X.m/\X.M.ls.4+2<=5000/\Ta k CD X.t H A d Z X.M X.m n O0 key wo life num dd j i pl x mr/\i9 (.put n num dd i pl key wo) X X'/\
 ∀v,xY k CD H A d Z (qT X.25 [.put n num dd i pl key wo]) X' (λH'=>H' v=!(.tup [.int (i:Int),.int (pl:Int)])->Q (.ref v) H')
def Ta.same {A:CA}{d:DA}{m:DM}{n O0:-Nat}{life num pl:Nat}{x:l6}(h:Ta k CD t H A d Z M m n O0 key wo life num dd j i pl x mr)(s:ι H H'):Ta k CD t H' A d Z M m n O0 key wo life num dd j i pl x mr:=⟨h.ask.same s,h.sh,h.ky,h.wd,h.wl,h.nu,h.dde,h.op,h.pos,h.xn,h.nux,h.row,h.mrx,h.plx,h.ple⟩
abbrev drp (X:S5)(j:Nat):S5:=match X.15[j]?,X.54[j]? with
 | some x,some e=>⟨X.t,{ X.M with Ms:=mW X.48 e.1 },X.m.finish j x gR⟩
 | _,_=>X
abbrev FD (X:S5)(js:-Nat):S5:=js.foldl drp X
structure nY (X:S5):Prop where
 op:xW X.m.M
 len:X.m.xs.4=X.m.M.ds.4
 sp:∀e∈X.54,∀s∈e.1,0<=s.1/\s.1 < X.M.Ms.4
def FE {x:Dd}{e:-jH×-wU}(hx:X.15[j]?=!x)(he:X.54[j]?=!e):drp X j=⟨X.t,{ X.M with Ms:=mW X.48 e.1 },X.m.finish j x gR⟩:=by
 unfold drp;rw[hx,he]
def nY.O3 (I:nY X){x:Dd}(hx:X.15[j]?=!x):∃e,X.54[j]?=!e:=by
 let hj:=(Α.mp hx).1;have:=I.26;show⟨_,Ε ()⟩
def O4:vq≠aH:=by decide +kernel
def oY:gR≠aH:=by decide +kernel
def Tb (I:nY X){x:Dd}(hx:X.15[j]?=!x)(ho:x.2.2=aH):i9 (.drop (j+1)) X (drp X j):=by
 obtain⟨e,he⟩:=I.O3 hx;rw[FE hx he];show(zS j x e rfl hx (I.op.b j x hx ho) he (λs hs=>by have:=I.sp e (Β he) s hs;show this) rfl)
def Ww (I:nY X){x:Dd}(hx:X.15[j]?=!x)(ho:x.2.2=aH):nY (drp X j):=by
 obtain⟨e,he⟩:=I.O3 hx;rw[FE hx he];show⟨I.op.finish hx (I.op.b j x hx ho) oY,?_,λe' DU s hs=>?_⟩
 ·change X.m.xs.4=(X.m.M.ds.set j _).4
  rw[bq];show I.26
 ·change 0<=s.1/\s.1 < ((mW X.48 e.1).4)
  rw[r8];show I.sp e' DU s hs
def Tc (I:nY X){x:Dd}(hx:X.15[j]?=!x)(n:j≠j'):(drp X j).15[j']?=X.15[j']?:=by
 obtain⟨e,he⟩:=I.O3 hx;rw[FE hx he];show(X.m.M.ds.set j _)[j']?=_;rw[ak n]
def KI (I:nY X){js:-Nat}(nd:js.13)(hj:∀j∈js,∃x,X.15[j]?=!x/\x.2.2=aH):∀i j,js[i]?=!j->i9 (.drop (j+1)) (FD X (js.take i)) (FD X (js.take (i+1))):=by
 induction js generalizing X with
 | nil=>intro i j h;simp at h
 | cons a js ih=>
  intro i j h;(show Ϗ (hj a ∅) λx hx ho=>?_);let n1:=Ϛ.mp nd;cases i with
  | zero=>
   simp at h;subst h;show Tb I hx ho
  | succ i=>
   have:=ih (Ww I hx ho) n1.2 (λj' hj'=>by
    (show Ϗ (hj j' (ψ _ hj')) λx' h1 h2=>?_)
    show(δ x' (by rw[Tc I hx (λz=>n1.1 (z▸hj'))];show h1) h2)) i j (by simpa using h)
   show this
abbrev pK (X:S5)(t':Nat):-Nat:=(aU X.m.M.ds.4).filter (odd X.m.M (t':Int))
abbrev HH (X:S5)(t':Nat):Nat->S5
 | 0=>X
 | i+1=>FD ⟨(t':Int),X.M,X.m⟩ ((pK X t').take i)
def qU (X:S5)(t tu:Nat):kP X t tu=.turn (t+tu)::(pK X (t+tu)).map λj=>.drop (j+1):=by
 unfold kP i8 pK;rw[Ϥ];rfl
def KJ (I:nY X)(t tu:Nat):∀i e,(kP X t tu)[i]?=!e->i9 e (HH X (t+tu) i) (HH X (t+tu) (i+1)):=by
 intro i e h;rw[qU] at h;cases i with
 | zero=>
  simp at h;subst h;show rfl
 | succ i=>
  simp only[oH,Ξ] at h;(show Ϗ (χ.mp h) λj hj ϐ=>?_;subst ϐ);let I':nY ⟨((t+tu:Nat)),X.M,X.m⟩:=⟨I.op,I.26,I.sp⟩
  show KI I' (zm _ yu) (λj hj=>?_) i j hj;have:=(cT.mp hj).2;unfold odd at this;cases e:X.15[j]? with
  | none=>rw[e] at this;cases this
  | some x=>
   rw[e] at this;simp only[bd,dP] at this;show(δ x rfl this.1)
def Ee (X:S5)(t tu:Nat):(kP X t tu).4=(pK X (t+tu)).4+1:=by rw[qU];simp
def O5 (X:S5)(t tu:Nat):HH X (t+tu) (kP X t tu).4=FD ⟨((t+tu:Nat):Int),X.M,X.m⟩ (pK X (t+tu)):=by
 rw[Ee];change FD _ _=_;rw[ϴ]
def nY.begin (I:nY X){n:Str}{e:Int}(h:X.m.M.B n=none):nY ⟨X.t,X.M,X.m.begin n e⟩:=by
 show⟨I.op.begin _ _ h,?_,λe' DU s hs=>?_⟩
 ·show(X.54++[([],[])]).4=(X.15++[(n,e,aH)]).4
  rw[Ρ,Ρ,I.26];rfl
 ·rcases Ο.mp DU with h | h
  ·show I.sp e' h s hs
  ·rw[Ζ.mp h] at hs;cases hs
def nY.put (I:nY X){n:Str}:nY ⟨X.t,X.M.put i mr l n k,X.m⟩:=⟨I.op,I.26,λe he s hs=>by
 change 0<=s.1/\s.1 < ((X.M.Ms.set i (mr.add l)).4);rw[bq]
 show I.sp e he s hs⟩
def nY.hold (I:nY X){n:Str}{e:-jH×-wU}(hi:i < X.M.Ms.4)(he:X.54[j]?=!e):nY ⟨X.t,X.M.put i mr l n k,X.m.hold j e ((i:Int),mr.24)⟩:=by
 show⟨I.op,?_,λe' DU s hs=>?_⟩
 ·show(X.m.xs.set j _).4=_
  rw[bq];show I.26
 ·change 0<=s.1/\s.1 < ((X.M.Ms.set i (mr.add l)).4)
  rw[bq];rcases mQ DU with h | h
  ·show I.sp e' h s hs
  ·rw[h] at hs
   rcases Ο.mp hs with hs | hs
   ·show I.sp e (Β he) s hs
   ·rw[Ζ.mp hs]
    show⟨by show(0:Int)<=(i:Int);lk,by show(i:Int) < _;lk⟩
def bb.push {D t:Ν}{r:-V}(e:H D=!.lst (XZ.map V.ref))(h:eV H XZ rows)(ht:H t=!.tup r):bb (upd H D (.lst (XZ.map V.ref++[V.ref t]))) D (rows++[r]):=by
 let c:ϰ [D] H (upd H D (.lst (XZ.map V.ref++[V.ref t]))):=ϰ.upd ∅ (gY e);show(δ (XZ++[t]) ?_ (Paired.adR (F:=λa b=>upd H D (.lst (XZ.map V.ref++[V.ref t])) a=!.tup b) (c.tup _ _ ht) (h.bO c)));rw[Ϣ];show Δ
def aau (h:Sr l):okV (.str (S l)):=by
 change Sr (S l).6;simpa [S] using h
def Td (c:Int):wT (!dU (ef c 6))/\(dU (ef c 6)).4<=10/\Sr (dU (ef c 6)):=by
 let b:=vf c 6;obtain⟨m,hm⟩:∃m:Nat,ef c 6=(m:Int):=⟨(ef c 6).9,()⟩
 rw[hm] at b ⊢;let l:=zE (m:=m) (k:=10) "!" ();let dg:=qN m;show⟨λw e=>?_,l,λx hx=>by have:=dg x hx;lk⟩;cases e;show⟨Ϝ _,(),λx hx=>?_⟩;unfold oS;have:=dg x hx;simp only[bd,dP];lk
structure FT (K:ζ)(mg:Str->Option Ω)(x:Str)(st:ϩ)(ps:-Str)(f:Ν)(d:fF):Prop where
 F:UI K x x st f d
 b:Binds K d ps []
 m:mg x=!.ref f
structure FM (K:ζ)(C:Ν)(x q:Str)(st:ϩ)(ps:-Str)(f:Ν)(d:fF):Prop where
 F:UI K x q st f d
 b:Binds K d ps []
 m:JH K C x f
structure FI (K:ζ)(q:Str)(st:ϩ)(ps:-Str)(f:Ν)(d:fF):Prop where
 F:UI K "__init__" q st f d
 b:Binds K d ps []
abbrev FT.O {K:ζ}{mg:Str->Option Ω}{x:Str}{st:ϩ}{ps:-Str}{f:Ν}{d:fF}(_:FT K mg x st ps f d)(P:ah)(w:dX)(m:Str->Option Ω)(h:a9)(k:Nat)(s:Sp):Prop:=qv P w K m h Jf k f d ps s
abbrev FM.O {K:ζ}{C:Ν}{x q:Str}{st:ϩ}{ps:-Str}{f:Ν}{d:fF}(_:FM K C x q st ps f d)(P:ah)(w:dX)(m:Str->Option Ω)(h:a9)(k:Nat)(s:Sp):Prop:=qv P w K m h Jf k f d ps s
abbrev FI.O {K:ζ}{q:Str}{st:ϩ}{ps:-Str}{f:Ν}{d:fF}(_:FI K q st ps f d)(P:ah)(w:dX)(m:Str->Option Ω)(h:a9)(k:Nat)(s:Sp):Prop:=qv P w K m h Jf k f d ps s
section
variable {K:ζ} {h:a9} {q:Str} {st:ϩ} {ps:-Str} {kV:Ω}
def ad' (l:K.lookup f=!⟨oc,od,.func (gp "__init__" q (dF st) (cD st) (Υ st) .none kV doc pm an gX ct),GA⟩)(c:qy K gX q=true)(k:ix K (.ref f)=true)
  (e:∀kV doc pm an gX ct us,us.4=ps.4->bindArgs (gp "__init__" q (dF st) (cD st) (Υ st) .none kV doc pm an gX ct) ⟨us,[]⟩=pure (ps.zip us)) :
  FI K q st ps f (gp "__init__" q (dF st) (cD st) (Υ st) .none kV doc pm an gX ct):=⟨wC l c k,(wC l c k).binds e⟩
def aea (a:jj K (.ref C) x=!some (.ref f))(i:abb K (.ref f)=true)(l:K.lookup f=!⟨oc,od,.func (gp x q (dF st) (cD st) (Υ st) .none kV doc pm an gX ct),GA⟩)(c:qy K gX q=true)(k:ix K (.ref f)=true)
  (e:∀kV doc pm an gX ct us,us.4=ps.4->bindArgs (gp x q (dF st) (cD st) (Υ st) .none kV doc pm an gX ct) ⟨us,[]⟩=pure (ps.zip us)) :
  FM K C x q st ps f (gp x q (dF st) (cD st) (Υ st) .none kV doc pm an gX ct):=⟨wC l c k,(wC l c k).binds e,a,i,k⟩
def aeb (X:K.In h)(G:h.Ns mainGlobals mg)(a:W.nsIn K mainGlobals x=!some (.ref f))(l:K.lookup f=!⟨oc,od,.func (gp x x (dF st) (cD st) (Υ st) .none kV doc pm an gX ct),GA⟩)(c:qy K gX x=true)(k:ix K (.ref f)=true)
  (e:∀kV doc pm an gX ct us,us.4=ps.4->bindArgs (gp x x (dF st) (cD st) (Υ st) .none kV doc pm an gX ct) ⟨us,[]⟩=pure (ps.zip us)) :
  FT K mg x st ps f (gp x x (dF st) (cD st) (Υ st) .none kV doc pm an gX ct):=⟨wC l c k,(wC l c k).binds e,zn X G a⟩
end
def uv {K:ζ}{td:Option Ν}{vs:-V}(r:Vals vs us)(hn:us.4<=sizeLine)(l:K.lookup a=!⟨.type "tuple",td,.seq us.10 tn,tsl⟩):∀H,iV K H a vs:=λ_=>.inr (dL _ _ _ l rfl rfl hn r)
abbrev aec:V->Tok->Ω
 | .bM,_=>.none
 | .bl b,_=>.bool b
 | .int i,t=>.int i t
 | .str x,t=>.str x t
 | .Jd b,t=>.bytes b t
 | .Vi b,t=>.float b t
 | .ref a,_=>.ref a
 | .ty n,_=>.type n
def i3 {t:Tok}:RelV v (aec v t):=by cases v<;>first | rfl | show⟨t,rfl⟩
def aed {t:Tok}(h:mg x=!aec v t):jb mg x v:=(δ _ h i3)
theorem iT (z:Int){t:Tok}:Ω:=.int z t
def X5 {K:ζ}{F:-(Str×V)}{p:Ν}{es:Array rO}(g:mg x=!.ref p)(l:K.lookup p=some { cls:=.type "dict",dict:=none,data:=.dict es ep,slots:=#[] })
  (k:kj w.40 es.34) (d:∀kv∈F,∃u,DV es kv.1=!u/\RelV kv.2 u):Wk w K mg x F:=(aL _ _ _ g l k d)
def X8 {K:ζ}{td:Option Ν}{vs:-V}(g:mg x=!.ref a)(r:Vals vs us)(hn:us.4<=sizeLine)(l:K.lookup a=!⟨.type "tuple",td,.seq us.10 tn,tsl⟩):Fd K mg x vs:=(δ _ g (uv r hn l))
def el8 {p:-α->Prop}(h:∀a b c d e f g i,p [a,b,c,d,e,f,g,i]):∀us:-α,us.4=8->p us:=We λa=>el7 (h a)
def el9 {p:-α->Prop}(h:∀a b c d e f g i j,p [a,b,c,d,e,f,g,i,j]):∀us:-α,us.4=9->p us:=We λa=>el8 (h a)
section
variable {X:Cx} {k:Nat} {ps N:-Str} {E:XK} {m q:Str} {a b o:bS} {tb:TE} {t:TA} {st:ϩ} {sco:rN}
def bj (he:PE X o ta)(c:DB X.K C)(g:FM X.K C m q st ps f fd)(F:X.Fo CX k f fd ps sp)(hr:ga k0 X.A)(hx:Passes CX X E)(ha:PA X (e::es) t)(hk:autoParam (k<=k0) L2.fR._auto_1)
  (iA: ~~~(RH X e es)) (lZ: ~~~(Xu X pos es))
  (ht:autoParam (eval (.Call (.Attribute o m apos) (e::es) [] pos) X.8=(do
   let ov <-eval o X.8
   standAt apos.atName
   let (f,first) <-holding [ov] (getMethod ov m pl)
   callWith pos f first (backTo pos (starEach (e::es) X.8)) (backToKw pos (keywordEach [] X.8)))) L2.ai._auto_1) :
  PE X (.Call (.Attribute o m apos) (e::es) [] pos) (RJ C m sp [] E ta t):=zw he c g.m F (hr.mono hk) g.b .nil hx ha iA lZ ht
def ϥ (g:FT X.K X.mg x st ps f fd)(F:X.Fo CX k f fd ps sp)(hr:ga k0 X.A)(hx:Passes CX X E)(ha:PA X (e::es) t)(hk:autoParam (k<=k0) L2.fR._auto_1)(hg: ~~~(Gl X x))(RK:autoParam (EM x) L2.fR._auto_1)(he: ~~~(RH X e es))(lZ: ~~~(Xu X pos es)) :
  PE X (.Call (.Name x p) (e::es) [] pos) (Xr sp [] E t):=Vt F (hr.mono hk) hg g.m g.88 g.b .nil hx ha RK he lZ
def Ϻ (i:Nat)(sc:ρ X.N ps sco)(he:PE X e te)(hi: ~~~(X.N[i]?=!x))(hx:autoParam (Loc X.16 x) L2.agF._auto_1)(hs: ~~~(swapsWith e (!.Name x pos') pos.60 X.8=pure false))(hf:autoParam (X.fnl x) L2.Nm._auto_1) :
  PS X (.Assign [.Name x pos'] e pos) (YT te (Mg i)):=Jy sc.nd hi hx he hs hf
def ϓ (K:ζ)(hr:ga k X.A)(ha:PE X a ta)(hb:PE X b tb)(hs:autoParam (EV b) L2.agG._auto_1)(hK: ~~~(X.K=K)):PE X (.Subscript a b pos) (tOp (u8 K) ta tb):=ac2 (V3 (tG hr) hK) ha hb hs
def ϳ (K:ζ)(he:PE X e ta)(hb: ~~~(attributeBase e x X.8 (eval e X.8)=eval e X.8))(hK: ~~~(X.K=K)):PE X (.Attribute e x pos) (Y2 K ta x):=V4 he hb hK
def aC (ha:PE X a ta)(hs: ~~~(starEach [a] X.8=[(false,eval a X.8)])):PA X [a] (Mo ta RG):=ϕ ha eR hs
def bC (ha:PE X a ta)(hb:PE X b tb)(hs: ~~~(starEach [a,b] X.8=(false,eval a X.8)::starEach [b] X.8))(VI: ~~~(starEach [b] X.8=[(false,eval b X.8)])):PA X [a,b] (Mo ta (Mo tb RG)):=ϕ ha (aC hb VI) hs
end
section
variable {X:Cx}  
def ϵ (hN: ~~~(X.N[0]?=!x))(hv:autoParam (Vk X.16 x) L2.Rl._auto_1)(hd:autoParam (EM x) L2.fR._auto_1)(zq:autoParam (Cdt x) L2.fR._auto_1):PE X (.Name x pos) (zY 0):=pv 0 hN hv hd zq
def aw (hN: ~~~(X.N[1]?=!x))(hv:autoParam (Vk X.16 x) L2.Rl._auto_1)(hd:autoParam (EM x) L2.fR._auto_1)(zq:autoParam (Cdt x) L2.fR._auto_1):PE X (.Name x pos) (zY 1):=pv 1 hN hv hd zq
def cO (hN: ~~~(X.N[2]?=!x))(hv:autoParam (Vk X.16 x) L2.Rl._auto_1)(hd:autoParam (EM x) L2.fR._auto_1)(zq:autoParam (Cdt x) L2.fR._auto_1):PE X (.Name x pos) (zY 2):=pv 2 hN hv hd zq
def fU (hN: ~~~(X.N[3]?=!x))(hv:autoParam (Vk X.16 x) L2.Rl._auto_1)(hd:autoParam (EM x) L2.fR._auto_1)(zq:autoParam (Cdt x) L2.fR._auto_1):PE X (.Name x pos) (zY 3):=pv 3 hN hv hd zq
end
end
end L2
namespace L2
open PySem PySem.Spec PyProof.Rows
section
variable {X:Cx} {H H':Hp} {Q:VK} {K:ζ}
def Wx {body:-ϩ}{h₀:yt}{rest:-yt}{pos:Pos}{tb:TS}(hb:Je X.YO body tb):PS X (.Try body (h₀::rest) [] [] pos) tb:=by
 intro pins s σ H D I h
 show wpAny_Try_except (fV (hb pins s σ H D (I.z0 _) h) (λf s1 z=>?_) (λ_ _ z=>z.38))
 cases f with
 | next=>show mj z.jM
 | brk=>show z.jM
 | cont=>show z.jM
 | ret u=>show z.jM
def gT:Xw X "str.startswith" rSw:=by
 intro pins s σ H x xs v us Q I rx rv h
 obtain⟨a,b,rfl,rfl,q⟩:=h
 obtain⟨t,rfl⟩:=rx
 obtain⟨u,rfl,t',rfl⟩:=vals1 rv
 show SC.startswith ⟨.bl _,H,I,rfl,q⟩
def iH (c:Nat)(a:-Nat):Txt.startswith (S a) (S [c])=decide (a[0]?=!c):=by
 let h:=aoE (S a) c 0
 let e:Txt.startswith (S a) (S [c])=(decide (0+(S [c]).4<=(S a).4) && afc (S a) (S [c]) 0):=rfl
 rw[e,ka,bd,dP,dP]
 show h
abbrev aib:V->-V->Hp->VK->Prop:=λx vs H Q=>∃a b kvs more,x=.ref a/\vs=[.ref b]/\a≠b/\H a=!.dK kvs/\H b=!.dK more/\kvs.4+more.4<=sizeLine/\Q .bM (upd H a (.dK (jO kvs more)))
def O6:Xw X "dict.update" aib:=by
 intro pins s σ H x xs v us Q I rx rv h
 obtain⟨a,b,kvs,more,rfl,rfl,ne,ha,hb,hz,q⟩:=h
 cases rx
 obtain⟨u,rfl,ru⟩:=vals1 rv
 cases ru
 obtain⟨z,hd,vs,rel,dd⟩:=xP I.cx ha
 obtain⟨z2,hd2,rs,aav,dd2⟩:=xP I.cx hb
 show tq PySem.F.slot_dict_update dd.35 PySem.F.entry_dict_update (PySem.F.args_dict_update_2 _ _) (meets_dict_update (bX X.29 X.w) a b ne hd2) ⟨vs,rs,dd,dd2,by rw[<-rel.4,<-aav.4];show hz,λh' JR _ hs=>?_⟩
 let he:∃q,h'.get? a=!q:=let ⟨q,_,_,hq,_⟩:=JR;⟨q,hq⟩
 let r2:=KV.merge aav rel
 show⟨.bM,_,u7 (t':=s.23) I (by rw[ha];show bo) hs he (Ak ?_ hd r2 JR),rfl,q⟩
 let l1:=merged_length_le vs rs
 rw[<-rel.4,<-aav.4] at l1
 show ϊ (r2.4▸l1) hz
abbrev aee (K:ζ):-V->Hp->VK->Prop:=λxs H Q=>∃d kvs,xs=[.ref d]/\H d=!.dK kvs/\∀p,H p=none->Q (.ref p) (upd H p (.dK kvs))
def AW (hK:X.K=K:=by rfl):dJ X (.type "dict") (aee K):=by
 intro pins s σ H xs us Q I r h
 obtain⟨d,kvs,rfl,ed,q⟩:=h
 obtain⟨u,rfl,rx⟩:=vals1 r
 cases rx
 obtain⟨z,hs,vs,rel,dd⟩:=xP I.cx ed
 show kt_call_dict hs dd (by rw[<-rel.4];show z) λh' JR hb=>⟨.ref _,_,I.laid (a:=s.5) (o:=.dK kvs) (t':=s.23) (λb q hq=>?_) (ξ _) (Ak z (dY.mpr (ό (Ϫ I.big))) rel JR),rfl,q _ (I.cx.fresh (ξ _))⟩
 show(hb.2 b (Ϫ (ύ hq))).trans (Χ _ hq)
def KV.keys {kvs:-(κ×V)}{vs:-(κ×Ω)}(r:KV kvs vs):kvs.map (·.1)=vs.map (·.1):=by
 induction r with
 | nil=>rfl
 | cons h t ih=>rw[ϒ,ϒ,ih,h.1]
def Paired.aef {α β:Type}{F:α->β->Prop}:∀{l:-α} {m:-β},l.4=m.4->(∀(i:Nat) a b,l[i]?=!a->m[i]?=!b->F a b)->Paired F l m
 | [],[],_,_=>.nil
 | a::l,b::m,h,k=>.cons (k 0 a b rfl rfl) (Paired.aef (by simpa using h) λi a b h1 h2=>k (i+1) a b h1 h2)
abbrev aaw:-V->Hp->VK->Prop:=λxs H Q=>∃d kvs,xs=[.ref d]/\H d=!.dK kvs/\∀l,H l=none->Q (.ref l) (upd H l (.lst (kvs.map λkv=>kV kv.1)))
def KL (hc:X.43=true:=by rfl):dJ X (.type "list") aaw:=by
 intro pins s σ H xs us Q I r h
 obtain⟨d,kvs,rfl,ed,q⟩:=h
 obtain⟨u,rfl,rx⟩:=vals1 r
 cases rx
 obtain⟨z,hs,vs,rel,dd⟩:=xP I.cx ed
 let hl:=rel.4
 obtain⟨o,es,ep,h1,h2⟩:=dd
 show W.kdl_call (W.kdl_dict (knd:=bX X.29 X.w) (kvs:=vs) (ep:=ep) hs) (I.ok.hd hc) ⟨o,es,h1,h2⟩ () λh' tk V6 c' hk hS V7=>?_
 let aeg:Vals (kvs.map λkv=>kV kv.1) V6.34:=Paired.aef (by rw[Η,hl,<-V7.1];show tm.symm) λi a b h3 h4=>by
  obtain⟨k',x',e1,e2⟩:=V7.2 i b (by rw[<-Array.getElem?_toList];show h4)
  let e3:=congrArg (·[i]?) (KV.keys rel)
  simp only[Ξ] at e3 h3
  rw[e1] at e3
  obtain⟨kv,e4,rfl⟩:=χ.mp h3
  rw[e4] at e3
  cases e3
  obtain⟨k0,x0⟩:=kv
  rcases dk e2 with⟨i,t,rfl,rfl⟩ | ⟨x,t,rfl,rfl⟩<;>show⟨t,rfl⟩
 show⟨.ref _,_,I.laid (t':=tk) (λb o hb=>hk b o hb) (ξ _) (show fW X.29 X.w _ h' _ (.lst _) from⟨by rw[Η];show z,V6.34,c',aeg,by rw[Array.toArray_toList];show hS⟩),rfl,q _ (I.cx.fresh (ξ _))⟩
def oZ (c:Nat):∀a:-Nat,(aQ c a).4<=a.4+1
 | []=>ξ _
 | x::r=>by
  let ih:=oZ c r
  rw[aQ]
  by_cases e:x=c
  ·rw[ε e];simp;lk
  ·rw[Ψ e]
   cases h:aQ c r with
   | nil=>simp
   | cons p ps=>rw[h] at ih;simp at ih ⊢;lk
open Builtin Builtin.Str in
def HI:Xw X "str.split" ZY:=by
 intro pins s σ H x vs v us Q I rx rv h
 obtain⟨a,c,rfl,rfl,hl,q⟩:=h
 obtain⟨t,rfl⟩:=rx
 obtain⟨u,rfl,t',rfl⟩:=vals1 rv
 let sl:(1000001:Nat)<=sizeLine:=by decide
 let hz:((aQ c a).map λp=>V.str (S p)).4<=sizeLine:=by
  rw[Η];show ϊ (ϊ (oZ c a) ()) sl
 let fin:∀(l:-(Str×Tok)) (k:Nat),l.map (·.1)=Txt.split (S a) (S [c])->EP X pins σ Q (.ref s.5) { s with toks:=k,heap:=s.heap.push { cls:=.type "list",data:=.seq (strValues l).10 } }:=λl k e=>by
  rw[Fh] at e
  let hv:Vals ((aQ c a).map λp=>V.str (S p)) (strValues l):=by
   generalize aQ c a=ps at e
   induction ps generalizing l with
   | nil=>cases l with
    | nil=>show .nil
    | cons y l=>cases e
   | cons p ps ih=>cases l with
    | nil=>cases e
    | cons y l=>
     obtain⟨y1,y2⟩:=y
     let e':=zp e
     let e1:y1=S p:=e'.1
     subst e1
     show .cons ⟨y2,rfl⟩ (ih l e'.2)
  show⟨.ref _,_,I.laid (t':=k) (λb o hb=>Χ _ hb) (ξ _) (show fW X.29 X.w _ _ _ (.lst _) from⟨hz,strValues l,_,hv,ϑ _ rfl⟩),rfl,q _ (I.cx.fresh (ξ _))⟩
 let hx:(S a).4<=sizeLine:=by rw[my];lk
 let hy:((S [c]).4 == 0)=false:=rfl
 cases h1:(decide ((S a).4 < (S [c]).4) || decide (CF (S a) < CF (S [c])))
 ·cases hf:(occurrences (S a) (S [c]) 0 (S a).length ((S a).4+1)).45
  ·let es:Txt.split (S a) (S [c])=partsBetween (S a) (occurrences (S a) (S [c]) 0 (S a).length ((S a).4+1)) (S [c]).4:=(Ψ (ne_true_of_eq_false h1)).trans (Ψ (ne_true_of_eq_false hf))
   let hn:(partsBetween (S a) (occurrences (S a) (S [c]) 0 (S a).length ((S a).4+1)) (S [c]).4).4<=sizeLine:=by
    rw[<-es,Fh,Η];show ϊ (ϊ (oZ c a) ()) sl
   show zj PySem.F.slot_str_split (oB _ _ _) PySem.F.entry_str_split (PySem.F.args_str_split_2 _ _) (meets_str_split_sep (S a) (S [c]) t t' h1 hy hf hx hn) ?_
   have:=fin (numbered s.23 (partsBetween (S a) (occurrences (S a) (S [c]) 0 (S a).length ((S a).4+1)) (S [c]).4)) (s.23+(partsBetween (S a) (occurrences (S a) (S [c]) 0 (S a).length ((S a).4+1)) (S [c]).4).4) ((numbered_texts _ _).trans es.17)
   rw[<-strsFrom_eq] at this
   show this
  ·show zj PySem.F.slot_str_split (oB _ _ _) PySem.F.entry_str_split (PySem.F.args_str_split_2 _ _) (meets_str_split_not_found (S a) (S [c]) t t' h1 hy hf) (fin [(S a,t)] s.23 ((Ψ (ne_true_of_eq_false h1)).trans (ε hf)).17)
 ·show zj PySem.F.slot_str_split (oB _ _ _) PySem.F.entry_str_split (PySem.F.args_str_split_2 _ _) (meets_str_split_cannot_occur (S a) (S [c]) t t' h1) (fin [(S a,t)] s.23 (ε h1).17)
abbrev aeh:-V->Hp->VK->Prop:=λxs H Q=>∃n:Nat,n < 10 ^ 10/\xs=[.str (S (dU (n:Int)))]/\Q (.int (n:Int)) H
def O7:dJ X (.type "int") aeh:=by
 intro pins s σ H xs us Q I r h
 obtain⟨n,hn,rfl,q⟩:=h
 obtain⟨u,rfl,t,rfl⟩:=vals1 r
 let e:(toString (n:Int):Str)=S (dU (n:Int)):=Ap _
 rw[<-e]
 show W.KIN.call_num (mq n) () ⟨.int (n:Int),H,I.tok _,⟨_,rfl⟩,q⟩
def Te {P:ah}{w:dX}(h:a9)(hb:sysModules < h.7):fW P w H (h.push { cls:=.type "dict",data:=.dict #[] }) h.7 (.dT []):=
 ⟨Ϝ _,dY.mpr (ό (Ϫ hb)),[],.nil,_,#[],0,ϑ _ rfl,⟨rfl,rfl,rfl⟩,rfl,rfl,gw⟩
abbrev aax:TE:=λ_ H Q=>∀p,H p=none->Q (.ref p) (upd H p (.dT []))
def Tf {pos:Pos}:PE X (.Dict [] [] pos) aax:=λpins s σ H Q I h=>
 abg ⟨.ref s.5,_,I.laid (a:=s.5) (o:=.dT []) (t':=s.23) (λ_ _ q=>Χ _ q) (ξ _) (Te s.12 I.big),rfl,h _ (I.cx.fresh (ξ _))⟩
end
def bH.t {H:Hp}{a b:Ν}{kvs:-(-Key×V)}{k:-Key}(e:H a=!.dT kvs)(eb:H b=!.tup (k.map kV)):bH H a (.ref b) (a8 kvs k):=.inr ⟨kvs,k,b,.inl e,rfl,eb,rfl⟩
def jN.t {H:Hp}{a b:Ν}{kvs:-(-Key×V)}{k:-Key}{v:V}(e:H a=!.dT kvs)(eb:H b=!.tup (k.map kV))(hl:kvs.4 < sizeLine):jN H a (.ref b) v (upd H a (.dT (putK kvs k v))):=.inr ⟨kvs,k,b,e,rfl,eb,hl,rfl⟩
end L2
namespace L2
open PySem PySem.Spec PyProof.Rows
def MK:∀a:-Nat,59∉gd a
 | []=>by simp[gd]
 | x::a=>by
  rw[Fi,Ο,yr]
  show⟨?_,MK a⟩
  unfold XT
  split
  ·decide
  ·split
   ·decide
   ·rename_i h;simp;show ό h
def aei (a:-Nat):∃(p0:-Nat) (us:-(-Nat×-Nat)),aQ 126 (gd a)=p0::us.map ϝ/\a=p0++(us.map jJ).30/\∀u∈us,∃r:-Nat,u=(119::r,126::r)\/u=(115::r,59::r):=by
 induction a with
 | nil=>show⟨[],[],rfl,rfl,∅⟩
 | cons x a ih=>
  obtain⟨p0,us,h1,h2,h3⟩:=ih
  rw[Fi]
  unfold XT
  by_cases e:x=126
  ·subst e
   show⟨[],(119::p0,126::p0)::us,?_,by simp[<-h2],λu hu=>?_⟩
   ·rw[ε rfl]
    change aQ 126 (126::119::gd a)=_
    rw[aQ,ε rfl,aQ,Ψ "!",h1];rfl
   ·rcases Ι.mp hu with rfl | hu
    ·show⟨p0,.inl rfl⟩
    ·show h3 u hu
  ·rw[Ψ e]
   by_cases e':x=59
   ·subst e'
    show⟨[],(115::p0,59::p0)::us,?_,by simp[<-h2],λu hu=>?_⟩
    ·rw[ε rfl]
     change aQ 126 (126::115::gd a)=_
     rw[aQ,ε rfl,aQ,Ψ "!",h1];rfl
    ·rcases Ι.mp hu with rfl | hu
     ·show⟨p0,.inr rfl⟩
     ·show h3 u hu
   ·rw[Ψ e']
    show⟨x::p0,us,?_,by simp[<-h2],h3⟩
    change aQ 126 (x::gd a)=_
    rw[aQ,Ψ e,h1]
abbrev FF:Sp:=aT λb=>aN λH Q _=>∃a,b=gd a/\a.4<=5000/\∀H',ι H H'->Q (.str (S a)) H'
abbrev O8:Sp:=aT λt=>aN λH Q _=>∃l:-(-Nat),t=bV [59] (l.map gd)/\l≠[]/\l.4<=1000/\t.4<=1000000/\(∀a∈l,a.4<=5000)/\∀D H',H D=none->ι H H'->H' D=!.lst (tx l)->Q (.ref D) H'
theorem Wy (b:-Nat):Prop:=(∀c∈b,c < 128)/\b.4<=5000/\∃c r,b=c::r/\(c=43\/c=46)
abbrev O9:Sp:=aK λn=>aT λt=>aN λH Q _=>∃b,t=tI n b/\tJ n b/\∀H',ι H H'->Q (.str (S b)) H'
abbrev Pa:Sp:=aK λn=>aT λt=>aN λH Q _=>∃b,t=tI n b/\n < 1000000/\Wy b/\∀H',ι H H'->Q (.str (S b)) H'
abbrev Tg:Sp:=aR λp=>aN λH Q _=>∃ss,H p=!.lst (tx (vj 0 ss))/\ss.4<=10000/\(∀b∈ss,Wy b)/\∀D H',H D=none->ι H H'->H' D=!.lst (tx ss)->Q (.ref D) H'
def ML:∀(n:Nat) (bs:-(-Nat)) (i:Nat) b,bs[i]?=!b->(vj n bs)[i]?=!tI (n+i) b
 | n,a::bs,0,b,h=>by cases h;rfl
 | n,a::bs,i+1,b,h=>by
  rw[vj,oH,ML (n+1) bs i b h]
  congr 2;lk
def kl {α:Type}(l:-α)(k:Nat):(l.drop (HT.oO l.4 0 (!(k:Int)))).take (HT.oO l.4 l.4 none - HT.oO l.4 0 (!(k:Int)))=l.drop k:=by
 rw[HT.rR,HT.Ag]
 by_cases h:k<=l.4
 ·rw[fL h,fE (by rw[gG];lk)]
 ·rw[zi (),Gx (ξ _),Gx (),List.take_nil]
def Wz {α:Type}(l:-α)(k:Nat):(l.drop (HT.oO l.4 0 none)).take (HT.oO l.4 l.4 (!(k:Int)) - HT.oO l.4 0 none)=l.take k:=by
 rw[HT.rR,HT.Ag,U6,Nat.sub_zero]
 by_cases h:k<=l.4
 ·rw[fL h]
 ·rw[zi (),fE (ξ _),fE ()]
def tJ.cut {n:Nat}{b:-Nat}(g:tJ n b):sw (tI n b) (!((18:Nat):Int)) none=b:=by
 change _=_
 show(kl _ 18).trans ?_
 show(XU n b++b).drop 18=b
 rw[<-g.hd,List.drop_left]
theorem j0 (H:Hp)(As:-Ν)(fu:-(-(-Nat))):Prop:=PySem.Paired (λa act=>H a=!.lst (tx act)) As fu
abbrev Pb:Sp:=aR λp=>aN λH Q _=>∃ss,H p=!.lst (tx (vj 0 ss))/\ss.4<=10000/\(∀b∈ss,Wy b)/\(∀b,ss.89=!b->∃r,b=46::r)/\∀T D As fu (m:Int) H',ι H H'->H D=none->(∀a∈As,H a=none)->H' T=!.tup [.ref D,.int m]->H' D=!.lst (As.map V.ref)->j0 H' As fu->fu.30=ss.map (yv 1)->Q (.ref T) H'
def j0.bO {B:-Ν}{H H':Hp}{As:-Ν}{fu:-(-(-Nat))}(h:j0 H As fu)(c:ϰ B H H')(n:∀a∈As,a∉B):j0 H' As fu:=by
 induction h with
 | nil=>show .nil
 | cons r t ih=>show .cons (c.keep _ _ r (n _ ∅)) (ih λa ha=>n a (ψ _ ha))
def j0.snoc {H:Hp}{As:-Ν}{fu:-(-(-Nat))}{c:Ν}{act:-(-Nat)}(h:j0 H As fu)(e:H c=!.lst (tx act)):j0 H (As++[c]) (fu++[act]):=by
 induction h with
 | nil=>show .cons e .nil
 | cons r t ih=>show .cons r ih
def j0.has {H:Hp}{As:-Ν}{fu:-(-(-Nat))}(h:j0 H As fu):∀a∈As,∃l,H a=!.lst l:=by
 induction h with
 | nil=>show λ_ z=>nomatch z
 | cons r t ih=>show λa ha=>(Ι.mp ha).elim (λz=>z▸⟨_,r⟩) (ih a)
def j0.get {H:Hp}{As:-Ν}{fu:-(-(-Nat))}(h:j0 H As fu):∀{i:Nat} {a:Ν},As[i]?=!a->∃act,fu[i]?=!act/\H a=!.lst (tx act):=by
 induction h with
 | nil=>intro i a e;simp at e
 | cons r t ih=>
  intro i a e
  cases i with
  | zero=>cases e;show⟨_,rfl,r⟩
  | succ i=>show ih e
end L2
namespace L2
open PySem PySem.Spec PyProof.Rows
def HJ {K:ζ}{g:TG}{te:TE}{σ:St}{H:Hp}{Q:VK}{a b:Ν}{xs ys vs:-V}(hx:∀H,iV K H a xs)(hy:fK K H b ys)(l1:xs.4=ys.4)(l2:vs.4=ys.4)(hz:ys.4<=1000)
  (hg:∀T x y H' (o:St) (R:St->Hp->Prop),H' T=!.tup [x,y]->o.4=2->R ([!x,!y]++σ) H'->g (.ref T) (o++σ) H' R)
  (he:∀(i:Nat) x y v H',xs[i]?=!x->ys[i]?=!y->vs[i]?=!v->ι H H'->∀Qe:VK,(∀kh,ι H' kh->Qe v kh)->te ([!x,!y]++σ) H' Qe)
  (hd:∀D H',H D=none->ι H H'->H' D=!.lst vs->Q (.ref D) H'):Ko (Wl K a b) 2 g CO te σ H Q:=by
 intro D hD
 show⟨λi m zs H2=>m=ys.4 - i/\i<=ys.4/\zs=vs.take i/\ι H H2/\H2 D=!.lst zs,⟨_,rfl,Ϝ _,rfl,ι.upd hD,Δ⟩,?_⟩
 rintro i m zs H2 ⟨rfl,hi,rfl,s2,e2⟩
 by_cases kz:i < ys.4
 ·show .inr ⟨⟨xs,ys,_,_,hx H2,s2.seq hy,Ε (),Ε kz⟩,υ (show(vs.take i).4<=1000 by rw[af];lk) "!",?_⟩
  rintro z H3 ⟨T,x,y,rfl,hT,rfl,h1,h2⟩ o ho
  let gv:vs[i]?=!vs[i]'():=Ε ()
  generalize vs[i]'()=v at gv
  show hg T x y _ o _ Δ ho ⟨⟨[!x,!y],rfl,rfl⟩,?_⟩
  unfold CO;dsimp only
  rw[ε rfl]
  show he i x y v _ (h1 xs (hx _)) (h2 ys (s2.seq hy)) gv (s2.trans (ι.upd hT)) _ λH5 s5=>⟨s5 _ _ (ι.upd hT _ _ e2),ys.4 - (i+1),(),rfl,kz,(cz gv).17,ι.wr (s2.trans ((ι.upd hT).trans s5)) hD,Δ⟩
 ·let e:i=ys.4:=by lk
  subst e
  rw[<-l2,ϴ] at e2 ⊢
  show .inl ⟨⟨xs,ys,hx H2,s2.seq hy,()⟩,e2,hd D H2 hD s2 e2⟩
abbrev KO:Sp:=aT λt=>aN λH Q _=>∃o,t=tK o/\t.4<=1000/\Q (wV o) H
abbrev HK:Sp:=aS λp=>aT λt=>aN λH Q _=>∃v,Hi p v t/\t.4<=1000/\Q v H
abbrev HL:Sp:=aT λt=>aN λH Q _=>∃e:gJ,t=KH e/\nU e.nm e.ps/\∀D H',H D=none->ι H H'->H' D=!.dK (nT e.nm e.ps)->Q (.ref D) H'
structure Lg (ss:-(-Nat))(es:-gJ):Prop where
 n:ss.4<=5000
 sg:∀b∈ss,Wy b
 ls:∀b,ss.89=!b->∃r,b=46::r
 ev:(ss.map (yv 1)).drop 1=es.map KH
 ok:∀e∈es,nU e.nm e.ps
abbrev FG:Sp:=aR λp=>aN λH Q _=>∃ss es,H p=!.lst (tx (vj 0 ss))/\Lg ss es/\∀D Ds H',H D=none->ι H H'->eO H' D Ds es->Q (.ref D) H'
abbrev MM (i pl:Int):gJ->Bool
 | .put _ _ _ r p _ _=>decide ((r:Int)=i/\(p:Int)=pl)
 | _=>false
abbrev told (i pl dd:Int):gJ->Option (-V)
 | .put n kk d r p _ _=>if (r:Int)=i/\(p:Int)=pl then some [.str "put",.str (S n),.int (kk:Int),.int (d:Int)] else none
 | .close d=>if (d:Int)=dd then some [.str "closed"] else none
 | .drop d=>if (d:Int)=dd then some [.str "dropped"] else none
 | _=>none
abbrev Th:Sp:=aR λD=>aI λi=>aI λpl=>aN λH Q _=>∃kvs i0 p0,H D=!.dK kvs/\a8 kvs (.inr "row")=!.int i0/\a8 kvs (.inr "place")=!.int p0/\Q (.bl (decide (i0=i/\p0=pl))) H
abbrev Pc:Sp:=aR λD=>aI λi=>aI λpl=>aN λH Q _=>∃Ds es,eO H D Ds es/\(∀(j:Nat) e E,es[j]?=!e->MM i pl e=true->(∀(j':Nat) e',j' < j->es[j']?=!e'->MM i pl e'=false)->Ds[j]?=!E->Q (.ref E) H)/\((∀e∈es,MM i pl e=false)->Q .bM H)
abbrev wX:Sp:=aR λD=>aN λH Q _=>∃n kk dd i pl key wo,H D=!.dK (nT "put" (wR n kk dd i pl key wo))/\∀T,H T=none->Q (.ref T) (upd H T (.tup [.str "put",.str (S n),.int (kk:Int),.int (dd:Int)]))
def HM (n:Str)(ps:-Part):a8 (nT n ps) (.inr "event")=!.str n:=by
 unfold nT a8
 rw[Gy ∅]
 rfl
abbrev KP:Sp:=aR λD=>aR λDp=>aB λ_=>aN λH Q _=>∃e n0 kk0 dd i pl aej wo0,H D=!.dK (nT (gJ.nm e) e.ps)/\H Dp=!.dK (nT "put" (wR n0 kk0 dd i pl aej wo0))/\(told (i:Int) (pl:Int) (dd:Int) e=none->∀H',ι H H'->Q .bM H')/\∀t,told (i:Int) (pl:Int) (dd:Int) e=!t->∀T H',ι H H'->H T=none->H' T=!.tup t->Q (.ref T) H'
abbrev x6 (es:-gJ)(i pl:Int):-(-V):=match es.find? (MM i pl) with
 | some (.put _ _ dd _ _ _ _)=>es.filterMap (told i pl (dd:Int))
 | _=>[]
abbrev WA:Sp:=aR λp=>aI λi=>aI λpl=>aN λH Q _=>∃ss es,H p=!.lst (tx (vj 0 ss))/\Lg ss es/\∀D H',H D=none->ι H H'->bb H' D (x6 es i pl)->Q (.ref D) H'
def WB {i pl dd:Int}{e:gJ}{t:-V}(h:told i pl dd e=!t):∃x r,t=V.str x::r:=by
 cases e<;>simp only[told] at h<;>first | cases h | (split at h<;>cases h<;>show⟨_,_,rfl⟩)
def Lg.len {ss:-(-Nat)}{es:-gJ}(L:Lg ss es):es.4<=5000:=by
 have:=congrArg be L.ev
 have:=L.n
 simp at *
 lk
end L2
namespace L2
open PySem PySem.Spec PyProof.Rows
inductive Cl
 | o (h:HO)
 | t (rows:-(-V))
abbrev Cl.at' (H:Hp)(a:Ν):Cl->Prop
 | .o h=>H a=!h
 | .t rows=>bb H a rows
def Cl.at'.bO {c:Cl}{H H':Hp}{a:Ν}{B:-Ν}(h:c.at' H a)(k:ϰ B H H')(n:a∉B):c.at' H' a:=by
 cases c with
 | o x=>show k.keep _ _ h n
 | t r=>show bb.bO h k n
def Cl.at'.here {c:Cl}{H:Hp}{a:Ν}(h:c.at' H a):∃o,H a=!o:=by
 cases c with
 | o x=>show⟨_,h⟩
 | t r=>obtain⟨ts,e,_⟩:=h;show⟨_,e⟩
theorem sH:Type:=-(Ν×Cl)
structure l8 (k:CK)(CD:Ν)(H:Hp)(A:CA)(d:DA)(Z:-Ν)(X:S5)(cs:sH):Prop where
 ce:Hu k CD X.t H A d Z X.M X.m
 kp:∀c∈cs,c.2.at' H c.1
 nd:(cs.map ϝ).13
 sep:∀c∈cs,c.1∉A.fx++fD A d
 sG:∀c∈cs,c.1∈Z
section
variable {k:CK} {CD:Ν} {H H':Hp} {A:CA} {d d':DA} {Z Z':-Ν} {X X':S5} {cs VE:sH} {a:Ν} {C C':Cl} {i:Nat}
def l8.get (h:l8 k CD H A d Z X cs)(e:cs[i]?=!(a,C)):C.at' H a:=h.kp _ (Β e)
def l8.same (h:l8 k CD H A d Z X cs)(s:ι H H'):l8 k CD H' A d Z X cs:=⟨h.ce.same s,λc hc=>(h.kp c hc).bO (B:=[]) (ϰ.of_same s) ∅,h.nd,h.sep,h.sG⟩
def l8.pH (h:l8 k CD H A d Z X cs)(c:ϰ (A.fx++fD A d) H H')(hd:∀b∈fD A d',b∈fD A d\/H b=none)(hz:∀b∈Z,b∈Z')(ce:Hu k CD X'.t H' A d' Z' X'.M X'.m):l8 k CD H' A d' Z' X' cs:=
 ⟨ce,λx hx=>(h.kp x hx).bO c (h.sep x hx),h.nd,(λx hx z=>by
  rcases Ο.mp z with z | z
  ·show h.sep x hx (Φ _ z)
  ·rcases hd _ z with q | q
   ·show h.sep x hx (Θ _ q)
   ·obtain⟨o,e⟩:=(h.kp x hx).77
    show nomatch q.symm.trans e),λx hx=>hz _ (h.sG x hx)⟩
def l8.perm (h:l8 k CD H A d Z X cs)(p:cs.Perm VE):l8 k CD H A d Z X VE:=⟨h.ce,λc hc=>h.kp c (p.mem_iff.mpr hc),(p.map _).nodup_iff.mp h.nd,λc hc=>h.sep c (p.mem_iff.mpr hc),λc hc=>h.sG c (p.mem_iff.mpr hc)⟩
def l8.set (h:l8 k CD H A d Z X cs)(e:cs[i]?=!(a,C))(c:ϰ [a] H H')(n:C'.at' H' a):l8 k CD H' A d Z X (cs.set i (a,C')):=by
 let m:=Β e
 let ha:=h.sep _ m
 let key:∀x∈cs.set i (a,C'),x=(a,C')\/(x∈cs/\x.1≠a):=λx hx=>by
  obtain⟨j,hj⟩:=ϛ hx
  rw[ck] at hj
  split at hj
  ·split at hj
   ·show .inl (ϲ hj).17
   ·cases hj
  ·rename_i ne
   show .inr ⟨Β hj,λz=>ne ?_⟩
   show r6 (l:=cs.map ϝ) h.nd (by rw[Ξ,e];rfl) (by rw[Ξ,hj,<-z];rfl)
 let fx:(cs.set i (a,C')).map ϝ=cs.map ϝ:=by
  rw[Yz]
  show bg λj=>?_
  rw[ck]
  split
  ·rename_i z;subst z
   rw[Ξ,e,ε (by rw[Η];show(Α.mp e).1)];rfl
  ·rfl
 show⟨?_,λx hx=>?_,by rw[fx];show h.nd,λx hx=>?_,λx hx=>?_⟩
 ·show h.ce.bO c (λb hb z=>ha (Φ _ (Ζ.mp hb▸z))) (λb hb z=>ha (Θ _ (Ζ.mp hb▸z))) (λb hb=>.inl (Ζ.mp hb▸h.sG _ m)) (λb hb=>Ζ.mp hb▸n.77)
 ·rcases key x hx with rfl | ⟨q,ne⟩
  ·show n
  ·show(h.kp x q).bO c (by simpa using ne)
 ·rcases key x hx with rfl | ⟨q,ne⟩
  ·show ha
  ·show h.sep x q
 ·rcases key x hx with rfl | ⟨q,ne⟩
  ·show h.sG (a,C) m
  ·show h.sG x q
def l8.new (h:l8 k CD H A d Z X cs)(s:ι H H')(e:H a=none)(n:C.at' H' a):l8 k CD H' A d (a::Z) X ((a,C)::cs):=by
 let ha:=h.ce.MF e
 let ne:∀x∈cs,x.1≠a:=λx hx z=>by
  obtain⟨o,q⟩:=(h.kp x hx).77
  rw[z,e] at q;cases q
 show⟨h.ce.reZ (B:=[]) (Y:=[a]) (ϰ.of_same s) (λ_ z=>nomatch z) (λ_ z=>nomatch z) (λ_ z=>nomatch z) (λ_ z=>nomatch z) (λb hb=>.inr (Ζ.mp hb▸e)) (λb hb=>Ζ.mp hb▸n.77),λx hx=>?_,?_,λx hx=>?_,λx hx=>?_⟩
 ·rcases Ι.mp hx with rfl | hx
  ·show n
  ·show(h.kp x hx).bO (B:=[]) (ϰ.of_same s) ∅
 ·rw[ϒ,Ϛ]
  show⟨λz=>?_,h.nd⟩
  obtain⟨x,hx,z⟩:=μ.mp z
  show ne x hx z
 ·rcases Ι.mp hx with rfl | hx
  ·show ha
  ·show h.sep x hx
 ·rcases Ι.mp hx with rfl | hx
  ·show Ϭ
  ·show ψ _ (h.sG x hx)
end
structure KB where
 kd:Ν
 nl:Ν
 sl:Ν
 td:Ν
 od:Ν
 ed:Ν
 ld:Ν
 la:Ν
 dd:Ν
 sd:Ν
structure Wt where
 n:-Nat
 kk:Nat
 dd:Nat
 i:Nat
 pl:Nat
abbrev Wt.sp (w:Wt):jH:=((w.i:Int),(w.pl:Int))
abbrev Wt.key (w:Wt):-Key:=[.inl (w.i:Int),.inl (w.pl:Int)]
abbrev Wt.put (w:Wt):-V:=[.str "put",.str (S w.n),.int (w.kk:Int),.int (w.dd:Int)]
structure KR where
 t:Int
 l0:Int
 l1:Int
 a0:Int
 a1:Int
 b0:Int
 b1:Int
 ed:-(Int×Int)
 W:-(Wt×-(-V))
 sp:-(-jH)
abbrev sI (k:KB)(t:Int):-(Key×V):=[(.inr "names",.ref k.nl),(.inr "shelves",.ref k.sl),(.inr "turn",.int t),(.inr "tales",.ref k.td),(.inr "order",.ref k.od),(.inr "ends",.ref k.ed),(.inr "lives",.ref k.ld),(.inr "last",.ref k.la),(.inr "deeds",.ref k.dd),(.inr "spots",.ref k.sd)]
structure KN where
 n0:-Nat
 n1:-Nat
 rest:-V
 xs:-l6
abbrev D2 (N:KN)(x y:Int):-(Key×V):=[(.inr (S N.n0),.int x),(.inr (S N.n1),.int y)]
abbrev uV (l:-(Int×Int)):-(Key×V):=l.map λx=>(.inl x.1,.int x.2)
abbrev CB (W:-(Wt×-(-V)))(ts:-Ν):-(-Key×V):=d8 (λw a=>(w.1.85,.ref a)) W ts
abbrev KQ (ss:-Ν):-(Key×V):=d8 (λ(j:Nat) a=>(.inl ((j:Int)+1),.ref a)) (aU ss.4) ss
abbrev gF (k:KB)(N:KN)(m:KR)(ts ss:-Ν):sH:=[(k.kd,.o (.dK (sI k m.t))),(k.nl,.o (.lst (.str (S N.n0)::.str (S N.n1)::N.36))),(k.sl,.t (N.xs.map l6.v)),(k.td,.o (.dT (CB m.W ts))),(k.od,.t (m.W.map λw=>mV w.1.sp)),(k.ed,.o (.dK (uV m.ed))),(k.ld,.o (.dK (D2 N m.l0 m.l1))),(k.la,.o (.dK (D2 N m.a0 m.a1))),(k.dd,.o (.dK (D2 N m.b0 m.b1))),(k.sd,.o (.dK (KQ ss)))]
abbrev jC (m:KR)(ts:-Ν):sH:=d8 (λw a=>(a,Cl.t w.2)) m.W ts
abbrev nZ (m:KR)(ss:-Ν):sH:=d8 (λe a=>(a,Cl.t (e.map mV))) m.sp ss
abbrev bD (k:KB)(N:KN)(m:KR)(ts ss:-Ν):sH:=gF k N m ts ss++(jC m ts++nZ m ss)
end L2
namespace L2
open PySem PySem.Spec PyProof.Rows
def Pd {K:ζ}{a:Ν}{xs:-V}{g:TG}{tb:TS}{D:Ends}{σ:St}{H:Hp}(Pv:Nat->St->Hp->Prop)(h0:Pv 0 σ H)(hl:∀i σ H,i<=xs.4->Pv i σ H->iV K H a xs)
  (hs:∀i x σ H,xs[i]?=!x->Pv i σ H->g x σ H λσ2 H2=>tb { D with nx:=Pv (i+1),ct:=Pv (i+1),bk:=D.nx } σ2 H2) (hd:∀σ H,Pv xs.4 σ H->D.nx σ H):GY (Itt K a) g tb D σ H:=by
 show⟨λi m σ H=>m=xs.4 - i/\i<=xs.4/\Pv i σ H,⟨xs.4,∅,Ϝ _,h0⟩,?_⟩
 rintro i m σ H ⟨rfl,hi,p⟩
 let q:=hl i σ H hi p
 by_cases kz:i < xs.4
 ·show .inr ⟨⟨xs,xs[i],q,by simp[kz]⟩,Pv (i+1),λσ' H' p'=>⟨xs.4 - (i+1),(),rfl,kz,p'⟩,λx H' y=>?_⟩
  obtain⟨e,y⟩:=y
  subst e
  show hs i x σ _ (y xs q) p
 ·let e:i=xs.4:=by lk
  subst e
  show .inl ⟨⟨xs,q,ξ _⟩,hd σ H p⟩
abbrev Pe:Sp:=aI λ_=>aN λH Q _=>∀n0 n1 rest D H',dj n0->dj n1->n0≠n1->H D=none->ι H H'->H' D=!(.lst (.str (S n0)::.str (S n1)::rest))->Q (.ref D) H'
abbrev HN:Sp:=aI λ_=>aR λp=>aN λH Q _=>∃n0 n1 rest,H p=!(.lst (.str (S n0)::.str (S n1)::rest))/\dj n0/\dj n1/\n0≠n1/\∀xs D H',iF xs->xs.4=2->H D=none->ι H H'->bb H' D (xs.map l6.v)->Q (.ref D) H'
abbrev uw (r:-V):Prop:=∀v∈r,(∃x:Str,v=.str x/\Sr x.6)\/∃i,v=.int i
def uw.flat {r:-V}(h:uw r):r.all nK=true:=jy.mpr λv hv=>by
 rcases h v hv with⟨x,rfl,_⟩ | ⟨i,rfl⟩<;>rfl
def uw.ok {r:-V}(h:uw r):∀v∈r,okV v:=λv hv=>by
 rcases h v hv with⟨x,rfl,o⟩ | ⟨i,rfl⟩
 ·show o
 ·show bo
def aay {K:ζ}{H:Hp}{Q:VK}{u v:Ν}{t:-V}(hu:H u=!.tup t)(hv:H v=!.tup t)(hp:uw t)(q:Q (.bl false) H):NX K (.ref u) (.ref v) H Q:=
 DQ (.tup (.inl (.inl hu)) (qK hp.flat)) (.tup (.inl (.inl hv)) (qK hp.flat)) (Su λe he=>by
  obtain⟨v,hv,rfl⟩:=μ.mp he
  show V5 0 (hp.ok v hv)) rfl q
abbrev Ti:Sp:=aR λF=>aR λD=>aN λH Q _=>∃rows,bb H F rows/\bb H D rows/\rows.4<=1000/\(∀r∈rows,uw r/\r.4<=10)/\∀H',ι H H'->Q (.bl true) H'
abbrev m08:KR:=⟨0,0,0,0,0,0,0,[],[],[]⟩
abbrev KB.all (r:KB):-Ν:=[r.kd,r.nl,r.sl,r.td,r.od,r.ed,r.ld,r.la,r.dd,r.sd]
structure HP (N:KN):Prop where
 o0:dj N.n0
 o1:dj N.n1
 ne:N.n0≠N.n1
 ox:iF N.xs
 x2:N.xs.4=2
abbrev Pf:Sp:=aI λ_=>aN λH Q _=>∀(r:KB) (N:KN) H',ι H H'->Fr H H' r.all->HP N->(∀c∈(bD r N m08 [] []).set 6 (r.ld,.o (.dK [])),c.2.at' H' c.1)->Q (.ref r.kd) H'
end L2
namespace L2
open PySem PySem.Spec PyProof.Rows
abbrev jP (z:Str)(l:-jH)(W:-(Wt×-(-V))):-(Wt×-(-V)):=W.map λw=>if w.1.sp∈l then(w.1,w.2++[[.str z]]) else w
abbrev iw (m:KR)(dn:Int)(z:Str):KR:={ m with
 ed:=m.ed.filter λx=>decide (x.1≠dn)
 W:=if dn∈m.ed.map ϝ then jP z (m.sp.getD (dn.9 - 1) []) m.W else m.W
 b0:=if m.b0=dn then 0 else m.b0
 b1:=if m.b1=dn then 0 else m.b1 }
structure US (m:KR)(ts ss:-Ν):Prop where
 lt:ts.4=m.W.4
 ls:ss.4=m.sp.4
 wl:m.W.4<=100
 sl:m.sp.4<=100
 QY:(m.W.map λw=>w.1.sp).13
 sp:∀(j:Nat) l,m.sp[j]?=!l->l.13/\∀s∈l,s∈m.W.map λw=>w.1.sp
 ed:∀x∈m.ed,∃j:Nat,x.1=(j:Int)+1/\j < m.sp.4
 nde:(m.ed.map ϝ).13
 el:m.ed.4<=100
section
variable {N:KN} {x y v:Int}
def D2.g0:a8 (D2 N x y) (.inr (S N.n0))=!.int x:=by simp[D2,a8]
def D2.g1 (ne:N.n0≠N.n1):a8 (D2 N x y) (.inr (S N.n1))=!.int y:=by
 have:¬S N.n0=S N.n1:=λz=>ne (nO z)
 simp[D2,a8,d4,this]
def D2.p0 (ne:N.n0≠N.n1):putK (D2 N x y) (.inr (S N.n0)) (.int v)=D2 N v y:=by
 have:¬S N.n1=S N.n0:=λz=>ne (nO z).17
 simp[D2,putK,this]
def D2.p1 (ne:N.n0≠N.n1):putK (D2 N x y) (.inr (S N.n1)) (.int v)=D2 N x v:=by
 have:¬S N.n0=S N.n1:=λz=>ne (nO z)
 simp[D2,putK,this]
end
section
variable {r:KB} {N:KN} {m:KR} {ts ss:-Ν} {j:Nat} {a:Ν} {w:Wt×-(-V)}
def KS {α:Type}{l:-α}{x:α}{i k:Nat}(nd:l.13)(h1:l[i]?=!x)(h2:l[k]?=!x):i=k:=(List.getElem?_inj (Α.mp h1).1 nd).mp (h1.trans h2.17)
def vw (lt:ts.4=m.W.4):(jC m ts).4=m.W.4:=by unfold jC;rw[gM,lt,Ja]
def Tj (hw:m.W[j]?=!w)(ha:ts[j]?=!a):(bD r N m ts ss)[10+j]?=!(a,.t w.2):=by
 show(gF r N m ts ss++(jC m ts++nZ m ss))[10+j]?=_
 rw[Ϙ (by show 10<=10+j;lk),show 10+j - (gF r N m ts ss).4=j from by show 10+j - 10=j;lk]
 let hT:(jC m ts)[j]?=!(a,.t w.2):=by unfold jC;rw[϶,hw,ha]
 rw[ϟ (Α.mp hT).1,hT]
def WC {α β:Type}{f:α->β}{l:-α}{x y:α}(h:l[j]?=!x)(e:f y=f x):(l.set j y).map f=l.map f:=by
 show bg λi=>?_
 rw[Ξ,Ξ,ck]
 split
 ·rename_i z;subst z
  rw[ε (Α.mp h).1,h];show congrArg some e
 ·rfl
def MN {α β γ:Type}{f:α->β->γ}{l:-α}{k:-β}{y:α}{b:β}(hb:k[j]?=!b):d8 f (l.set j y) k=(d8 f l k).set j (f y b):=by
 show bg λi=>?_
 rw[϶,ck,ck,϶,gM]
 by_cases z:j=i
 ·subst z
  have:=(Α.mp hb).1
  rw[ε rfl,ε rfl,hb]
  by_cases c:j < l.4
  ·rw[ε c,ε ()]
  ·rw[Ψ c,Ψ ()]
 ·rw[Ψ z,Ψ z]
def Tk {α β γ:Type}{f:α->β->γ}{l:-α}{k:-β}{x y:α}(h:l[j]?=!x)(e:∀b,f y b=f x b):d8 f (l.set j y) k=d8 f l k:=by
 show bg λi=>?_
 rw[϶,϶,ck]
 by_cases z:j=i
 ·subst z
  rw[ε rfl,ε (Α.mp h).1,h]
  cases k[j]? with
  | none=>rfl
  | some b=>show congrArg some (e b)
 ·rw[Ψ z]
def aaA {l:-(-V)}(hw:m.W[j]?=!w)(ha:ts[j]?=!a):(bD r N m ts ss).set (10+j) (a,.t l)=bD r N { m with W:=m.W.set j (w.1,l) } ts ss:=by
 let e1:gF r N { m with W:=m.W.set j (w.1,l) } ts ss=gF r N m ts ss:=by
  unfold gF CB
  dsimp only
  rw[WC (f:=λw=>mV w.1.sp) (y:=(w.1,l)) hw rfl,Tk (f:=λw a=>(w.1.85,V.ref a)) (y:=(w.1,l)) hw λ_=>rfl]
 let e2:jC { m with W:=m.W.set j (w.1,l) } ts=(jC m ts).set j (a,.t l):=by
  unfold jC
  show MN ha
 let hj:j < (jC m ts).4:=by
  unfold jC;rw[gM]
  have:=(Α.mp hw).1
  have:=(Α.mp ha).1
  lk
 show(gF r N m ts ss++(jC m ts++nZ m ss)).set (10+j) _=gF r N { m with W:=m.W.set j (w.1,l) } ts ss++(jC { m with W:=m.W.set j (w.1,l) } ts++nZ m ss)
 rw[e1,e2,qD (10+j) _ (by show 10<=10+j;lk),show 10+j - (gF r N m ts ss).4=j from by show 10+j - 10=j;lk,List.set_append_left j _ hj]
def KU {l:-jH}(lt:ts.4=m.W.4)(hl:m.sp[j]?=!l)(ha:ss[j]?=!a):(bD r N m ts ss)[10+(m.W.4+j)]?=!(a,.t (l.map mV)):=by
 show(gF r N m ts ss++(jC m ts++nZ m ss))[10+(m.W.4+j)]?=_
 rw[Ϙ (by show 10<=10+(m.W.4+j);lk),show 10+(m.W.4+j) - (gF r N m ts ss).4=m.W.4+j from by show 10+(m.W.4+j) - 10=_;lk,Ϙ (by rw[vw lt];lk),vw lt,Gz]
 unfold nZ
 rw[϶,hl,ha]
def aaB {l l':-jH}(lt:ts.4=m.W.4)(hl:m.sp[j]?=!l)(ha:ss[j]?=!a):(bD r N m ts ss).set (10+(m.W.4+j)) (a,.t (l'.map mV))=bD r N { m with sp:=m.sp.set j l' } ts ss:=by
 let e2:nZ { m with sp:=m.sp.set j l' } ss=(nZ m ss).set j (a,.t (l'.map mV)):=by
  unfold nZ
  show MN ha
 show(gF r N m ts ss++(jC m ts++nZ m ss)).set (10+(m.W.4+j)) _=gF r N m ts ss++(jC m ts++nZ { m with sp:=m.sp.set j l' } ss)
 rw[e2,qD _ _ (by show 10<=10+(m.W.4+j);lk),show 10+(m.W.4+j) - (gF r N m ts ss).4=m.W.4+j from by show 10+(m.W.4+j) - 10=_;lk,qD _ _ (by rw[vw lt];lk),vw lt,Gz]
def mC {z:Str}{l:-jH}{W:-(Wt×-(-V))}:(jP z l W).4=W.4:=Η _
def Tl {z:Str}{l:-jH}{W:-(Wt×-(-V))}{i p:Nat}{s:jH}(nd:(W.map λw=>w.1.sp).13)(nl:l.13)(hi:l[i]?=!s)(hw:W[p]?=!w)(e:w.1.sp=s) :
  (jP z (l.take i) W)[p]?=!w/\jP z (l.take (i+1)) W=(jP z (l.take i) W).set p (w.1,w.2++[[.str z]]):=by
 let hn:w.1.sp∉l.take i:=by
  rw[e]
  intro h
  obtain⟨k,hk⟩:=ϛ h
  let k1:=(Α.mp hk).1
  rw[af] at k1
  rw[nz ()] at hk
  have:=KS nl hk hi
  lk
 let h1:(jP z (l.take i) W)[p]?=!w:=by
  unfold jP
  rw[Ξ,hw]
  change some (if _ then _ else _)=_
  rw[Ψ hn]
 show⟨h1,bg λq=>?_⟩
 rw[ck]
 by_cases c:p=q
 ·subst c
  rw[ε rfl,ε (Α.mp h1).1]
  unfold jP
  rw[Ξ,hw]
  change some (if _ then _ else _)=_
  rw[ε (by rw[cz hi,e];simp)]
 ·rw[Ψ c]
  unfold jP
  rw[Ξ,Ξ]
  cases hq:W[q]? with
  | none=>rfl
  | some u=>
   change some (if _ then _ else _)=!(if _ then _ else _)
   let ne:u.1.sp≠s:=λz=>c (KS nd (x:=s) (by rw[Ξ,hw,<-e];rfl) (by rw[Ξ,hq,<-z];rfl))
   have:(u.1.sp∈l.take (i+1))=(u.1.sp∈l.take i):=by
    rw[cz hi];simp[ne]
   simp only[this]
end
end L2
namespace L2
open PySem PySem.Spec PyProof.Rows
section
variable {κ:Type} [DecidableEq κ]
def zF {k:κ}{v:V}:∀{l:-(κ×V)},(l.map (·.1)).13->(k,v)∈l->a8 l k=!v
 | x::l,nd,h=>by
  rw[ϒ,Ϛ] at nd
  rcases Ι.mp h with rfl | h
  ·show dC rfl
  ·rw[cK λz=>nd.1 (z▸μ.mpr ⟨_,h,rfl⟩)]
   show zF nd.2 h
def MO {k:κ}{l:-(κ×V)}(h:k∉l.map (·.1)):a8 l k=none:=by
 cases e:a8 l k with
 | none=>rfl
 | some v=>
  obtain⟨x,hx,_⟩:=χ.mp e
  show absurd (μ.mpr ⟨x,Dx hx,by have:=List.find?_some hx;show of_decide_eq_true this⟩) h
end
section
variable {r:KB} {N:KN} {m:KR} {ts ss:-Ν} {j:Nat} {a:Ν} {w:Wt×-(-V)} {H H':Hp} {dn:Int} {z:Str}
def Tn {w w':Wt}(h:w.85=w'.85):w.sp=w'.sp:=by
 let e:=zp h
 let e2:=zp e.2
 show agx (hV e.1) (hV e2.1)
def WD (lt:ts.4=m.W.4):(CB m.W ts).map (·.1)=m.W.map λw=>w.1.85:=by
 show bg λi=>?_
 unfold CB
 rw[Ξ,Ξ,϶]
 cases h:m.W[i]? with
 | none=>rfl
 | some w=>
  have:=(Α.mp h).1
  rw[Ε (show i < ts.4 by lk)];rfl
def aaC (o:US m ts ss):((CB m.W ts).map (·.1)).13:=by
 rw[WD o.lt]
 have:=o.QY
 rw[me,ny] at this ⊢
 show this.imp λn e=>n (Tn e)
def MP (o:US m ts ss)(hw:m.W[j]?=!w)(ha:ts[j]?=!a):a8 (CB m.W ts) w.1.85=!.ref a:=
 zF (aaC o) (Β (i:=j) (by unfold CB;rw[϶,hw,ha]))
def MQ (ha:ss[j]?=!a):a8 (KQ ss) (.inl ((j:Int)+1))=!.ref a:=by
 let l:=(Α.mp ha).1
 show zF ?_ (Β (i:=j) (by unfold KQ;rw[϶,kt l,ha]))
 let e:(KQ ss).map (·.1)=(aU ss.4).map λ(j:Nat)=>(.inl ((j:Int)+1):Key):=by
  show bg λi=>?_
  unfold KQ
  rw[Ξ,Ξ,϶]
  by_cases c:i < ss.4
  ·rw[kt c,Ε c];rfl
  ·rw[fQ (l:=aU ss.4) (by simpa using zk c)];rfl
 rw[e,me,ny]
 show(yu (n:=ss.4)).imp λn e=>n (by have:=hV e;lk)
def FH (l:-(Int×Int)):(uV l).map (·.1)=(l.map ϝ).map jI:=by unfold uV;rw[Ϥ,Ϥ];rfl
def aaD {l:-(Int×Int)}(h:dn∈l.map ϝ):∃x:Int,a8 (uV l) (.inl dn)=!.int x:=by
 cases e:a8 (uV l) (.inl dn) with
 | none=>
  obtain⟨⟨k,x⟩,hx,rfl⟩:=μ.mp h
  have:((uV l).any λkv=>decide (kv.1=.inl k))=true:=yq.mpr ⟨(.inl k,.int x),μ.mpr ⟨_,hx,rfl⟩,∅⟩
  rw[nM,e] at this;cases this
 | some v=>
  obtain⟨y,hy,rfl⟩:=χ.mp e
  obtain⟨x,_,rfl⟩:=μ.mp (Dx hy)
  show⟨_,rfl⟩
def WE {l:-(Int×Int)}{x:Int}(nd:(l.map ϝ).13)(h:(dn,x)∈l):a8 (uV l) (.inl dn)=!.int x:=by
 show zF ?_ (μ.mpr ⟨_,h,rfl⟩)
 rw[FH,me,ny]
 show nd.imp λn e=>n (hV e)
def WF {l:-(Int×Int)}(h:dn∉l.map ϝ):a8 (uV l) (.inl dn)=none:=MO (by rw[FH];simpa using h)
def To {l:-(Int×Int)}:gP (uV l) (.inl dn)=uV (l.filter λx=>decide (x.1≠dn)):=by
 unfold gP uV
 rw[zN]
 congr 1
 show List.filter_congr λx _=>by simp
def AX {l:-(Int×Int)}(h:dn∉l.map ϝ):l.filter (λx=>decide (x.1≠dn))=l:=Mc.mpr λx hx=>ϱ λz=>h (μ.mpr ⟨x,hx,z⟩)
def MR {l:-(Int×Int)}(h:dn∈l.map ϝ):(l.filter λx=>decide (x.1≠dn)).4 < l.4:=by
 obtain⟨x,hx,e⟩:=μ.mp h
 show List.length_filter_lt_length_iff_exists.mpr ⟨x,hx,by simpa using e⟩
def zG {l:-jH}{W:-(Wt×-(-V))}:(jP z l W).map (λw=>w.1.sp)=W.map λw=>w.1.sp:=by
 unfold jP
 rw[Ϥ]
 show df λw _=>by show(if _ then _ else _:Wt×-(-V)).1.sp=_;split<;>rfl
def aaE {l:-jH}{W:-(Wt×-(-V))}:CB (jP z l W) ts=CB W ts:=by
 unfold CB jP
 rw[List.zipWith_map_left]
 congr 1
 funext w a
 split<;>rfl
def vx {m':KR}(e1:m'.W.4=m.W.4)(e2:m'.sp.4=m.sp.4):(bD r N m' ts ss).map ϝ=(bD r N m ts ss).map ϝ:=by
 let zz:∀{α β:Type} {f:α->β->Ν×Cl} {l l':-α} {f':α->β->Ν×Cl} {k:-β},l.4=l'.4->(∀a b a',(f a b).1=(f' a' b).1)->(d8 f l k).map ϝ=(d8 f' l' k).map ϝ:=λ{α β f l l' f' k} e h=>by
  show bg λi=>?_
  rw[Ξ,Ξ,϶,϶]
  by_cases c:i < l.4
  ·rw[Ε c,Ε (show i < l'.4 by lk)]
   cases k[i]? with
   | none=>rfl
   | some b=>show congrArg some (h _ _ _)
  ·rw[fQ (),fQ (l:=l') ()]
 show(gF r N m' ts ss++(jC m' ts++nZ m' ss)).map ϝ=(gF r N m ts ss++(jC m ts++nZ m ss)).map ϝ
 rw[Ϣ,Ϣ,Ϣ,Ϣ]
 show congr (congrArg _ (show _=_ from rfl)) (congr (congrArg _ (zz e1 λ_ _ _=>rfl)) (zz e2 λ_ _ _=>rfl))
def US.iw (o:US m ts ss)(ow:∀w∈m.W,w.2.4+m.ed.4<=200):US (iw m dn z) ts ss/\∀w∈(L2.iw m dn z).W,w.2.4+(L2.iw m dn z).ed.4<=200:=by
 by_cases h:dn∈m.ed.map ϝ
 ·let e:(L2.iw m dn z).W=jP z (m.sp.getD (dn.9 - 1) []) m.W:=ε h
  let e2:(L2.iw m dn z).ed=m.ed.filter λx=>decide (x.1≠dn):=rfl
  let l2:=MR h
  show⟨⟨by rw[e,mC];show o.lt,o.ls,by rw[e,mC];show o.wl,o.sl,by rw[e,zG];show o.QY,by rw[e,zG];show o.sp,λx hx=>o.ed x (cT.mp hx).1,o.nde.sublist (List.filter_sublist.map _),ϊ (xF l2) o.el⟩,λw hw=>?_⟩
  rw[e] at hw;rw[e2]
  obtain⟨w,hx,rfl⟩:=μ.mp hw
  have:=ow w hx
  split
  ·rw[Ρ,ϯ];lk
  ·lk
 ·let e:(L2.iw m dn z).W=m.W:=Ψ h
  let e2:(L2.iw m dn z).ed=m.ed:=AX h
  show⟨⟨by rw[e];show o.lt,o.ls,by rw[e];show o.wl,o.sl,by rw[e];show o.QY,by rw[e];show o.sp,by rw[e2];show o.ed,by rw[e2];show o.nde,by rw[e2];show o.el⟩,by rw[e,e2];show ow⟩
abbrev Pg:Sp:=aR λkd=>aI λdn=>aR λet=>aN λH Q _=>∃k CD A d Z X r N m ts ss z,kd=r.kd/\l8 k CD H A d Z X (bD r N m ts ss)/\HP N/\US m ts ss/\(∀w∈m.W,w.2.4+m.ed.4<=200)/\H et=!.tup [.str z]/\∀H',l8 k CD H' A d Z X (bD r N (iw m dn z) ts ss)->ϰ ((bD r N m ts ss).map ϝ) H H'->Q .bM H'
end
end L2
namespace L2
open PySem PySem.Spec PyProof.Rows
abbrev ux:Nat->-Dd->-(Int×Int)
 | _,[]=>[]
 | k,x::r=>if x.2.2=aH then((k:Int)+1,x.2.1)::ux (k+1) r else ux (k+1) r
def wY:∀{l:-Dd} {k:Nat} {y:Int×Int},y∈ux k l->∃j:Nat,(∃x,l[j]?=!x/\x.2.2=aH/\y=(((k+j:Nat):Int)+1,x.2.1))
 | [],_,_,h=>by cases h
 | x::r,k,y,h=>by
  rw[ux] at h
  let tail:y∈ux (k+1) r->∃j:Nat,(∃x',(x::r)[j]?=!x'/\x'.2.2=aH/\y=(((k+j:Nat):Int)+1,x'.2.1)):=λh=>by
   obtain⟨j,x',h1,h2,h3⟩:=wY h
   show⟨j+1,x',h1,h2,by rw[h3,show k+1+j=k+(j+1) by lk]⟩
  split at h
  ·rename_i o
   rcases Ι.mp h with rfl | h
   ·show⟨0,x,rfl,o,rfl⟩
   ·show tail h
  ·show tail h
def Tp:∀{l:-Dd} {k j:Nat} {x:Dd},l[j]?=!x->x.2.2=aH->(((k+j:Nat):Int)+1,x.2.1)∈ux k l
 | [],_,_,_,h,_=>by cases h
 | y::r,k,0,x,h,o=>by
  cases h
  rw[ux,ε o];show Ϭ
 | y::r,k,j+1,x,h,o=>by
  have:=Tp (l:=r) (k:=k+1) (j:=j) h o
  rw[show k+1+j=k+(j+1) by lk] at this
  rw[ux]
  split
  ·show ψ _ this
  ·show this
def KW:∀{l:-Dd} {k:Nat},((ux k l).map ϝ).13
 | [],_=>gw
 | x::r,k=>by
  rw[ux]
  split
  ·rw[ϒ,Ϛ]
   show⟨λh=>?_,KW⟩
   obtain⟨y,hy,e⟩:=μ.mp h
   obtain⟨j,x',_,_,e2⟩:=wY hy
   rw[e2] at e
   let e:((k+1+j:Nat):Int)+1=(k:Int)+1:=e
   lk
  ·show KW
def zH:∀{l:-Dd} {k:Nat},(ux k l).4<=l.4
 | [],_=>ξ _
 | x::r,k=>by
  have:=zH (l:=r) (k:=k+1)
  rw[ux]
  split
  ·show fi this
  ·show eN this
def MS {n:Str}{e:Int}:∀{l:-Dd} {k:Nat},ux k (l++[(n,e,aH)])=ux k l++[(((k+l.4:Nat):Int)+1,e)]
 | [],k=>by
  show(if aH=aH then((k:Int)+1,e)::ux (k+1) [] else _)=_
  rw[ε rfl];rfl
 | x::r,k=>by
  rw[dA,ux,ux,MS,show k+1+r.4=k+(x::r).4 by simp;lk]
  split<;>rfl
def aaF {l:-Dd}{k:Nat}{d:Int}(h:d<=(k:Int)):(ux k l).filter (λy=>decide (y.1≠d))=ux k l:=Mc.mpr λy hy=>by
 obtain⟨j,x,_,_,e⟩:=wY hy
 rw[e]
 show ϱ (show((k+j:Nat):Int)+1≠d by lk)
def MT {z:Str}(hz:z≠aH):∀{l:-Dd} {k j:Nat} {x:Dd},l[j]?=!x->x.2.2=aH->ux k (l.set j (x.1,x.2.1,z))=(ux k l).filter λy=>decide (y.1≠((k+j:Nat):Int)+1)
 | [],_,_,_,h,_=>by cases h
 | y::r,k,0,x,h,o=>by
  cases h
  rw[List.set_cons_zero,ux,ux,ε o,Ψ hz,bT ∅,aaF ()]
 | y::r,k,j+1,x,h,o=>by
  have:=MT hz (l:=r) (k:=k+1) (j:=j) h o
  rw[show k+1+j=k+(j+1) by lk] at this
  rw[List.set_cons_succ,ux,ux,this]
  split
  ·rw[cS (by simp only[dP];lk)]
  ·rfl
def MU {t:Int}:∀{l:-Dd} {k:Nat},((ux k l).filter λy=>decide (y.2<=t)).map ϝ=((aU l.4).filter λi=>match l[i]? with
  | some x=>decide (x.2.2=aH) && decide (x.2.1<=t)
  | none=>false).map λi=>((k+i:Nat):Int)+1
 | [],_=>rfl
 | x::r,k=>by
  let ih:=MU (l:=r) (k:=k+1) (t:=t)
  let e:((aU r.4).map Xj).filter (λi=>match (x::r)[i]? with
    | some x=>decide (x.2.2=aH) && decide (x.2.1<=t)
    | none=>false)=((aU r.4).filter λi=>match r[i]? with
    | some x=>decide (x.2.2=aH) && decide (x.2.1<=t)
    | none=>false).map Xj:=by
   rw[zN];rfl
  let e2:∀js:-Nat,(js.map Xj).map (λi=>((k+i:Nat):Int)+1)=js.map λi=>((k+1+i:Nat):Int)+1:=λjs=>by
   rw[Ϥ]
   show df λi _=>by show((k+(i+1):Nat):Int)+1=_;lk
  rw[ω,Gu,ux]
  by_cases o:x.2.2=aH
  ·rw[ε o]
   by_cases d:x.2.1<=t
   ·rw[cS (by simpa using d),cS (by simp[o,d]),ϒ,ϒ,ih,e,e2];rfl
   ·rw[bT (by simpa using d),bT (by simp[d]),ih,e,e2]
  ·rw[Ψ o,bT (by simp[o]),ih,e,e2]
end L2
namespace L2
open PySem PySem.Spec PyProof.Rows
abbrev la (X:S5)(r:Nat):Option Int:=X.48[r]?.map eX.last
structure Sd (X:S5)(n:-Nat)(l a b:Int)(s:Nat):Prop where
 fl:X.M.S.L (S n)=!l
 lb:1<=l/\l<=1+s
 fa:X.M.S.T (S n)=a
 ab:0<=a/\a<=s
 fb:(X.m.M.B (S n)).getD 0=b
abbrev WG (X:S5):gJ->Prop
 | .put _ _ _ r p _ _=>∃L,la X r=!L/\(p:Int) < L
 | .close d=>∃(j:Nat) (x:Dd),d=j+1/\X.15[j]?=!x/\x.2.2≠aH
 | .drop d=>∃(j:Nat) (x:Dd),d=j+1/\X.15[j]?=!x/\x.2.2≠aH
 | _=>True
structure Pu (X:S5)(N:KN)(m:KR)(E:-gJ)(s:Nat):Prop where
 inv:nY X
 xs:X.M.xs=N.xs
 rw:X.M.Ms.4=aG N.xs 2
 tt:∃t:Nat,X.t=(t:Int)/\m.t=(t:Int)/\t<=4 * s
 s0:Sd X N.n0 m.l0 m.a0 m.b0 s
 s1:Sd X N.n1 m.l1 m.a1 m.b1 s
 sz:X.62<=3+s
 dz:X.87<=s
 dl:X.m.M.ds.4<=s
 e1:∀e∈X.54,e.1.4<=s/\e.2=[]
 ed:m.ed=ux 0 X.15
 sp:m.sp.4=X.m.M.ds.4
 Tq:∀(j:Nat) l,m.sp[j]?=!l->l.13/\∀q∈l,q∈m.W.map λw=>w.1.sp
 hk:∀w∈m.W,∀(j:Nat) l,m.sp[j]?=!l->(w.1.sp∈l↔w.1.dd=j+1)
 dw:∀w∈m.W,w.1.dd<=X.m.M.ds.4
 wl:m.W.4<=s
 QY:(m.W.map λw=>w.1.sp).13
 wb:∀w∈m.W,∃L,la X w.1.i=!L/\(w.1.pl:Int) < L
 tl:∀w∈m.W,(∃key wo,E.find? (MM w.1.i w.1.pl)=!.put w.1.n w.1.kk w.1.dd w.1.i w.1.pl key wo)/\E.filterMap (told w.1.i w.1.pl (w.1.dd:Int))=w.2
 tb:∀w∈m.W,w.2.4+m.ed.4<=2+s
 tp:∀w∈m.W,∀r∈w.2,uw r/\r.4<=10
 ev:∀e∈E,WG X e
 lb:∀(r:Nat) L,la X r=!L->0<=L/\L<=s
 lw:∀(r:Nat) L,la X r=!L->L<=m.W.4
section
variable {X X':S5} {N:KN} {m:KR} {E:-gJ} {s s':Nat} {n:-Nat} {l a b:Int} {ts ss:-Ν}
def Sd.mono (h:Sd X n l a b s)(c:s<=s'):Sd X n l a b s':=⟨h.fl,⟨h.lb.1,by have:=h.lb;lk⟩,h.fa,⟨h.ab.1,by have:=h.ab;lk⟩,h.fb⟩
def Pu.mono (h:Pu X N m E s)(c:s<=s'):Pu X N m E s':={ h with
 tt:=let ⟨t,a,b,e⟩:=h.tt;⟨t,a,b,()⟩
 s0:=h.s0.mono c,s1:=h.s1.mono c
 sz:=by have:=h.sz;lk
 dz:=by have:=h.dz;lk
 dl:=by have:=h.dl;lk
 e1:=λe he=>⟨ϊ (h.e1 e he).1 c,(h.e1 e he).2⟩
 wl:=by have:=h.wl;lk
 tb:=λw hw=>by have:=h.tb w hw;lk
 lb:=λr L e=>by have:=h.lb r L e;lk }
def Pu.mk8 (h:Pu X N m E s)(hs:s<=50)(lt:ts.4=m.W.4)(ls:ss.4=m.sp.4):US m ts ss/\∀w∈m.W,w.2.4+m.ed.4<=200:=by
 show⟨⟨lt,ls,by have:=h.wl;lk,by rw[h.sp];have:=h.dl;lk,h.QY,h.Tq,λx hx=>?_,by rw[h.ed];show KW,by rw[h.ed];have:=zH (l:=X.15) (k:=0);have:=h.dl;lk⟩,λw hw=>by have:=h.tb w hw;lk⟩
 rw[h.ed] at hx
 obtain⟨j,y,hy,_,rfl⟩:=wY hx
 show⟨j,by show((0+j:Nat):Int)+1=_;lk,by rw[h.sp];show(Α.mp hy).1⟩
def HQ {α:Type}{p:α->Bool}{l r:-α}{x:α}(h:l.find? p=!x):(l++r).find? p=!x:=by rw[QR,h];rfl
def FJ {e:gJ}{W:-(Wt×-(-V))}(h:∀w∈W,(∃key wo,E.find? (MM w.1.i w.1.pl)=!.put w.1.n w.1.kk w.1.dd w.1.i w.1.pl key wo)/\E.filterMap (told w.1.i w.1.pl (w.1.dd:Int))=w.2)(n:∀w∈W,told w.1.i w.1.pl (w.1.dd:Int) e=none) :
  ∀w∈W,(∃key wo,(E++[e]).find? (MM w.1.i w.1.pl)=!.put w.1.n w.1.kk w.1.dd w.1.i w.1.pl key wo)/\(E++[e]).filterMap (told w.1.i w.1.pl (w.1.dd:Int))=w.2:=λw hw=>by
 obtain⟨⟨key,wo,h1⟩,h2⟩:=h w hw
 show⟨⟨key,wo,HQ h1⟩,by rw[jm,h2,nF (n w hw)];simp⟩
def AY {e:gJ}(h:∀e∈E,WG X' e)(n:WG X' e):∀x∈E++[e],WG X' x:=λx hx=>by
 rcases Ο.mp hx with hx | hx
 ·show h x hx
 ·rw[Ζ.mp hx];show n
def Pu.turn (h:Pu X N m E s){t':Nat}(ht:t'<=4 * s):Pu ⟨(t':Int),X.M,X.m⟩ N { m with t:=(t':Int) } (E++[.turn t']) s:={ h with
 inv:=⟨h.78,h.inv.26,h.inv.sp⟩
 tt:=⟨t',rfl,rfl,ht⟩
 s0:=⟨h.s0.fl,h.s0.lb,h.s0.fa,h.s0.ab,h.s0.fb⟩
 s1:=⟨h.s1.fl,h.s1.lb,h.s1.fa,h.s1.ab,h.s1.fb⟩
 tl:=FJ h.tl λ_ _=>rfl
 ev:=AY (λe he=>by have:=h.ev e he;cases e<;>show this) bo }
def Sd.cr (h:Sd X n l a b s)(z:-Nat):Sd ⟨X.t,X.M.cr (S z),X.m⟩ n (if n=z then l+1 else l) a b (s+1):=by
 let hl:=h.fl
 let hb:=h.lb
 show⟨?_,by split<;>lk,?_,⟨h.ab.1,by have:=h.ab;lk⟩,h.fb⟩
 ·show(if S n=S z then some ((X.M.S.L (S z)).getD 0+1) else X.M.S.L (S n))=_
  by_cases c:n=z
  ·subst c;rw[ε rfl,ε rfl,hl];rfl
  ·rw[Ψ λe=>c (nO e),Ψ c,hl]
 ·show(if S n=S z then(if (X.M.S.L (S z)).getD 0=0 then 0 else X.M.S.T (S z)) else X.M.S.T (S n))=_
  by_cases c:n=z
  ·subst c;rw[ε rfl,hl,Ψ (show ¬(!l).getD 0=0 by show ¬l=0;lk)];show h.fa
  ·rw[Ψ λe=>c (nO e)];show h.fa
def Pu.cr (h:Pu X N m E s){z:-Nat}{kk:Nat}:Pu ⟨X.t,X.M.cr (S z),X.m⟩ N { m with l0:=if N.n0=z then m.l0+1 else m.l0,l1:=if N.n1=z then m.l1+1 else m.l1 } (E++[.cr z kk]) (s+1):={ h.mono (gD s) with
 inv:=⟨h.78,h.inv.26,h.inv.sp⟩
 xs:=h.xs
 rw:=h.rw
 tt:=let ⟨t,a,b,e⟩:=h.tt;⟨t,a,b,()⟩
 s0:=h.s0.cr z
 s1:=h.s1.cr z
 sz:=by have:=h.sz;change X.62+1<=_;lk
 wb:=h.wb
 tl:=FJ h.tl λ_ _=>rfl
 ev:=AY (λe he=>by have:=h.ev e he;cases e<;>show this) bo
 lb:=λr L e=>by have:=h.lb r L e;lk }
def Sd.begin (h:Sd X n l a b s){z:-Nat}{e:Int}(hB:X.m.M.B (S z)=none):Sd ⟨X.t,X.M,X.m.begin (S z) e⟩ n l a (if n=z then(X.m.M.ds.4:Int)+1 else b) (s+1):=by
 show⟨h.fl,⟨h.lb.1,by have:=h.lb;lk⟩,h.fa,⟨h.ab.1,by have:=h.ab;lk⟩,?_⟩
 show(if S n=S z then some ((X.m.M.ds.4:Int)+1) else X.m.M.B (S n)).getD 0=_
 by_cases c:n=z
 ·subst c;rw[ε rfl,ε rfl];rfl
 ·rw[Ψ λe=>c (nO e),Ψ c];show h.fb
def aaG {d:Dd}{x:gJ}{e:Int}{z:Str}(h:WG X x):WG ⟨X.t,X.M,X.m.begin z e⟩ x:=by
 let k:∀(j:Nat) (y:Dd),X.15[j]?=!y->(X.15++[(z,e,aH)])[j]?=!y:=λj y hy=>by
  rw[ϟ (Α.mp hy).1];show hy
 cases x with
 | close d=>obtain⟨j,y,h1,h2,h3⟩:=h;show⟨j,y,h1,k j y h2,h3⟩
 | drop d=>obtain⟨j,y,h1,h2,h3⟩:=h;show⟨j,y,h1,k j y h2,h3⟩
 | _=>show h
def Pu.begin (h:Pu X N m E s){z:-Nat}{e:Int}{ev:gJ}(tM:ev=.begin (X.m.M.ds.4+1) z e.9)(hB:X.m.M.B (S z)=none):Pu ⟨X.t,X.M,X.m.begin (S z) e⟩ N { m with b0:=if N.n0=z then(X.m.M.ds.4:Int)+1 else m.b0,b1:=if N.n1=z then(X.m.M.ds.4:Int)+1 else m.b1,ed:=m.ed++[((X.m.M.ds.4:Int)+1,e)],sp:=m.sp++[[]] } (E++[ev]) (s+1):={ h.mono (gD s) with
 inv:=h.inv.begin hB
 tt:=let ⟨t,a,b,e⟩:=h.tt;⟨t,a,b,()⟩
 s0:=h.s0.begin hB
 s1:=h.s1.begin hB
 dz:=by have:=h.dz;change X.87+1<=_;lk
 dl:=by have:=h.dl;show(X.15++[_]).4<=_;rw[Ρ,ϯ];lk
 e1:=λx hx=>by
  rcases Ο.mp hx with hx | hx
  ·show⟨eN (h.e1 x hx).1,(h.e1 x hx).2⟩
  ·rw[Ζ.mp hx];show⟨Ϝ _,rfl⟩
 ed:=by
  change _=ux 0 (X.15++[(S z,e,aH)])
  rw[MS,h.ed,i7]
 sp:=by show(m.sp++[[]]).4=(X.15++[_]).4;rw[Ρ,Ρ,h.sp];rfl
 Tq:=λj l hl=>by
  rcases Ο.mp (Β hl) with hx | hx
  ·obtain⟨i,hi⟩:=ϛ hx
   show h.Tq i l hi
  ·rw[Ζ.mp hx];show⟨gw,λq hq=>by cases hq⟩
 hk:=λw hw j l hl=>by
  let hl:(m.sp++[[]])[j]?=!l:=hl
  by_cases c:j < m.sp.4
  ·rw[ϟ c] at hl
   show h.hk w hw j l hl
  ·let hj:=(Α.mp hl).1
   rw[Ρ,ϯ] at hj
   have:j=m.sp.4:=by lk
   subst this
   rw[Ϙ (ξ _),qA] at hl
   cases hl
   show⟨λq=>absurd q Μ,λq=>?_⟩
   have:=h.dw w hw
   have:=h.sp
   lk
 dw:=λw hw=>by have:=h.dw w hw;change _<=(X.15++[_]).4;rw[Ρ];lk
 tl:=FJ h.tl λ_ _=>by rw[tM];rfl
 tb:=λw hw=>by have:=h.tb w hw;change _+(m.ed++[_]).4<=_;rw[Ρ,ϯ];lk
 ev:=AY (λe he=>aaG (d:=default) (h.ev e he)) (by rw[tM];show bo) }
end
end L2
namespace L2
open PySem PySem.Spec PyProof.Rows
section
variable {X:S5} {N:KN} {m:KR} {E:-gJ} {s:Nat} {n:-Nat} {l a b:Int} {j:Nat} {x:Dd} {F z:Str} {ev:gJ} {Ms':-eX}
def zI:∀{l:-jH} {Ms:-eX} {r:Nat},(mW Ms l)[r]?.map eX.last=Ms[r]?.map eX.last
 | [],_,_=>rfl
 | y::l,Ms,r=>by
  show(mW (Ms.modify y.1.9 λm=>m.out y.2) l)[r]?.map eX.last=_
  rw[zI,Jo]
  cases Ms[r]? with
  | none=>rfl
  | some m=>show congrArg some (by show(if _ then _ else _:eX).24=_;split<;>rfl)
def Sd.fin (h:Sd X n l a b s)(I:xW X.m.M)(hx:X.15[j]?=!x)(ho:x.2.2=aH):Sd ⟨X.t,{ X.M with Ms:=Ms' },X.m.finish j x F⟩ n l a (if b=(j:Int)+1 then 0 else b) s:=by
 show⟨h.fl,h.lb,h.fa,h.ab,?_⟩
 let hb:=h.fb
 let hB:=I.b j x hx ho
 show(if S n=x.1 then none else X.m.M.B (S n)).getD 0=_
 by_cases c:S n=x.1
 ·rw[ε c]
  rw[c,hB] at hb
  rw[ε (show b=(j:Int)+1 from hb.17)];rfl
 ·rw[Ψ c,hb,Ψ]
  intro e
  cases k:X.m.M.B (S n) with
  | none=>rw[k] at hb;let hb:(0:Int)=b:=hb;lk
  | some v=>
   rw[k] at hb
   let hb:v=b:=hb
   obtain⟨i,e',h1,h2⟩:=I.a _ _ k
   have:i=j:=by lk
   subst this
   rw[hx] at h2;cases h2;show c rfl
def r9 {l:-jH}{W:-(Wt×-(-V))}{w':Wt×-(-V)}(h:w'∈jP z l W):∃w∈W,w'.1=w.1/\(w.1.sp∈l/\w'.2=w.2++[[.str z]]\/w.1.sp∉l/\w'.2=w.2):=by
 obtain⟨w,hw,e⟩:=μ.mp h
 show⟨w,hw,?_⟩
 split at e
 ·rename_i c;rw[<-e];show⟨rfl,.inl ⟨c,rfl⟩⟩
 ·rename_i c;rw[<-e];show⟨rfl,.inr ⟨c,rfl⟩⟩
def Pu.fin (h:Pu X N m E s)(hx:X.15[j]?=!x)(ho:x.2.2=aH)(hM:Ms'.length=X.M.Ms.4)(hL:∀r:Nat,Ms'[r]?.map eX.last=X.48[r]?.map eX.last)(hF:F≠aH)(tM:ev=.close (j+1)/\z="closed" \/ ev=.drop (j+1)/\z="dropped") :
  Pu ⟨X.t,{ X.M with Ms:=Ms' },X.m.finish j x F⟩ N (iw m ((j:Int)+1) z) (E++[ev]) s:=by
 let hd:((j:Int)+1)∈m.ed.map ϝ:=by
  rw[h.ed]
  have:=Tp (k:=0) hx ho
  rw[i7] at this
  show μ.mpr ⟨_,this,rfl⟩
 let jl:=(Α.mp hx).1
 let hs:m.sp[j]?=!(m.sp[j]'(by rw[h.sp];show jl)):=Ε _
 generalize m.sp[j]'_=sl at hs
 let eW:(iw m ((j:Int)+1) z).W=jP z sl m.W:=by
  show(if _ then _ else _)=_
  rw[ε hd,show((j:Int)+1).9 - 1=j by lk,Ϩ,hs];rfl
 let eE:(iw m ((j:Int)+1) z).ed.4+1<=m.ed.4:=MR hd
 let tE:∀i pl dd:Int,told i pl dd ev=if ((j+1:Nat):Int)=dd then some [.str z] else none:=λi pl dd=>by
  rcases tM with⟨rfl,rfl⟩ | ⟨rfl,rfl⟩<;>rfl
 let oE:∀e∈E,WG ⟨X.t,{ X.M with Ms:=Ms' },X.m.finish j x F⟩ e:=λe he=>by
  let k:∀(i:Nat) (y:Dd),X.15[i]?=!y->y.2.2≠aH->(X.m.M.ds.set j (x.1,x.2.1,F))[i]?=!y:=λi y hy hn=>by
   rw[ak]
   ·show hy
   ·intro c;subst c;rw[hx] at hy;cases hy;show hn ho
  let he:=h.ev e he
  cases e with
  | put n kk d r p _ _=>obtain⟨L,h1,h2⟩:=he;show⟨L,(hL r).trans h1,h2⟩
  | close d=>obtain⟨i,y,h1,h2,h3⟩:=he;show⟨i,y,h1,k i y h2 h3,h3⟩
  | drop d=>obtain⟨i,y,h1,h2,h3⟩:=he;show⟨i,y,h1,k i y h2 h3,h3⟩
  | _=>show he
 let oV:WG ⟨X.t,{ X.M with Ms:=Ms' },X.m.finish j x F⟩ ev:=by
  have:(X.m.M.ds.set j (x.1,x.2.1,F))[j]?=!(x.1,x.2.1,F):=ar jl
  rcases tM with⟨rfl,rfl⟩ | ⟨rfl,rfl⟩<;>show⟨j,_,rfl,this,hF⟩
 let oz:Sr z.6:=by rcases tM with⟨_,rfl⟩ | ⟨_,rfl⟩<;>(unfold Sr;decide +kernel)
 let dsl:(X.m.M.ds.set j (x.1,x.2.1,F)).4=X.m.M.ds.4:=bq
 show {
  inv:=⟨h.inv.op.finish hx (h.inv.op.b j x hx ho) hF,by show X.m.xs.4=(X.m.M.ds.set j _).4;rw[dsl];show h.inv.26,λe he q hq=>by show 0<=q.1/\q.1 < (Ms'.length:Int);rw[hM];show h.inv.sp e he q hq⟩
  xs:=h.xs
  rw:=hM.trans h.rw
  tt:=h.tt
  s0:=h.s0.fin h.78 hx ho
  s1:=h.s1.fin h.78 hx ho
  sz:=h.sz
  dz:=h.dz
  dl:=by show(X.m.M.ds.set j _).4<=s;rw[dsl];show h.dl
  e1:=h.e1
  ed:=by
   change m.ed.filter _=ux 0 (X.m.M.ds.set j (x.1,x.2.1,F))
   rw[MT hF hx ho,h.ed,i7]
  sp:=by show m.sp.4=(X.m.M.ds.set j _).4;rw[dsl];show h.sp
  Tq:=by rw[eW,zG];show h.Tq
  hk:=λw hw=>by
   rw[eW] at hw
   obtain⟨w0,h0,e1,_⟩:=r9 hw
   rw[e1];show h.hk w0 h0
  dw:=λw hw=>by
   rw[eW] at hw
   obtain⟨w0,h0,e1,_⟩:=r9 hw
   rw[e1];change _<=(X.m.M.ds.set j _).4;rw[dsl];show h.dw w0 h0
  wl:=by rw[eW,mC];show h.wl
  QY:=by rw[eW,zG];show h.QY
  wb:=λw hw=>by
   rw[eW] at hw
   obtain⟨w0,h0,e1,_⟩:=r9 hw
   rw[e1]
   obtain⟨L,h1,h2⟩:=h.wb w0 h0
   show⟨L,(hL _).trans h1,h2⟩
  tl:=λw hw=>by
   rw[eW] at hw
   obtain⟨w0,h0,e1,e2⟩:=r9 hw
   rw[e1]
   obtain⟨⟨key,wo,h1⟩,h2⟩:=h.tl w0 h0
   show⟨⟨key,wo,HQ h1⟩,?_⟩
   let hh:=h.hk w0 h0 j sl hs
   rw[jm,h2]
   rcases e2 with⟨c,e2⟩ | ⟨c,e2⟩
   ·rw[e2,nH (by rw[tE,ε (by rw[hh.mp c])])];rfl
   ·rw[e2,nF (by rw[tE,Ψ λy=>c (hh.mpr ())])];simp
  tb:=λw hw=>by
   rw[eW] at hw
   obtain⟨w0,h0,e1,e2⟩:=r9 hw
   have:=h.tb w0 h0
   rcases e2 with⟨c,e2⟩ | ⟨c,e2⟩
   ·rw[e2,Ρ,ϯ];lk
   ·rw[e2];lk
  tp:=λw hw r hr=>by
   rw[eW] at hw
   obtain⟨w0,h0,e1,e2⟩:=r9 hw
   rcases e2 with⟨c,e2⟩ | ⟨c,e2⟩
   ·rw[e2] at hr
    rcases Ο.mp hr with hr | hr
    ·show h.tp w0 h0 r hr
    ·rw[Ζ.mp hr]
     show⟨λv hv=>by rw[Ζ.mp hv];show .inl ⟨z,rfl,oz⟩,by show 1<=10;decide⟩
   ·rw[e2] at hr;show h.tp w0 h0 r hr
  ev:=AY oE oV
  lb:=λr L e=>h.lb r L ((hL r).symm.trans e)
  lw:=λr L e=>by rw[eW,mC];show h.lw r L ((hL r).symm.trans e) }
end
end L2
namespace L2
open PySem PySem.Spec PyProof.Rows
abbrev tN (w:Wt)(sp:-(-jH)):-(-jH):=match w.dd with
 | 0=>sp
 | j+1=>sp.set j (sp.getD j []++[w.sp])
abbrev aic (N:KN)(m:KR)(w:Wt):KR:={ m with
 a0:=if N.n0=w.n then m.a0+1 else m.a0
 a1:=if N.n1=w.n then m.a1+1 else m.a1
 W:=m.W++[(w,[w.67])]
 sp:=tN w m.sp }
section
variable {X:S5} {N:KN} {m:KR} {E:-gJ} {s:Nat} {n:-Nat} {l a b:Int} {mr:eX} {lt:N6} {mm:DM} {w:Wt} {key:-Nat} {wo:Option (-Nat)}
def AZ {r:Nat}(CZ:X.48[w.i]?=!mr):la ⟨X.t,X.M.put w.i mr lt (S n) w.kk,mm⟩ r=if w.i=r then some (mr.24+1) else la X r:=by
 show((X.M.Ms.set w.i (mr.add lt))[r]?).map eX.last=_
 by_cases c:w.i=r
 ·subst c;rw[ar (Α.mp CZ).1,ε rfl];rfl
 ·rw[ak c,Ψ c];rfl
def X9 {r:Nat}{L:Int}{p:Int}(CZ:X.48[w.i]?=!mr)(h:la X r=!L)(hp:p < L):∃L',la ⟨X.t,X.M.put w.i mr lt (S n) w.kk,mm⟩ r=!L'/\p < L':=by
 rw[AZ CZ]
 by_cases c:w.i=r
 ·subst c
  rw[show la X w.i=!mr.24 from congrArg (Jp eX.last) CZ] at h
  cases h
  show⟨_,ε rfl,()⟩
 ·show⟨L,(Ψ c).trans h,hp⟩
def Sd.put (h:Sd X n l a b s){i:Nat}(hk:(w.kk:Int)=X.M.S.T (S w.n)+1)(hM:mm.M=X.m.M):Sd ⟨X.t,X.M.put i mr lt (S w.n) w.kk,mm⟩ n l (if n=w.n then a+1 else a) b (s+1):=by
 show⟨h.fl,⟨h.lb.1,by have:=h.lb;lk⟩,?_,by have:=h.ab;split<;>lk,by show(mm.M.B _).getD 0=b;rw[hM];show h.fb⟩
 show(if S n=S w.n then(w.kk:Int) else X.M.S.T (S n))=_
 by_cases c:n=w.n
 ·rw[ε (by rw[c]),ε c,hk,<-c,h.fa]
 ·rw[Ψ λe=>c (nO e),Ψ c];show h.fa
def Ef {sp:-(-jH)}:(tN w sp).4=sp.4:=by
 unfold tN;split
 ·rfl
 ·show bq
def A5 {sp:-(-jH)}{j:Nat}{l':-jH}(h:(tN w sp)[j]?=!l'):(w.dd=j+1/\∃l0,sp[j]?=!l0/\l'=l0++[w.sp])\/(w.dd≠j+1/\sp[j]?=!l'):=by
 unfold tN at h
 split at h
 ·rename_i c;show .inr ⟨(),h⟩
 ·rename_i i c
  by_cases e:i=j
  ·subst e
   let hi:=(Α.mp h).1
   rw[bq] at hi
   rw[ar hi,Ϩ,Ε hi] at h
   show .inl ⟨c,sp[i],Ε hi,(ϲ h).17⟩
  ·rw[ak e] at h
   show .inr ⟨(),h⟩
def Pu.put (h:Pu X N m E s)(hs:s<=50)(hn:w.n=N.n0\/w.n=N.n1)(hN:HP N)(CZ:X.48[w.i]?=!mr)(lZ:mr.24=(w.pl:Int))(hk:(w.kk:Int)=X.M.S.T (S w.n)+1)
  (UJ:w.dd=0/\mm=X.m\/∃j e x,w.dd=j+1/\X.15[j]?=!x/\x.2.2=aH/\X.54[j]?=!e/\mm=X.m.hold j e ((w.i:Int),mr.24)) :
  Pu ⟨X.t,X.M.put w.i mr lt (S w.n) w.kk,mm⟩ N (aic N m w) (E++[.put w.n w.kk w.dd w.i w.pl key wo]) (s+1):=by
 let hM:mm.M=X.m.M:=by rcases UJ with⟨_,rfl⟩ | ⟨j,e,x,_,_,_,_,rfl⟩<;>rfl
 let hi:=(Α.mp CZ).1
 let hL:la X w.i=!(w.pl:Int):=(congrArg (Jp eX.last) CZ).trans (congrArg some lZ)
 let lt':∀{L:Int} {p:Int},la X w.i=!L->p < L->p≠(w.pl:Int):=λe q=>by rw[hL] at e;cases e;lk
 let oE:∀e∈E,WG ⟨X.t,X.M.put w.i mr lt (S w.n) w.kk,mm⟩ e:=λe he=>by
  let he:=h.ev e he
  cases e with
  | put n kk d r p _ _=>obtain⟨L,h1,h2⟩:=he;show X9 CZ h1 h2
  | close d=>obtain⟨i,y,h1,h2,h3⟩:=he;show⟨i,y,h1,by show mm.M.ds[i]?=_;rw[hM];show h2,h3⟩
  | drop d=>obtain⟨i,y,h1,h2,h3⟩:=he;show⟨i,y,h1,by show mm.M.ds[i]?=_;rw[hM];show h2,h3⟩
  | _=>trivial
 let inv:nY ⟨X.t,X.M.put w.i mr lt (S w.n) w.kk,mm⟩:=by
  rcases UJ with⟨_,rfl⟩ | ⟨j,e,x,_,_,_,he,rfl⟩
  ·show h.inv.67
  ·show h.inv.hold hi he
 let nw:∀w'∈m.W,w'.1.sp≠w.sp:=λw' jZ e=>by
  obtain⟨L,h1,h2⟩:=h.wb w' jZ
  let e1:w'.1.i=w.i:=by have:=congrArg ϝ e;show Ng this
  rw[e1] at h1
  show lt' h1 h2 (congrArg jJ e)
 let ns:w.sp∉m.W.map λw=>w.1.sp:=λq=>by
  obtain⟨w',jZ,e⟩:=μ.mp q
  show nw w' jZ e
 let opn:∀j,w.dd=j+1->∃x,X.15[j]?=!x/\x.2.2=aH:=λj e=>by
  rcases UJ with⟨c,_⟩ | ⟨i,_,x,c,h1,h2,_,_⟩
  ·lk
  ·have:i=j:=by lk
   subst this;show⟨x,h1,h2⟩
 let nE:∀e∈E,MM (w.i:Int) (w.pl:Int) e=false/\told (w.i:Int) (w.pl:Int) (w.dd:Int) e=none:=λe he=>by
  let ce:∀d:Nat,(∃(j:Nat) (x:Dd),d=j+1/\X.15[j]?=!x/\x.2.2≠aH)->¬(d:Int)=(w.dd:Int):=λd ⟨j,x,h1,h2,h3⟩ c=>by
   obtain⟨y,h4,h5⟩:=opn j ()
   rw[h2] at h4;cases h4;show h3 h5
  let he:=h.ev e he
  cases e with
  | put n kk d r p _ _=>
   obtain⟨L,h1,h2⟩:=he
   have:¬((r:Int)=w.i/\(p:Int)=w.pl):=λ⟨c1,c2⟩=>by
    have:r=w.i:=by lk
    subst this
    show lt' h1 h2 c2
   show⟨ae this,Ψ this⟩
  | close d=>show⟨rfl,Ψ (ce d he)⟩
  | drop d=>show⟨rfl,Ψ (ce d he)⟩
  | _=>show⟨rfl,rfl⟩
 let on:dj w.n:=by
  rcases hn with e | e
  ·rw[e];show hN.o0
  ·rw[e];show hN.o1
 show {
  inv:=inv
  xs:=h.xs
  rw:=by show(X.M.Ms.set _ _).4=_;rw[bq];show h.rw
  tt:=let ⟨t,a,b,e⟩:=h.tt;⟨t,a,b,()⟩
  s0:=h.s0.put hk hM
  s1:=h.s1.put hk hM
  sz:=by have:=h.sz;change X.62+1<=_;lk
  dz:=by show mm.M.sz<=_;rw[hM];have:=h.dz;lk
  dl:=by show mm.M.ds.4<=_;rw[hM];have:=h.dl;lk
  e1:=λe he=>by
   rcases UJ with⟨_,rfl⟩ | ⟨j,e0,x,_,_,_,WH,rfl⟩
   ·show⟨eN (h.e1 e he).1,(h.e1 e he).2⟩
   ·rcases mQ he with he | rfl
    ·show⟨eN (h.e1 e he).1,(h.e1 e he).2⟩
    ·have:=h.e1 e0 (Β WH)
     show⟨by rw[Ρ,ϯ];show fi this.1,this.2⟩
  ed:=by show m.ed=ux 0 mm.M.ds;rw[hM];show h.ed
  sp:=by show(tN w m.sp).4=mm.M.ds.4;rw[hM,Ef];show h.sp
  Tq:=λj l' hl=>by
   change _/\∀q∈l',q∈(m.W++[(w,[w.67])]).map _
   rw[Ϣ]
   rcases A5 hl with⟨c,l0,h0,rfl⟩ | ⟨c,h0⟩
   ·obtain⟨nd,i⟩:=h.Tq j l0 h0
    show⟨ϗ.mpr ⟨nd,∅,λq hq y hy=>?_⟩,λq hq=>?_⟩
    ·rw[Ζ.mp hy];show λz=>ns (z▸i q hq)
    ·rcases Ο.mp hq with hq | hq
     ·show Φ _ (i q hq)
     ·rw[Ζ.mp hq];show Θ _ Ϭ
   ·obtain⟨nd,i⟩:=h.Tq j l' h0
    show⟨nd,λq hq=>Φ _ (i q hq)⟩
  hk:=λw' jZ j l' hl=>by
   rcases Ο.mp jZ with jZ | jZ
   ·rcases A5 hl with⟨c,l0,h0,rfl⟩ | ⟨c,h0⟩
    ·rw[Ο,Ζ,<-h.hk w' jZ j l0 h0]
     show⟨λq=>q.elim id λz=>absurd z (nw w' jZ),.inl⟩
    ·show h.hk w' jZ j l' h0
   ·rw[Ζ.mp jZ]
    rcases A5 hl with⟨c,l0,h0,rfl⟩ | ⟨c,h0⟩
    ·show⟨λ_=>c,λ_=>Θ _ Ϭ⟩
    ·show⟨λq=>absurd ((h.Tq j l' h0).2 _ q) ns,λq=>absurd q c⟩
  dw:=λw' jZ=>by
   change _<=mm.M.ds.4
   rw[hM]
   rcases Ο.mp jZ with jZ | jZ
   ·show h.dw w' jZ
   ·rw[Ζ.mp jZ]
    change w.dd<=_
    cases e:w.dd with
    | zero=>show Ϝ _
    | succ j=>
     obtain⟨x,hx,_⟩:=opn j e
     show(Α.mp hx).1
  wl:=by show(m.W++[_]).4<=_;rw[Ρ];show fi h.wl
  QY:=by
   change ((m.W++[_]).map _).13
   rw[Ϣ]
   show ϗ.mpr ⟨h.QY,∅,λq hq y hy=>by
    have:y=w.sp:=Ζ.mp hy
    rw[this];show λz=>ns (z▸hq)⟩
  wb:=λw' jZ=>by
   rcases Ο.mp jZ with jZ | jZ
   ·obtain⟨L,h1,h2⟩:=h.wb w' jZ
    show X9 CZ h1 h2
   ·rw[Ζ.mp jZ]
    show⟨mr.24+1,by rw[AZ CZ,ε rfl],by show(w.pl:Int) < _;lk⟩
  tl:=λw' jZ=>by
   rcases Ο.mp jZ with jZ | jZ
   ·show FJ h.tl (λv hv=>?_) w' jZ
    show Ψ λ⟨c1,c2⟩=>nw v hv ?_
    show agx c1.17 c2.17
   ·rw[Ζ.mp jZ]
    show⟨⟨key,wo,?_⟩,?_⟩
    ·rw[QR,uX.mpr λe he=>by rw[(nE e he).1];decide]
     show Gy (show MM (w.i:Int) (w.pl:Int) (.put w.n w.kk w.dd w.i w.pl key wo)=true from ϱ ⟨rfl,rfl⟩)
    ·rw[jm,List.filterMap_eq_nil_iff.mpr λe he=>(nE e he).2,fJ,nH (show told (w.i:Int) (w.pl:Int) (w.dd:Int) (.put w.n w.kk w.dd w.i w.pl key wo)=!w.67 from ε ⟨rfl,rfl⟩)];rfl
  tb:=λw' jZ=>by
   change _+m.ed.4<=_
   rcases Ο.mp jZ with jZ | jZ
   ·have:=h.tb w' jZ;lk
   ·rw[Ζ.mp jZ,h.ed]
    have:=zH (l:=X.15) (k:=0)
    have:=h.dl
    change 1+_<=_
    lk
  tp:=λw' jZ r hr=>by
   rcases Ο.mp jZ with jZ | jZ
   ·show h.tp w' jZ r hr
   ·rw[Ζ.mp jZ] at hr
    rw[Ζ.mp hr]
    show⟨λv hv=>?_,by show 4<=10;decide⟩
    let hv:v∈[V.str "put",.str (S w.n),.int (w.kk:Int),.int (w.dd:Int)]:=hv
    simp only[Ι,Μ,ϖ] at hv
    rcases hv with rfl | rfl | rfl | rfl
    ·show .inl ⟨_,rfl,by unfold Sr;decide +kernel⟩
    ·show .inl ⟨_,rfl,aau λc hc=>gL (on.len.2.2 c hc) "!"⟩
    ·show .inr ⟨_,rfl⟩
    ·show .inr ⟨_,rfl⟩
  ev:=AY oE ⟨mr.24+1,by rw[AZ CZ,ε rfl],()⟩
  lb:=λr L e=>by
   rw[AZ CZ] at e
   by_cases c:w.i=r
   ·rw[ε c] at e;cases e
    have:=h.lb w.i _ hL
    lk
   ·rw[Ψ c] at e
    have:=h.lb r L e
    lk
  lw:=λr L e=>by
   rw[AZ CZ] at e
   change L<=((m.W++[(w,[w.67])]).4:Int)
   rw[Ρ,ϯ]
   by_cases c:w.i=r
   ·rw[ε c] at e;cases e
    have:=h.lw w.i _ hL
    lk
   ·rw[Ψ c] at e
    have:=h.lw r L e
    lk }
end
end L2
namespace L2
open PySem PySem.Spec PyProof.Rows
def A6:∀l:-(-Nat),(xU l).map (yv 1)=l
 | []=>rfl
 | [_]=>rfl
 | b::c::r=>by rw[xU,ϒ,A6 (c::r)];rfl
def A7:∀{l:-(-Nat)} {b:-Nat},(xU l).89=!b->∃r,b=46::r
 | [],_,h=>by cases h
 | [x],_,h=>by cases h;show⟨_,rfl⟩
 | x::c::r,b,h=>by
  rw[xU] at h
  let ne:xU (c::r)≠[]:=λz=>by have:=congrArg be z;rw[gz] at this;cases this
  rw[List.getLast?_cons,apX.mpr (.inl (fC ne))] at h
  show A7 ((fC ne).trans h)
def FK:∀{l:-(-Nat)} {b:-Nat},b∈xU l->∃x∈l,b=46::x\/b=43::x
 | [],_,h=>by cases h
 | [x],b,h=>⟨x,Ϭ,.inl (Ζ.mp h)⟩
 | x::c::r,b,h=>by
  rw[xU] at h
  rcases Ι.mp h with rfl | h
  ·show⟨x,Ϭ,.inr rfl⟩
  ·obtain⟨y,hy,e⟩:=FK h
   show⟨y,ψ _ hy,e⟩
structure WI (X:S5)(ss:-(-Nat))(E:-gJ)(s:Nat):Prop where
 ls:X.25=vj 0 ss
 lg:Lg ss E
 lb:ss.4<=4+40 * s
 ne:ss≠[]
section
variable {X X':S5} {ss:-(-Nat)} {E es:-gJ} {s:Nat}
def Tr (e:gJ):(gJ.nm e).cps.toList.4<=8/\∀c∈(gJ.nm e).6,c < 128:=by
 let k:∀x∈["hail","put","begin","close","drop","turn"],(Κ x).cps.toList.4<=8/\∀c∈(Κ x).6,c < 128:=by decide +kernel
 cases e
 ·show k "hail" "!"
 ·show k "put" "!"
 ·show k "begin" "!"
 ·show k "close" "!"
 ·show k "drop" "!"
 ·show k "turn" "!"
def aaH {e:gJ}(h:nU e.nm e.ps):UQ (KH e):=SW h (Tr e).1 (Tr e).2
def WI.wr (h:WI X ss E s)(hX:X'.25=qT X.25 es)(hs:s<=40)(l0:es≠[])(ln:es.4<=40)(ok:∀e∈es,nU e.nm e.ps):WI X' (ss++xU (es.map KH)) (E++es) (s+1):=by
 let lb:=h.lb
 let el:(xU (es.map KH)).4=es.4:=(gz _).trans (Η _)
 let ne2:xU (es.map KH)≠[]:=λz=>l0 (jK (el.symm.trans (congrArg be z)))
 show⟨by rw[hX,h.ls,Fj];unfold qT;rw[jq,i7],⟨by rw[Ρ,el];lk,λb hb=>?_,λb hb=>?_,?_,λe he=>?_⟩,by rw[Ρ,el];lk,λz=>h.ne (List.append_eq_nil_iff.mp z).1⟩
 ·rcases Ο.mp hb with hb | hb
  ·show h.lg.sg b hb
  ·obtain⟨x,hx,e⟩:=FK hb
   obtain⟨e0,he,rfl⟩:=μ.mp hx
   obtain⟨o1,o2⟩:=aaH (ok e0 he)
   rcases e with rfl | rfl
   ·show⟨λc hc=>(Ι.mp hc).elim (λz=>by lk) (o1 c),by rw[ω];lk,46,_,rfl,.inr rfl⟩
   ·show⟨λc hc=>(Ι.mp hc).elim (λz=>by lk) (o1 c),by rw[ω];lk,43,_,rfl,.inl rfl⟩
 ·rw[List.getLast?_append,fC ne2] at hb
  show A7 ((fC ne2).trans hb)
 ·rw[Ϣ,A6,List.drop_append_of_le_length (by rw[Η];show List.length_pos_iff.mpr h.ne),h.lg.ev,Ϣ]
 ·rcases Ο.mp he with he | he
  ·show h.lg.ok e he
  ·show ok e he
def WI.len (h:WI X ss E s)(hs:s<=40):X.M.ls.4<=1700:=by
 rw[h.ls,jq]
 have:=h.lb
 lk
end
end L2
namespace L2
open PySem PySem.Spec PyProof.Rows
abbrev Kp8 (H:Hp)(A:CA)(d:DA)(cs:sH)(H':Hp)(d':DA)(VE:sH):Prop:=∀a o,H a=!o->a∉A.fx++fD A d->a∉cs.map ϝ->H' a=!o/\a∉A.fx++fD A d'/\a∉VE.map ϝ
structure Om (H0:Hp)(d0:DA)(c0:sH)(k:CK)(CD:Ν)(H:Hp)(A:CA)(d:DA)(Z:-Ν)(X:S5)(cs:sH):Prop where
 ob:l8 k CD H A d Z X cs
 kp:Kp8 H0 A d0 c0 H d cs
section
variable {k:CK} {CD:Ν} {H0 H H':Hp} {A:CA} {d0 d d':DA} {Z Z':-Ν} {X X':S5} {c0 cs VE:sH} {a:Ν} {C C':Cl} {i:Nat}
def l8.om (h:l8 k CD H A d Z X cs):Om H d cs k CD H A d Z X cs:=⟨h,λ_ _ e n1 n2=>⟨e,n1,n2⟩⟩
def Om.get (h:Om H0 d0 c0 k CD H A d Z X cs)(e:cs[i]?=!(a,C)):C.at' H a:=h.ob.get e
def Om.same (h:Om H0 d0 c0 k CD H A d Z X cs)(s:ι H H'):Om H0 d0 c0 k CD H' A d Z X cs:=⟨h.ob.same s,λa o e n1 n2=>let ⟨h1,h2,h3⟩:=h.kp a o e n1 n2;⟨s _ _ h1,h2,h3⟩⟩
def Om.pH (h:Om H0 d0 c0 k CD H A d Z X cs)(c:ϰ (A.fx++fD A d) H H')(hd:∀b∈fD A d',b∈fD A d\/H b=none)(hz:∀b∈Z,b∈Z')(ce:Hu k CD X'.t H' A d' Z' X'.M X'.m):Om H0 d0 c0 k CD H' A d' Z' X' cs:=
 ⟨h.ob.pH c hd hz ce,λa o e n1 n2=>by
  obtain⟨h1,h2,h3⟩:=h.kp a o e n1 n2
  show⟨c.keep _ _ h1 h2,λz=>?_,h3⟩
  rcases Ο.mp z with z | z
  ·show h2 (Φ _ z)
  ·rcases hd _ z with q | q
   ·show h2 (Θ _ q)
   ·show nomatch q.symm.trans h1⟩
def Om.perm (h:Om H0 d0 c0 k CD H A d Z X cs)(p:cs.Perm VE):Om H0 d0 c0 k CD H A d Z X VE:=⟨h.ob.perm p,λa o e n1 n2=>let ⟨h1,h2,h3⟩:=h.kp a o e n1 n2;⟨h1,h2,λz=>h3 ((p.map _).mem_iff.mpr z)⟩⟩
def WJ (e:cs[i]?=!(a,C)):(cs.set i (a,C')).map ϝ=cs.map ϝ:=by
 rw[Yz]
 show bg λj=>?_
 rw[ck]
 split
 ·rename_i z;subst z
  rw[Ξ,e,ε (by rw[Η];show(Α.mp e).1)];rfl
 ·rfl
def Om.set (h:Om H0 d0 c0 k CD H A d Z X cs)(e:cs[i]?=!(a,C))(c:ϰ [a] H H')(n:C'.at' H' a):Om H0 d0 c0 k CD H' A d Z X (cs.set i (a,C')):=
 ⟨h.ob.set e c n,λb o eb n1 n2=>by
  obtain⟨h1,h2,h3⟩:=h.kp b o eb n1 n2
  show⟨c.keep _ _ h1 λz=>h3 (Ζ.mp z▸μ.mpr ⟨_,Β e,rfl⟩),h2,by rw[WJ e];show h3⟩⟩
def Om.new (h:Om H0 d0 c0 k CD H A d Z X cs)(s:ι H H')(e:H a=none)(n:C.at' H' a):Om H0 d0 c0 k CD H' A d (a::Z) X ((a,C)::cs):=
 ⟨h.ob.new s e n,λb o eb n1 n2=>by
  obtain⟨h1,h2,h3⟩:=h.kp b o eb n1 n2
  show⟨s _ _ h1,h2,λz=>?_⟩
  rcases Ι.mp z with z | z
  ·let z:b=a:=z
   subst z;show nomatch e.symm.trans h1
  ·show h3 z⟩
end
section
variable {N:KN} {n:-Nat} {x y v:Int} {ss ts:-Ν} {p:Ν}
def D2.gg (hn:n=N.n0\/n=N.n1)(ne:N.n0≠N.n1):a8 (D2 N x y) (.inr (S n))=!(.int (if N.n0=n then x else y)):=by
 rcases hn with rfl | rfl
 ·rw[ε rfl];show D2.g0
 ·rw[Ψ ne];show D2.g1 ne
def D2.pp (hn:n=N.n0\/n=N.n1)(ne:N.n0≠N.n1):putK (D2 N x y) (.inr (S n)) (.int v)=D2 N (if N.n0=n then v else x) (if N.n1=n then v else y):=by
 rcases hn with rfl | rfl
 ·rw[ε rfl,Ψ ne.17];show D2.p0 ne
 ·rw[ε rfl,Ψ ne];show D2.p1 ne
def Ts {l:-(Int×Int)}(h:x∉l.map ϝ):putK (uV l) (.inl x) (.int v)=uV (l++[(x,v)]):=by
 rw[nV (by rw[FH];simpa using h)]
 unfold uV
 rw[Ϣ];rfl
def Tt:putK (KQ ss) (.inl ((ss.4:Int)+1)) (.ref p)=KQ (ss++[p]):=by
 rw[nV λh=>?_]
 ·unfold KQ
  rw[Ρ,ϯ,zM,ku ∅];rfl
 ·obtain⟨y,hy,e⟩:=μ.mp h
  unfold KQ at hy
  obtain⟨j,hj⟩:=ϛ hy
  rw[϶] at hj
  by_cases c:j < ss.4
  ·rw[kt c,Ε c] at hj
   cases hj
   have:=hV e
   lk
  ·rw[fQ (l:=aU ss.4) (by simpa using zk c)] at hj
   cases hj
def Tu {W:-(Wt×-(-V))}{w:Wt×-(-V)}(lt:ts.4=W.4)(h:w.1.sp∉W.map λw=>w.1.sp):putK (CB W ts) w.1.85 (.ref p)=CB (W++[w]) (ts++[p]):=by
 rw[RU _ (MO λq=>?_)]
 ·unfold CB
  rw[ku lt.17];rfl
 ·have:(CB W ts).map (·.1)=W.map λw=>w.1.85:=by
   show bg λi=>?_
   unfold CB
   rw[Ξ,Ξ,϶]
   cases h:W[i]? with
   | none=>rfl
   | some w=>
    have:=(Α.mp h).1
    rw[Ε (show i < ts.4 by lk)];rfl
  rw[this] at q
  obtain⟨w',jZ,e⟩:=μ.mp q
  show h (μ.mpr ⟨w',jZ,Tn e⟩)
end
structure WK (k:CK)(CD:Ν)(H:Hp)(A:CA)(d:DA)(Z:-Ν)(X:S5)(r:KB)(N:KN)(m:KR)(ts ss:-Ν)(bs:-(-Nat))(E:-gJ)(s:Nat):Prop where
 ob:l8 k CD H A d Z X (bD r N m ts ss)
 nk:HP N
 pu:Pu X N m E s
 li:WI X bs E s
 lt:ts.4=m.W.4
 ls:ss.4=m.sp.4
abbrev WL (k:CK)(CD:Ν)(H:Hp)(A:CA)(d:DA)(r:KB)(N:KN)(m:KR)(ts ss:-Ν)(s:Nat)(R:Hp->Prop):Prop:=
 ∀H' d' Z' X' m' ts' ss' bs' E',WK k CD H' A d' Z' X' r N m' ts' ss' bs' E' (s+1)->Kp8 H A d (bD r N m ts ss) H' d' (bD r N m' ts' ss')->R H'
section
variable {H0 H:Hp} {d0 d:DA} {c0:sH} {k:CK} {CD:Ν} {A:CA} {Z:-Ν} {X:S5} {r:KB} {N:KN} {m:KR} {ts ss:-Ν} {p:Ν} {E:-gJ} {s:Nat} {n:-Nat}
def Om.gk {x:String}{v:V}(h:Om H0 d0 c0 k CD H A d Z X (bD r N m ts ss))(e:a8 (sI r m.t) (.inr (Κ x))=!v):bH H r.kd (.str (Κ x)) (!v):=e▸bH.k (k:=.inr (Κ x)) (h.get (i:=0) rfl)
def Pu.sd (h:Pu X N m E s)(hn:n=N.n0\/n=N.n1)(ne:N.n0≠N.n1):Sd X n (if N.n0=n then m.l0 else m.l1) (if N.n0=n then m.a0 else m.a1) (if N.n0=n then m.b0 else m.b1) s:=by
 rcases hn with rfl | rfl
 ·rw[ε rfl,ε rfl,ε rfl];show h.s0
 ·rw[Ψ ne,Ψ ne,Ψ ne];show h.s1
def Om.aie (h:Om H0 d0 c0 k CD H A d Z X (((p,.t [])::bD r N m ts ss).set 10 (r.sd,.o (.dK (KQ (ss++[p]))))))(ls:ss.4=m.sp.4):Om H0 d0 c0 k CD H A d Z X (bD r N { m with sp:=m.sp++[[]] } ts (ss++[p])):=by
 show h.perm ?_
 show((p,Cl.t [])::(gF r N { m with sp:=m.sp++[[]] } ts (ss++[p])++(jC m ts++nZ m ss))).Perm (gF r N { m with sp:=m.sp++[[]] } ts (ss++[p])++(jC m ts++nZ { m with sp:=m.sp++[[]] } (ss++[p])))
 let e:nZ { m with sp:=m.sp++[[]] } (ss++[p])=nZ m ss++[(p,Cl.t [])]:=by
  unfold nZ
  show ku ls.17
 rw[e,<-cg (jC m ts),<-cg (gF _ _ _ _ _)]
 show(List.perm_append_singleton _ _).17
end
end L2
namespace L2
open PySem PySem.Spec PyProof.Rows
def ael (c k:Int):0<=ef c k/\ef c k < 2147483647:=⟨kx _ "!",iz _ "!"⟩
def Tv {α:Type}[DecidableEq α]:∀{l r:-α},l.13->(∀x∈l,x∈r)->l.4<=r.4
 | [],_,_,_=>Ϝ _
 | x::l,r,nd,h=>by
  let n:=Ϛ.mp nd
  let hx:=h x Ϭ
  have:=Tv (l:=l) (r:=r.erase x) n.2 λy hy=>(List.mem_erase_of_ne λz=>n.1 (by rw[<-z];show hy)).mpr (h y (ψ _ hy))
  rw[List.length_erase_of_mem hx] at this
  have:=List.length_pos_of_mem hx
  rw[ω]
  lk
def HP.on {N:KN}{n:-Nat}(h:HP N)(hn:n=N.n0\/n=N.n1):dj n:=by
 rcases hn with rfl | rfl
 ·show h.o0
 ·show h.o1
def Pu.lsn {X:S5}{N:KN}{m:KR}{E:-gJ}{s:Nat}{L:-(-Nat)}(h:Pu X N m E s):Pu ⟨X.t,{ X.M with ls:=L },X.m⟩ N m E s:={ h with
 inv:=⟨h.78,h.inv.26,h.inv.sp⟩
 s0:=⟨h.s0.fl,h.s0.lb,h.s0.fa,h.s0.ab,h.s0.fb⟩
 s1:=⟨h.s1.fl,h.s1.lb,h.s1.fa,h.s1.ab,h.s1.fb⟩
 ev:=λe he=>by have:=h.ev e he;cases e<;>show this }
abbrev Ph (k:CK)(CD:Ν):Sp:=aR λc=>aR λkd=>aT λn=>aK λtu=>aN λH Q _=>∃A d Z X r N m ts ss bs E s,c=A.c/\kd=r.kd/\WK k CD H A d Z X r N m ts ss bs E s/\s<=31/\(n=N.n0\/n=N.n1)/\(if N.n0=n then m.b0 else m.b1)=0/\1<=tu/\tu<=9/\WL k CD H A d r N m ts ss s (Q .bM)
abbrev WM (k:CK)(CD:Ν):Sp:=aR λc=>aR λkd=>aT λn=>aI λ_=>aN λH Q _=>∃A d Z X r N m ts ss bs E s,c=A.c/\kd=r.kd/\WK k CD H A d Z X r N m ts ss bs E s/\s<=31/\(n=N.n0\/n=N.n1)/\WL k CD H A d r N m ts ss s (Q .bM)
section
variable {X:S5} {N:KN} {m:KR} {E:-gJ} {s:Nat} {n:-Nat}
def Pu.aif (h:Pu X N m E s)(hn:n=N.n0\/n=N.n1)(ne:N.n0≠N.n1){c:Int}(hc:c=0\/c=1):∃dd:Nat,(if N.n0=n then m.b0 else m.b1) * c=(dd:Int)/\(dd=0\/∃j e x,dd=j+1/\X.m.M.B (S n)=!(dd:Int)/\X.15[j]?=!x/\x.2.2=aH/\X.54[j]?=!e):=by
 let fb:=(h.sd hn ne).fb
 rcases hc with rfl | rfl
 ·show⟨0,by rw[Int.mul_zero];rfl,.inl rfl⟩
 ·cases k:X.m.M.B (S n) with
  | none=>rw[k] at fb;show⟨0,by rw[<-fb];rfl,.inl rfl⟩
  | some v=>
   rw[k] at fb
   obtain⟨j,e,h1,h2⟩:=h.inv.op.a _ _ k
   obtain⟨xe,he⟩:=h.inv.O3 h2
   show⟨j+1,by rw[<-fb,ab9];show h1,.inr ⟨j,xe,_,rfl,by rw[h1];rfl,h2,rfl,he⟩⟩
def Pu.row (h:Pu X N m E s)(nk:HP N){j:Nat}(hj:j < 2)(key:-Nat):∃x,N.xs[j]?=!x/\Mz x/\∃mr,X.48[vi X.M.xs j x key]?=!mr:=by
 let x2:=nk.x2
 let hx:N.xs[j]?=!N.xs[j]'():=Ε _
 generalize N.xs[j]'_=x at hx
 let ok:=nk.ox.each x (Β hx)
 show⟨x,hx,ok,?_⟩
 let lt:vi X.M.xs j x key < X.M.Ms.4:=by
  rw[h.rw,h.xs]
  unfold vi
  let h2:=iz (Ka key) (show(0:Int) < x.42 by have:=ok.2.1;lk)
  let h3:=kx (Ka key) (show(x.42:Int)≠0 by have:=ok.2.1;lk)
  let s1:aG N.xs (j+1)=aG N.xs j+x.42:=ki hx
  have:aG N.xs (j+1)<=aG N.xs 2:=by
   match j,hj with
   | 0,_=>
    let FL:N.xs[1]?=!N.xs[1]'():=Ε _
    let e:aG N.xs 2=aG N.xs 1+_:=ki FL
    change aG N.xs 1<=aG N.xs 2
    lk
   | 1,_=>show ξ _
  lk
 show⟨_,Ε lt⟩
def Pu.fresh (h:Pu X N m E s){w:Wt}(hL:la X w.i=!(w.pl:Int)):w.sp∉m.W.map λw=>w.1.sp:=λq=>by
 obtain⟨w',jZ,e⟩:=μ.mp q
 obtain⟨L,h1,h2⟩:=h.wb w' jZ
 let e1:w'.1.i=w.i:=by have:=congrArg ϝ e;show Ng this
 rw[e1,hL] at h1
 cases h1
 have:(w'.1.pl:Int)=w.pl:=congrArg jJ e
 lk
end
section
variable {H0 H:Hp} {d0 d:DA} {c0:sH} {k:CK} {CD:Ν} {A:CA} {Z:-Ν} {X:S5} {r:KB} {N:KN} {m:KR} {ts ss:-Ν} {p:Ν} {w:Wt×-(-V)}
def Om.aig (h:Om H0 d0 c0 k CD H A d Z X ((((p,.t w.2)::bD r N m ts ss).set 4 (r.td,.o (.dT (CB (m.W++[w]) (ts++[p]))))).set 5 (r.od,.t ((m.W++[w]).map λw=>mV w.1.sp))))(lt:ts.4=m.W.4):Om H0 d0 c0 k CD H A d Z X (bD r N { m with W:=m.W++[w] } (ts++[p]) ss):=by
 show h.perm ?_
 show((p,Cl.t w.2)::(gF r N { m with W:=m.W++[w] } (ts++[p]) ss++(jC m ts++nZ m ss))).Perm (gF r N { m with W:=m.W++[w] } (ts++[p]) ss++(jC { m with W:=m.W++[w] } (ts++[p])++nZ m ss))
 let e:jC { m with W:=m.W++[w] } (ts++[p])=jC m ts++[(p,Cl.t w.2)]:=by
  unfold jC
  show ku lt.17
 rw[e,cg,<-cg,<-cg (gF _ _ _ _ _)]
 show List.perm_middle.symm
end
end L2
namespace L2
open PySem PySem.Spec PyProof.Rows
abbrev Tw (k:CK)(CD:Ν):Sp:=aR λc=>aR λkd=>aI λ_=>aN λH Q _=>∃A d Z X r N m ts ss bs E s,c=A.c/\kd=r.kd/\WK k CD H A d Z X r N m ts ss bs E s/\s<=31/\WL k CD H A d r N m ts ss s (Q .bM)
def Pi {p q U W:Prop}[Decidable p][Decidable q](hw:W)(hu:p->q->U):if p then(if q then U else W) else W:=by
 split
 ·split
  ·show hu ‹_› ‹_›
  ·show hw
 ·show hw
section
variable {k:CK} {CD:Ν} {H0 H H':Hp} {A:CA} {d0 d d':DA} {Z Z':-Ν} {c0:sH} {X X':S5} {r:KB} {N:KN} {m:KR} {ts ss:-Ν} {bs:-(-Nat)} {E:-gJ} {s j:Nat} {x:Dd} {F z:Str} {ev:gJ} {Ms':-eX} {R:Hp->Prop} {dn:Int}
def A8:(iw m dn z).W.4=m.W.4:=by
 show(if _ then _ else _:-(Wt×-(-V))).4=_
 split
 ·show mC
 ·rfl
def Om.ended (h:Om H0 d0 c0 k CD H A d Z X (bD r N m ts ss))(o:l8 k CD H' A d Z X (bD r N (iw m dn z) ts ss))(c:ϰ ((bD r N m ts ss).map ϝ) H H'):Om H0 d0 c0 k CD H' A d Z X (bD r N (iw m dn z) ts ss):=
 ⟨o,λa o e n1 n2=>by
  obtain⟨h1,h2,h3⟩:=h.kp a o e n1 n2
  show⟨c.keep _ _ h1 h3,h2,by rw[vx (m:=m) A8 rfl];show h3⟩⟩
def Pu.aem (h:Pu X N m E s):iw m 0 z=m:=by
 let n0:(0:Int)∉m.ed.map ϝ:=λq=>by
  rw[h.ed] at q
  obtain⟨y,hy,e⟩:=μ.mp q
  obtain⟨j,_,_,_,e2⟩:=wY hy
  rw[e2] at e
  let e:((0+j:Nat):Int)+1=0:=e
  lk
 let e:∀b:Int,(if b=0 then 0 else b)=b:=λb=>by split<;>lk
 unfold iw
 rw[AX n0,Ψ n0,e,e]
def WK.fin (h:WK k CD H A d Z X r N m ts ss bs E s)(hs:s<=31)(hx:X.15[j]?=!x)(ho:x.2.2=aH)(hM:Ms'.length=X.M.Ms.4)(hL:∀r:Nat,Ms'[r]?.map eX.last=X.48[r]?.map eX.last)(hF:F≠aH)(tM:ev=.close (j+1)/\z="closed" \/ ev=.drop (j+1)/\z="dropped")
  (q:WL k CD H A d r N m ts ss s R) (o:Om H d (bD r N m ts ss) k CD H' A d' Z' ⟨X.t,{ X.M with Ms:=Ms',ls:=qT X.25 [ev] },X.m.finish j x F⟩ (bD r N (iw m ((j:Int)+1) z) ts ss)):R H':=by
 let jl:=(Α.mp hx).1
 have:=h.95
 let ok:nU ev.nm ev.ps:=by rcases tM with⟨rfl,_⟩ | ⟨rfl,_⟩<;>show eZ ()
 show q _ _ _ _ _ _ _ _ _ ⟨o.ob,h.nk,((h.pu.fin hx ho hM hL hF tM).lsn (L:=qT X.25 [ev])).mono (gD s),h.li.wr (es:=[ev]) rfl () ∅ ∅ (λe he=>by rw[Ζ.mp he];show ok),h.lt.trans A8.symm,h.ls⟩ o.kp
end
end L2
namespace L2
open PySem PySem.Spec PyProof.Rows
section
variable {X:S5} {r:KB} {N:KN} {m:KR} {E:-gJ} {s:Nat} {z:Str}
def Pu.FD:∀{js:-Nat} {X:S5} {m:KR} {E:-gJ},Pu X N m E s->js.13->(∀j∈js,∃x,X.15[j]?=!x/\x.2.2=aH)->Pu (FD X js) N (js.foldl (λm (j:Nat)=>iw m ((j:Int)+1) (Κ "dropped")) m) (E++js.map λ(j:Nat)=>.drop (j+1)) s
 | [],X,m,E,h,_,_=>by rw[wt,cV];show h
 | a::js,X,m,E,h,nd,ho=>by
  obtain⟨x,hx,o⟩:=ho a Ϭ
  obtain⟨xe,he⟩:=h.inv.O3 hx
  let n1:=Ϛ.mp nd
  let h1:=h.fin (ev:=.drop (a+1)) hx o (r8 X.48 xe.1) (λ_=>zI) oY (.inr ⟨rfl,rfl⟩)
  rw[<-FE hx he] at h1
  have:=Pu.FD h1 n1.2 λj hj=>by
   obtain⟨y,h2,h3⟩:=ho j (ψ _ hj)
   show⟨y,by rw[Tc h.inv hx λz=>n1.1 (by rw[z];show hj)];show h2,h3⟩
  rw[cg] at this
  show this
abbrev vy (L:-(Int×Int))(m:KR):KR:=L.foldl (λm u=>iw m u.1 (Κ "dropped")) m
def MV {y:Int×Int}:∀{L:-(Int×Int)} {m:KR},y∈m.ed->y.1∉L.map ϝ->y∈(vy L m).ed
 | [],_,h,_=>h
 | u::L,m,h,n=>by
  rw[ϒ,Ι,yr] at n
  show MV (L:=L) (m:=iw m u.1 (Κ "dropped")) (cT.mpr ⟨h,ϱ n.1⟩) n.2
def Tx:∀{L:-(Int×Int)} {m:KR},(vy L m).t=m.t
 | [],_=>rfl
 | u::L,m=>Tx (L:=L) (m:=iw m u.1 (Κ "dropped"))
def Pj {L:-(Int×Int)}{u:Int×Int}:vy (L++[u]) m=iw (vy L m) u.1 (Κ "dropped"):=by
 unfold vy
 rw[nv];rfl
def Tz (h:Pu X N m E s){t:Nat}{m0:KR}:vy (m.ed.filter λy=>decide (y.2<=(t:Int))) m0=(pK X t).foldl (λm (j:Nat)=>iw m ((j:Int)+1) (Κ "dropped")) m0:=by
 let e:(m.ed.filter λy=>decide (y.2<=(t:Int))).map ϝ=(pK X t).map λ(j:Nat)=>(j:Int)+1:=by
  rw[h.ed,MU]
  show df λi _=>by rw[i7]
 let e2:∀(L:-(Int×Int)) (m0:KR),vy L m0=(L.map ϝ).foldl (λm d=>iw m d (Κ "dropped")) m0:=λL m0=>by
  unfold vy;rw[U']
 rw[e2,e,U']
def aaI {r:KB}{t t':Int}:putK (sI r t) (.inr (Κ "turn")) (.int t')=sI r t':=by rfl
def HR {t:Nat}{j:Nat}(h:j∈pK X t):∃x,X.15[j]?=!x/\x.2.2=aH:=by
 have:=(cT.mp h).2
 unfold odd at this
 cases e:X.15[j]? with
 | none=>rw[e] at this;cases this
 | some x=>
  rw[e] at this
  simp only[bd,dP] at this
  show⟨x,rfl,this.1⟩
def TB {t:Nat}:(pK X t).13:=zm _ yu
def Pk (h:Pu X N m E s){t:Nat}:(pK X t).4<=s:=by
 have:=cw (odd X.m.M (t:Int)) (aU X.m.M.ds.4)
 rw[d5] at this
 show ϊ this h.dl
end
end L2
namespace L2
open PySem PySem.Spec PyProof.Rows
abbrev HS (k:CK):Sp:=aR λx=>aR λp=>aN λH Q _=>∃dx xs,H x=!.ins k.C dx []/\bb H p (xs.map l6.v)/\iF xs/\xs.4<=3/\
 ∀A Z H' ls,A.c=x->(∀b∈A.fix,b=x\/H b=none)->ϰ [x] H H'->qS k H' A Z ⟨xs,dH (aG xs xs.4) Fb,xV,ls⟩->(∃b,UQ b/\ls=[]++vj 0 (xU [b]))->Q .bM H'
abbrev HU (k:CK)(CD:Ν):Sp:=aR λc=>aN λH Q _=>∃(A:CA) (d:DA) (Z:-Ν) (X:S5),c=A.c/\Hu k CD X.t H A d Z X.M X.m/\∀D H',H D=none->ι H H'->H' D=!.lst (tx X.25)->Q (.ref D) H'
end L2
namespace L2
open PySem PySem.Spec PyProof.Rows
section
variable {k:CK} {CD:Ν} {H H':Hp} {A:CA} {Z:-Ν} {r:KB} {N:KN} {xs:-l6} {ls:-(-Nat)} {Ms:-eX}
abbrev UT (r:KB)(N:KN):sH:=(bD r N m08 [] []).set 6 (r.ld,.o (.dK []))
def sf:(UT r N).map ϝ=r.all:=rfl
def Cl.at'.same {c:Cl}{a:Ν}(h:c.at' H a)(s:ι H H'):c.at' H' a:=h.bO (B:=[]) (ϰ.of_same s) ∅
def l8.start (C:qS k H' A Z ⟨xs,Ms,xV,ls⟩)(hc:∀c∈UT r N,c.2.at' H' c.1)(nd:r.all.13)(hA:∀b∈A.fx++fD A MJ,b∉r.all) :
  l8 k CD H' A MJ (r.all++Z) ⟨0,⟨xs,Ms,xV,ls⟩,dm0⟩ (UT r N):=by
 show⟨(C.ah2 (λ_=>rfl) r.all λb hb=>?_).toD,hc,by rw[sf];show nd,λc h z=>hA _ z ?_,λc h=>Φ _ ?_⟩
 ·rw[<-sf (N:=N)] at hb
  obtain⟨c,h,rfl⟩:=μ.mp hb
  show(hc c h).77
 ·rw[<-sf (N:=N)];show μ.mpr ⟨c,h,rfl⟩
 ·rw[<-sf (N:=N)];show μ.mpr ⟨c,h,rfl⟩
def WI.start {X:S5}{b:-Nat}(hb:UQ b)(h:X.25=vj 0 (xU [b])):WI X (xU [b]) [] 0:=by
 show⟨h,⟨by rw[gz];change 1<=5000;decide,λx hx=>?_,λx hx=>A7 hx,by rw[A6];rfl,λe he=>absurd he Μ⟩,by rw[gz];change 1<=4+40 * 0;decide,λz=>by cases z⟩
 obtain⟨y,hy,e⟩:=FK hx
 rw[Ζ.mp hy] at e
 obtain⟨o1,o2⟩:=hb
 rcases e with rfl | rfl
 ·show⟨λc hc=>(Ι.mp hc).elim (λz=>by lk) (o1 c),by rw[ω];lk,46,_,rfl,.inr rfl⟩
 ·show⟨λc hc=>(Ι.mp hc).elim (λz=>by lk) (o1 c),by rw[ω];lk,43,_,rfl,.inl rfl⟩
def Pu.start (nk:HP N)(hx:Ms=dH (aG N.xs N.xs.4) Fb):Pu ⟨0,CM.cr (CM.cr ⟨N.xs,Ms,xV,ls⟩ (S N.n0)) (S N.n1),dm0⟩ N { m08 with l0:=1,l1:=1 } [.cr N.n0 1,.cr N.n1 1] 2:=by
 let ne:¬S N.n0=S N.n1:=λz=>nk.ne (nO z)
 let la0:∀(q:Nat) L,(Ms[q]?.map eX.last)=!L->L=0:=λq L e=>by
  obtain⟨mr,h1,h2⟩:=χ.mp e
  rw[hx] at h1
  have:=(Nh.mp (Β h1)).2
  rw[<-h2,this];rfl
 show {
  inv:=⟨⟨λz n h=>(nomatch h),λi x h=>(nomatch h)⟩,rfl,λe he=>absurd he Μ⟩
  xs:=rfl
  rw:=by show Ms.4=_;rw[hx,dI,nk.x2]
  tt:=⟨0,rfl,rfl,Ϝ _⟩
  s0:=⟨by show(if S N.n0=S N.n1 then _ else if S N.n0=S N.n0 then some _ else none)=some 1;rw[Ψ ne,ε rfl];rfl,by show(1:Int)<=1/\(1:Int)<=1+2;lk,by show(if S N.n0=S N.n1 then _ else if S N.n0=S N.n0 then(if _ then 0 else 0) else(0:Int))=0;rw[Ψ ne,ε rfl];rfl,by show(0:Int)<=0/\(0:Int)<=2;lk,rfl⟩
  s1:=⟨by show(if S N.n1=S N.n1 then some ((if S N.n1=S N.n0 then some _ else none).getD 0+1) else _)=some 1;rw[ε rfl,Ψ (ό ne)];rfl,by show(1:Int)<=1/\(1:Int)<=1+2;lk,by
   show(if S N.n1=S N.n1 then(if _ then 0 else(if S N.n1=S N.n0 then(if _ then 0 else 0) else(0:Int))) else _)=(0:Int)
   rw[ε rfl,Ψ (ό ne)];split<;>rfl,by show(0:Int)<=0/\(0:Int)<=2;lk,rfl⟩
  sz:=by show 0+1+1<=3+2;lk
  dz:=by show 0<=2;lk
  dl:=by show 0<=2;lk
  e1:=λe he=>absurd he Μ
  ed:=rfl
  sp:=rfl
  Tq:=λj l h=>(nomatch h)
  hk:=λw hw=>absurd hw Μ
  dw:=λw hw=>absurd hw Μ
  wl:=by show 0<=2;lk
  QY:=gw
  wb:=λw hw=>absurd hw Μ
  tl:=λw hw=>absurd hw Μ
  tb:=λw hw=>absurd hw Μ
  tp:=λw hw=>absurd hw Μ
  ev:=λe he=>by
   rcases Ι.mp he with rfl | he
   ·trivial
   ·rw[Ζ.mp he];trivial
  lb:=λq L e=>by have:=la0 q L e;subst this;show(0:Int)<=0/\(0:Int)<=2;lk
  lw:=λq L e=>by have:=la0 q L e;subst this;show Int.le_refl _ }
def WN {X:S5}{m:KR}{E:-gJ}{s:Nat}(h:Pu X N m E s):x6 E 0 (m.W.4:Int)=[]:=by
 have:E.find? (MM 0 (m.W.4:Int))=none:=uX.mpr λe he=>by
  let o:=h.ev e he
  cases e with
  | put n kk d r p _ _=>
   obtain⟨L,h1,h2⟩:=o
   have:=h.lw r L h1
   change ¬decide ((r:Int)=0/\(p:Int)=m.W.4)=true
   simp only[dP]
   lk
  | _=>show ώ
 unfold x6
 rw[this]
def WO {X:S5}{m:KR}{E:-gJ}{s:Nat}(h:Pu X N m E s){w:Wt×-(-V)}(hw:w∈m.W):x6 E (w.1.i:Int) (w.1.pl:Int)=w.2:=by
 obtain⟨⟨key,wo,h1⟩,h2⟩:=h.tl w hw
 unfold x6
 rw[h1]
 show h2
def l8.off {d:DA}{X:S5}{cs:sH}{a:Ν}(h:l8 k CD H A d Z X cs)(e:H a=none):a∉A.fx++fD A d/\a∉cs.map ϝ:=⟨h.ce.MF e,λz=>by
 obtain⟨c,hc,rfl⟩:=μ.mp z
 obtain⟨o,q⟩:=(h.kp c hc).77
 rw[e] at q;cases q⟩
def fK.keep {K:ζ}{a:Ν}{xs:-V}(h:fK K H a xs)(k:∀o,H a=!o->H' a=!o):fK K H' a xs:=by
 rcases h with(h | ⟨o,h⟩) | h
 ·show .inl (.inl (k _ h))
 ·show .inl (.inr ⟨o,k _ h⟩)
 ·show .inr h
def aaJ {w m c:Nat}(h:c∈zf w m):c < 128:=by
 unfold zf at h
 rcases Ο.mp h with h | h
 ·have:=(Nh.mp h).2;lk
 ·have:=qN m c h;lk
def MW:∀{n:Nat} {ss:-(-Nat)},(∀b∈ss,∀c∈b,c < 128)->∀a∈vj n ss,Sr a
 | _,[],_,_,ha=>nomatch ha
 | n,b::ss,h,a,ha=>by
  rcases Ι.mp ha with rfl | ha
  ·intro c hc
   show gL (m:=128) ?_ "!"
   unfold tI XU pfL at hc
   simp only[Ο,Ζ] at hc
   rcases hc with((((hc | rfl) | hc) | rfl) | hc | rfl) | hc
   ·show aaJ hc
   ·decide
   ·show aaJ hc
   ·decide
   ·show aaJ hc
   ·decide
   ·show h b Ϭ c hc
  ·show MW (λx hx=>h x (ψ _ hx)) a ha
def wZ {K:ζ}{H:Hp}:∀l:-(-Nat),uj K H (tx l) (l.map λa=>apY (S a))
 | []=>.nil
 | a::r=>.cons (.str (S a)) (wZ r)
end
end L2
namespace K81
open PySem PySem.Spec PyProof.Rows L2
abbrev top (i : Nat) : ϩ := PySem.Challenge.pw_lettercell_k81_tales_of_deeds.main.body.getD i (.Pass ⟨0, 0, 0, 0⟩)
theorem A9 : ϩ := top 24
def KY : ρ ["text"] ["text"] (Υ A9) := s!"f"
theorem vz : ϩ := top 25
def o9 : ρ ["text", "pieces", "plain", "piece"] ["text"] (Υ vz) := s!"f"
theorem w4 : ϩ := top 26
def abN : ρ ["fields"] ["fields"] (Υ w4) := s!"f"
theorem w6 : ϩ := top 27
def abO : ρ ["text"] ["text"] (Υ w6) := s!"f"
theorem Eg : ϩ := top 28
def w8 : ρ ["text", "c", "sign"] ["text"] (Υ Eg) := s!"f"
theorem A' : ϩ := top 29
def KZ : ρ ["number", "body", "figures"] ["number", "body"] (Υ A') := s!"f"
theorem Ba : ϩ := top 30
def K1 : ρ ["number", "line", "body"] ["number", "line"] (Υ Ba) := s!"f"
theorem n4 : ϩ := inClass (top 32) 0
def Pl : ρ ["self"] ["self"] (Υ n4) := s!"f"
theorem tP : ϩ := inClass (top 32) 1
def jr : ρ ["self", "bodies", "last", "k", "body", "sign"] ["self", "bodies"] (Υ tP) := s!"f"
theorem vA : ϩ := inClass (top 32) 2
def WP : ρ ["self"] ["self"] (Υ vA) := s!"f"
theorem qV : ϩ := top 33
def Bb : ρ ["number", "line", "body"] ["number", "line"] (Υ qV) := s!"f"
theorem qW : ϩ := top 34
def kQ : ρ ["lines", "bodies", "number", "line"] ["lines"] (Υ qW) := s!"f"
theorem Bc : ϩ := top 35
def ie : ρ ["lines", "acts", "act", "many", "number", "body"] ["lines"] (Υ Bc) := s!"f"
theorem vB : ϩ := top 39
def WQ : ρ ["word"] ["word"] (Υ vB) := s!"f"
theorem Bd : ϩ := top 40
def aaK : ρ ["text"] ["text"] (Υ Bd) := s!"f"
theorem C0 : ϩ := top 41
theorem HV : ϩ := top 42
theorem Be : ϩ := top 43
def aaL : ρ ["part", "value"] ["part", "value"] (Υ Be) := s!"f"
theorem x8 : ϩ := top 44
def Ya : ρ ["part", "text"] ["part", "text"] (Υ x8) := s!"f"
theorem x9 : ϩ := top 45
def qX : ρ ["name", "values", "event", "part", "value"] ["name", "values"] (Υ x9) := s!"f"
theorem qY : ϩ := top 46
def HW : ρ ["event", "name"] ["event"] (Υ qY) := s!"f"
theorem qZ : ϩ := top 47
def ya : ρ ["body", "texts", "name"] ["body"] (Υ qZ) := s!"f"
theorem j1 : ϩ := top 48
def eP : ρ ["shelves", "texts", "name", "many", "kind"] ["shelves"] (Υ j1) := s!"f"
theorem pL : ϩ := top 49
def QZ : ρ ["state", "event"] ["state", "event"] (Υ pL) := s!"f"
theorem rc : ϩ := top 50
def re : ρ ["state", "event", "row", "place"] ["state", "event"] (Υ rc) := s!"f"
theorem n5 : ϩ := top 51
def Pm : ρ ["state", "event"] ["state", "event"] (Υ n5) := s!"f"
theorem n6 : ϩ := top 53
def Pn : ρ ["state", "event"] ["state", "event"] (Υ n6) := s!"f"
theorem pM : ϩ := top 54
def pN : ρ ["state", "event", "row", "place"] ["state", "event"] (Υ pM) := s!"f"
theorem pO : ϩ := top 63
def Q0 : ρ ["state", "event"] ["state", "event"] (Υ pO) := s!"f"
theorem τ : ϩ := top 71
def Po : ρ ["state", "event", "happening"] ["state", "event"] (Υ τ) := s!"f"
theorem pe : ϩ := top 73
def vC : ρ ["lines", "bodies", "act"] ["lines"] (Υ pe) := s!"f"
theorem HX : ϩ := top 74
def aen : ρ ["event", "row", "place"] ["event", "row", "place"] (Υ HX) := s!"f"
theorem Eh : ϩ := top 75
def Pp : ρ ["events", "row", "place", "event"] ["events", "row", "place"] (Υ Eh) := s!"f"
theorem n8 : ϩ := top 76
def w9 : ρ ["event", "name"] ["event"] (Υ n8) := s!"f"
theorem Bf : ϩ := top 77
def K2 : ρ ["event", "put", "stands", "name"] ["event", "put", "stands"] (Υ Bf) := s!"f"
theorem MX : ϩ := top 78
def pi : ρ ["lines", "row", "place", "events", "put", "told", "stands", "event", "part"] ["lines", "row", "place"] (Υ MX) := s!"f"
theorem Bg : ϩ := top 87
def aaM : ρ ["thing", "least", "most"] ["thing", "least", "most"] (Υ Bg) := s!"f"
theorem Bh : ϩ := top 88
def aaN : ρ ["sign"] ["sign"] (Υ Bh) := s!"f"
theorem uy : ϩ := top 89
def aaO : ρ ["thing"] ["thing"] (Υ uy) := s!"f"
theorem xa : ϩ := top 90
def abP : ρ ["thing"] ["thing"] (Υ xa) := s!"f"
theorem uz : ϩ := top 91
def aaP : ρ ["thing"] ["thing"] (Υ uz) := s!"f"
theorem yb : ϩ := top 92
def Yb : ρ ["thing", "low", "high"] ["thing", "low", "high"] (Υ yb) := s!"f"
theorem br : ϩ := top 93
def xb : ρ ["key", "h", "sign"] ["key"] (Υ br) := s!"f"
theorem Ei : ϩ := top 94
def abQ : ρ ["key", "many"] ["key", "many"] (Υ Ei) := s!"f"
theorem kR : ϩ := top 101
def TC : ρ ["names"] ["names"] (Υ kR) := s!"f"
theorem jQ : ϩ := top 102
def Q1 : ρ ["bounded"] ["bounded"] (Υ jQ) := s!"f"
theorem pP : ϩ := top 103
def Q2 : ρ ["key", "word"] ["key", "word"] (Υ pP) := s!"f"
theorem pQ : ϩ := top 110
def Q3 : ρ ["state", "sender", "life"] ["state", "sender", "life"] (Υ pQ) := s!"f"
theorem yc : ϩ := top 112
def rf : ρ ["state", "sender", "events", "deed", "life"] ["state", "sender"] (Υ yc) := s!"f"
theorem Bj : ϩ := top 113
def uA : ρ ["state", "sender", "life", "number", "shelf", "letter", "deed", "row", "known", "place"] ["state", "sender", "life", "number", "shelf", "letter", "deed"] (Υ Bj) := s!"f"
theorem vD : ϩ := top 114
def FN : ρ ["state", "sender", "life", "turns", "deed"] ["state", "sender", "life", "turns"] (Υ vD) := s!"f"
theorem vE : ϩ := top 116
def iI : ρ ["state", "sender", "life", "deed", "events", "group", "row", "loan", "place"] ["state", "sender", "life"] (Υ vE) := s!"f"
theorem yf : ϩ := top 117
def HY : ρ ["state", "sender", "life", "deed"] ["state", "sender", "life"] (Υ yf) := s!"f"
theorem yg : ϩ := top 123
def rg : ρ ["state", "many", "turn", "events", "deed"] ["state", "many"] (Υ yg) := s!"f"
theorem n9 : ϩ := inClass (top 137) 0
def Pq : ρ ["self", "sender", "ends"] ["self", "sender", "ends"] (Υ n9) := s!"f"
theorem mD : ϩ := inClass (top 138) 0
def MY : ρ ["self"] ["self"] (Υ mD) := s!"f"
theorem kS : ϩ := inClass (top 138) 1
def K3 : ρ ["self", "sender"] ["self", "sender"] (Υ kS) := s!"f"
theorem jD : ϩ := inClass (top 138) 2
def HZ : ρ ["self"] ["self"] (Υ jD) := s!"f"
theorem rh : ϩ := inClass (top 138) 3
def Bk : ρ ["self", "sender", "ends", "number"] ["self", "sender", "ends"] (Υ rh) := s!"f"
theorem og : ϩ := inClass (top 138) 4
def Pr : ρ ["self", "sender"] ["self", "sender"] (Υ og) := s!"f"
theorem kT : ϩ := inClass (top 138) 5
def K4 : ρ ["self", "sender"] ["self", "sender"] (Υ kT) := s!"f"
theorem mF : ϩ := inClass (top 138) 6
def MZ : ρ ["self", "number"] ["self", "number"] (Υ mF) := s!"f"
theorem tQ : ϩ := inClass (top 138) 7
def UU : ρ ["self", "number", "row", "place"] ["self", "number", "row", "place"] (Υ tQ) := s!"f"
theorem pR : ϩ := inClass (top 138) 10
def yE : ρ ["self", "number", "fate", "deed"] ["self", "number", "fate"] (Υ pR) := s!"f"
theorem oh : ϩ := inClass (top 138) 11
def je : ρ ["self", "turn", "numbers", "number", "deed"] ["self", "turn"] (Υ oh) := s!"f"
theorem mG : ϩ := inClass (top 138) 14
def M0 : ρ ["self", "number"] ["self", "number"] (Υ mG) := s!"f"
theorem j3 : ϩ := inClass (top 138) 15
def Ji : ρ ["self", "number"] ["self", "number"] (Υ j3) := s!"f"
theorem pS : ϩ := inClass (top 152) 0
def Q4 : ρ ["self"] ["self"] (Υ pS) := s!"f"
theorem Bl : ϩ := inClass (top 152) 1
def K5 : ρ ["self", "key", "word", "deed", "place"] ["self", "key", "word", "deed"] (Υ Bl) := s!"f"
theorem pT : ϩ := inClass (top 152) 4
def Q5 : ρ ["self", "place"] ["self", "place"] (Υ pT) := s!"f"
theorem Bm : ϩ := top 153
def aaQ : ρ ["thing"] ["thing"] (Υ Bm) := s!"f"
theorem yh : ϩ := top 154
def Yc : ρ ["thing"] ["thing"] (Υ yh) := s!"f"
theorem iJ : ϩ := top 155
def TD : ρ ["thing"] ["thing"] (Υ iJ) := s!"f"
theorem j4 : ϩ := inClass (top 156) 0
def Jj : ρ ["self", "shelves"] ["self", "shelves"] (Υ j4) := s!"f"
theorem pU : ϩ := inClass (top 156) 1
def Q6 : ρ ["self"] ["self"] (Υ pU) := s!"f"
theorem gj : ϩ := inClass (top 156) 2
def Ia : ρ ["self"] ["self"] (Υ gj) := s!"f"
theorem kU : ϩ := inClass (top 156) 3
def ig : ρ ["self", "name", "start", "shelf"] ["self", "name"] (Υ kU) := s!"f"
theorem kW : ϩ := inClass (top 156) 7
def uB : ρ ["self", "name", "key", "rows"] ["self", "name", "key"] (Υ kW) := s!"f"
theorem j5 : ϩ := inClass (top 159) 0
def Jk : ρ ["self"] ["self"] (Υ j5) := s!"f"
theorem pV : ϩ := inClass (top 159) 1
def yF : ρ ["self", "name", "life"] ["self", "name"] (Υ pV) := s!"f"
theorem pW : ϩ := inClass (top 159) 2
def Q7 : ρ ["self", "name"] ["self", "name"] (Υ pW) := s!"f"
theorem oi : ϩ := inClass (top 159) 3
def Ps : ρ ["self", "name", "life"] ["self", "name", "life"] (Υ oi) := s!"f"
theorem kX : ϩ := inClass (top 159) 4
def uC : ρ ["self", "name", "number", "due", "kept", "oldest"] ["self", "name", "number"] (Υ kX) := s!"f"
theorem pX : ϩ := inClass (top 159) 5
def yG : ρ ["self", "name", "number", "row", "place", "due"] ["self", "name", "number", "row", "place"] (Υ pX) := s!"f"
theorem kY : ϩ := inClass (top 159) 6
def K6 : ρ ["self", "name"] ["self", "name"] (Υ kY) := s!"f"
theorem kZ : ϩ := inClass (top 159) 7
def K7 : ρ ["self", "name"] ["self", "name"] (Υ kZ) := s!"f"
theorem j6 : ϩ := inClass (top 161) 0
def Jl : ρ ["self"] ["self"] (Υ j6) := s!"f"
theorem iK : ϩ := inClass (top 164) 0
def M3 : ρ ["self", "shelves"] ["self", "shelves"] (Υ iK) := s!"f"
theorem k8 : ϩ := inClass (top 166) 0
def K8 : ρ ["self", "shelves"] ["self", "shelves"] (Υ k8) := s!"f"
theorem mX : ϩ := inClass (top 166) 1
def tT : ρ ["self", "asked", "events", "event"] ["self", "asked"] (Υ mX) := s!"f"
theorem rj : ϩ := inClass (top 166) 2
def TF : ρ ["self", "sender"] ["self", "sender"] (Υ rj) := s!"f"
theorem tV : ϩ := inClass (top 166) 3
def UV : ρ ["self", "sender", "life", "number", "shelf", "key", "word", "deed"] ["self", "sender", "life", "number", "shelf", "key", "word", "deed"] (Υ tV) := s!"f"
theorem pY : ϩ := inClass (top 166) 4
def Q8 : ρ ["self", "sender", "life", "turns"] ["self", "sender", "life", "turns"] (Υ pY) := s!"f"
theorem pZ : ϩ := inClass (top 166) 6
def Q9 : ρ ["self", "sender", "life"] ["self", "sender", "life"] (Υ pZ) := s!"f"
theorem rm : ϩ := inClass (top 166) 7
def TH : ρ ["self", "sender", "life"] ["self", "sender", "life"] (Υ rm) := s!"f"
theorem jE : ϩ := inClass (top 166) 15
def Ib : ρ ["self", "many"] ["self", "many"] (Υ jE) := s!"f"
theorem mH : ϩ := inClass (top 166) 32
def M4 : ρ ["self"] ["self"] (Υ mH) := s!"f"
theorem vF : ϩ := top 168
def WR : ρ ["_law_script", "_law_k"] ["_law_script", "_law_k"] (Υ vF) := s!"f"
theorem Bo : ϩ := top 169
def K9 : ρ ["_law_cell", "_law_k", "_law_number"] ["_law_cell", "_law_k"] (Υ Bo) := s!"f"
theorem uD : ϩ := top 170
def Bp : ρ ["_law_cell", "_law_base", "_law_at"] ["_law_cell"] (Υ uD) := s!"f"
theorem vG : ϩ := top 171
def FO : ρ ["_law_cell", "_law_names_here", "_law_some"] ["_law_cell", "_law_names_here"] (Υ vG) := s!"f"
theorem Bq : ϩ := top 172
def Br : ρ ["_law_found", "_law_due", "_law_k", "_law_part"] ["_law_found", "_law_due"] (Υ Bq) := s!"f"
theorem Bs : ϩ := top 173
def Bt : ρ ["_law_kept", "_law_deed", "_law_event", "_law_spot", "_law_sender"] ["_law_kept", "_law_deed", "_law_event"] (Υ Bs) := s!"f"
theorem Ic : ϩ := top 174
def oj : ρ ["_law_cellar", "_law_kept", "_law_sender", "_law_cell", "_law_number", "_law_deed", "_law_shelf", "_law_key", "_law_word", "_law_spot"] ["_law_cellar", "_law_kept", "_law_sender", "_law_cell"] (Υ Ic) := s!"f"
theorem Bu : ϩ := top 175
def K' : ρ ["_law_cellar", "_law_kept", "_law_sender", "_law_turns", "_law_deed"] ["_law_cellar", "_law_kept", "_law_sender", "_law_turns"] (Υ Bu) := s!"f"
theorem Ej : ϩ := top 176
def si : ρ ["_law_cellar", "_law_kept", "_law_cell", "_law_way", "_law_sender", "_law_deed", "_law_old"] ["_law_cellar", "_law_kept", "_law_cell"] (Υ Ej) := s!"f"
theorem Bv : ϩ := top 177
def uE : ρ ["_law_cell", "_law_names_here", "_law_none", "_law_kept"] ["_law_cell"] (Υ Bv) := s!"f"
theorem TJ : ϩ := top 178
def pj : ρ ["_law_script", "_law_kept", "_law_cellar", "_law_sender", "_law_cell", "_law_lines", "_law_handed", "_law_many", "_law_k", "_law_spot"] ["_law_script"] (Υ TJ) := s!"f"
set_option genInjectivity false in
structure Adr where
 {aZ j7 Ϡ cL jf eQ aX cP jR Pt Ie TK TL TM Pw Px p7 FP Ig C7 C8 Py Ih Pz FQ La PB Lb Lc Ld Le uF k9 mY jS jT lh lm TN Ii WS TQ yH PD aaR PF PH PJ TR PK Lf TU TV C9 Bw Bx By Lh PL Ij Ik Li Lj qb oo vH sJ Da yI vI xf FR Bz yJ xg uG rn xh BA PM Lk Db lq BB sK vJ vK lz BC BD yK vL BE vM vN lB oq mI FS Dc pk lC BF De sL xi Il PN PP Im PQ PR WT PU TW PV aeo b6 b9 bJ bK cM cc : Ν}
 {PX Io TY TZ T1 PY PZ yL FU Ip Df Dg P0 Iq P3 FV Ll P4 Lm Ln Lo Lp uH BG Dh yM yN BH BI T2 Ir WU T4 yO P5 aaS P6 P7 P8 T5 P9 Lq T6 T8 Di BJ BK BL Lr P' Iu Iv Ls Lu yP xj vO sM Dj yQ vP xk FW BM yR xl uI BN sj BO Qa Lv Dk uJ BP sO vQ vR uK BQ BR yS vS BS vT vU uL xm vV FX Dl iL iM BU Dm sP xo Iw Qb Qc Ix Qf Qg WV Qi T9 Qj Yd : fF}
 {BV Qk tW tX FY qc BW : List Ω}
structure Txt (w:dX)(K:ζ)(mg:Str->Option Ω)(a:Adr):Prop where
 Lw:mg "Senders"=!.ref a.aZ
 aaT:mg "Row"=!.ref a.j7
 WW:mg "Deed"=!.ref a.Ϡ
 Ql:mg "Cellar"=!.ref a.cL
 Lx:mg "Readers"=!.ref a.jf
 T':mg "State"=!.ref a.eQ
 Ua:mg "Deeds"=!.ref a.aX
 Ly:mg "Shelves"=!.ref a.cP
 WX:mg "Book"=!.ref a.jR
 Lz:Mk K a.aZ a.lz
 aaU:Mk K a.j7 a.rn
 WY:Mk K a.Ϡ a.qb
 Qm:Mk K a.cL a.mI
 LA:Mk K a.jf a.lB
 Ub:Mk K a.eQ a.oq
 Uc:Mk K a.aX a.oo
 LB:Mk K a.cP a.lq
 WZ:Mk K a.jR a.p7
 xp:FT K mg "guarded" A9 ["text"] a.Pt a.PX
 yi:FT K mg "unguarded" vz ["text"] a.Ie a.Io
 BX:FT K mg "joined" w4 ["fields"] a.TK a.TY
 Iy:FT K mg "parted" w6 ["text"] a.TL a.TZ
 Iz:FT K mg "sum_of" Eg ["text"] a.TM a.T1
 xq:FT K mg "line_of" A' ["number", "body"] a.Pw a.PY
 El:FT K mg "body_of" Ba ["number", "line"] a.Px a.PZ
 qf:FI K "Book.__init__" n4 ["self"] a.p7 a.yL
 pq:FM K a.jR "write" "Book.write" tP ["self", "bodies"] a.FP a.FU
 rq:FM K a.jR "told" "Book.told" vA ["self"] a.Ig a.Ip
 tY:FT K mg "signed_body" qV ["number", "line"] a.C7 a.Df
 tZ:FT K mg "good_bodies" qW ["lines"] a.C8 a.Dg
 Em:FT K mg "acts_of" Bc ["lines"] a.Py a.P0
 yj:FT K mg "word_text" vB ["word"] a.Ih a.Iq
 En:FT K mg "word_in" Bd ["text"] a.Pz a.P3
 vW:FT K mg "owner_text" C0 ["owner"] a.FQ a.FV
 BY:FT K mg "owner_in" HV ["text"] a.La a.Ll
 Eo:FT K mg "text_of" Be ["part", "value"] a.PB a.P4
 BZ:FT K mg "value_of" x8 ["part", "text"] a.Lb a.Lm
 eI:FT K mg "event_of" x9 ["name", "values"] a.Lc a.Ln
 B0:FT K mg "body_for" qY ["event"] a.Ld a.Lo
 B5:FT K mg "event_in" qZ ["body"] a.Le a.Lp
 lD:FT K mg "body_for_shelves" j1 ["shelves"] a.uF a.uH
 lF:FT K mg "hail_happens" pL ["state", "event"] a.k9 a.BG
 mZ:FT K mg "put_happens" rc ["state", "event"] a.mY a.Dh
 jU:FT K mg "begin_happens" n5 ["state", "event"] a.jS a.yM
 jV:FT K mg "close_happens" n6 ["state", "event"] a.jT a.yN
 lG:FT K mg "drop_happens" pM ["state", "event"] a.lh a.BH
 lH:FT K mg "turn_happens" pO ["state", "event"] a.lm a.BI
 IA:FT K mg "happen" τ ["state", "event"] a.TN a.T2
 yk:FT K mg "events_of" pe ["lines"] a.Ii a.Ir
 FZ:FT K mg "is_at" HX ["event", "row", "place"] a.WS a.WU
 IB:FT K mg "put_at" Eh ["events", "row", "place"] a.TQ a.T4
 qg:FT K mg "told_of_place" n8 ["event"] a.yH a.yO
 Ep:FT K mg "told_of" Bf ["event", "put", "stands"] a.PD a.P5
 LC:FT K mg "tale" MX ["lines", "row", "place"] a.aaR a.aaS
 sk:FT K mg "is_text" Bg ["thing", "least", "most"] a.PF a.P6
 xr:FT K mg "is_sign" Bh ["sign"] a.PH a.P7
 xt:FT K mg "is_name" uy ["thing"] a.PJ a.P8
 IC:FT K mg "is_key" xa ["thing"] a.TR a.T5
 Er:FT K mg "is_word" uz ["thing"] a.PK a.P9
 uM:FT K mg "is_whole" yb ["thing", "low", "high"] a.Lf a.Lq
 ID:FT K mg "spread" br ["key"] a.TU a.T6
 IE:FT K mg "row_in" Ei ["key", "many"] a.TV a.T8
 jt:FT K mg "check_names" kR ["names"] a.C9 a.Di
 gl:FT K mg "check_wholes" jQ ["bounded"] a.Bw a.BJ
 rA:FT K mg "check_letter" pP ["key", "word"] a.Bx a.BK
 iN:FT K mg "asked_sender" pQ ["state", "sender", "life"] a.By a.BL
 B6:FT K mg "hail_act" yc ["state", "sender"] a.Lh a.Lr
 Et:FT K mg "put_act" Bj ["state", "sender", "life", "number", "shelf", "letter", "deed"] a.PL a.P'
 yl:FT K mg "begin_act" vD ["state", "sender", "life", "turns"] a.Ij a.Iu
 ym:FT K mg "close_act" vE ["state", "sender", "life"] a.Ik a.Iv
 B8:FT K mg "drop_act" yf ["state", "sender", "life"] a.Li a.Ls
 B9:FT K mg "pass_act" yg ["state", "many"] a.Lj a.Lu
 qh:FI K "Deed.__init__" n9 ["self", "sender", "ends"] a.qb a.yP
 ot:FI K "Deeds.__init__" mD ["self"] a.oo a.xj
 iO:FM K a.aX "need_free" "Deeds.need_free" kS ["self", "sender"] a.vH a.vO
 cX:FM K a.aX "next_number" "Deeds.next_number" jD ["self"] a.sJ a.sM
 t6:FM K a.aX "begin" "Deeds.begin" rh ["self", "sender", "ends"] a.Da a.Dj
 gZ:FM K a.aX "open_of" "Deeds.open_of" og ["self", "sender"] a.yI a.yQ
 iP:FM K a.aX "need_open" "Deeds.need_open" kT ["self", "sender"] a.vI a.vP
 fc:FM K a.aX "numbered" "Deeds.numbered" mF ["self", "number"] a.xf a.xk
 vX:FM K a.aX "hold" "Deeds.hold" tQ ["self", "number", "row", "place"] a.FR a.FW
 lI:FM K a.aX "finish" "Deeds.finish" pR ["self", "number", "fate"] a.Bz a.BM
 qi:FM K a.aX "overdue" "Deeds.overdue" oh ["self", "turn"] a.yJ a.yR
 jg:FM K a.aX "spots_of" "Deeds.spots_of" mG ["self", "number"] a.xg a.xl
 lJ:FM K a.aX "pledges_of" "Deeds.pledges_of" j3 ["self", "number"] a.uG a.uI
 rB:FI K "Row.__init__" pS ["self"] a.rn a.BN
 Qn:JH K a.j7 "add" a.xh
 abR:um K "add" "Row.add" Bl a.xh a.sj a.Qk
 Qo:Binds K a.sj ["self", "key", "word", "deed"] []
 Ye:Binds K a.sj ["self", "key", "word", "deed"] a.BV
 Yf:Vals [.int 0] a.BV
 rC:FM K a.j7 "take_out" "Row.take_out" pT ["self", "place"] a.BA a.BO
 Eu:FT K mg "is_kind" Bm ["thing"] a.PM a.Qa
 Ca:FT K mg "is_shelf" yh ["thing"] a.Lk a.Lv
 t8:FT K mg "are_shelves" iJ ["thing"] a.Db a.Dk
 lK:FI K "Shelves.__init__" j4 ["self", "shelves"] a.lq a.uJ
 lL:FM K a.cP "told" "Shelves.told" pU ["self"] a.BB a.BP
 gK:FM K a.cP "many_rows" "Shelves.many_rows" gj ["self"] a.sK a.sO
 mJ:FM K a.cP "rows_of" "Shelves.rows_of" kU ["self", "name"] a.vJ a.vQ
 mK:FM K a.cP "row_for" "Shelves.row_for" kW ["self", "name", "key"] a.vK a.vR
 lM:FI K "Senders.__init__" j5 ["self"] a.lz a.uK
 rD:FM K a.aZ "hail" "Senders.hail" pV ["self", "name"] a.BC a.BQ
 gm:FM K a.aZ "need" "Senders.need" pW ["self", "name"] a.BD a.BR
 jW:FM K a.aZ "allow" "Senders.allow" oi ["self", "name", "life"] a.yK a.yS
 mL:FM K a.aZ "spot_of" "Senders.spot_of" kX ["self", "name", "number"] a.vL a.vS
 rE:FM K a.aZ "note" "Senders.note" pX ["self", "name", "number", "row", "place"] a.BE a.BS
 iQ:FM K a.aZ "life_of" "Senders.life_of" kY ["self", "name"] a.vM a.vT
 mM:FM K a.aZ "last_of" "Senders.last_of" kZ ["self", "name"] a.vN a.vU
 lN:FI K "Readers.__init__" j6 ["self"] a.lB a.uL
 ou:FI K "State.__init__" iK ["self", "shelves"] a.oq a.xm
 mN:FI K "Cellar.__init__" k8 ["self", "shelves"] a.mI a.vV
 fw:FM K a.cL "act" "Cellar.act" mX ["self", "asked"] a.FS a.FX
 na:FM K a.cL "hail" "Cellar.hail" rj ["self", "sender"] a.Dc a.Dl
 F0:JH K a.cL "put" a.pk
 W0:um K "put" "Cellar.put" tV a.pk a.iL a.FY
 F1:Binds K a.iL ["self", "sender", "life", "number", "shelf", "key", "word", "deed"] []
 Ud:Binds K a.iL ["self", "sender", "life", "number", "shelf", "key", "word", "deed"] a.tW
 Ue:Vals [.int 0] a.tW
 Uf:Binds K a.iL ["self", "sender", "life", "number", "shelf", "key", "word", "deed"] a.tX
 Ug:Vals [.bM, .int 0] a.tX
 Cb:JH K a.cL "begin" a.lC
 Uh:um K "begin" "Cellar.begin" pY a.lC a.iM a.BW
 Cc:Binds K a.iM ["self", "sender", "life", "turns"] []
 Qp:Binds K a.iM ["self", "sender", "life", "turns"] a.qc
 Qq:Vals [.int 10] a.qc
 rF:FM K a.cL "close" "Cellar.close" pZ ["self", "sender", "life"] a.BF a.BU
 ua:FM K a.cL "drop" "Cellar.drop" rm ["self", "sender", "life"] a.De a.Dm
 j8:FM K a.cL "pass_turns" "Cellar.pass_turns" jE ["self", "many"] a.sL a.sP
 jh:FM K a.cL "written" "Cellar.written" mH ["self"] a.xi a.xo
 rG:FT K mg "_law_cell_at" vF ["_law_script", "_law_k"] a.Il a.Iw
 bQ:FT K mg "_law_mixed" Bo ["_law_cell", "_law_k"] a.PN a.Qb
 Ev:FT K mg "_law_names" uD ["_law_cell"] a.PP a.Qc
 yn:FT K mg "_law_shelves" vG ["_law_cell", "_law_names_here"] a.Im a.Ix
 Ew:FT K mg "_law_alike" Bq ["_law_found", "_law_due"] a.PQ a.Qf
 oy:FT K mg "_law_ended" Bs ["_law_kept", "_law_deed", "_law_event"] a.PR a.Qg
 M5:FT K mg "_law_put" Ic ["_law_cellar", "_law_kept", "_law_sender", "_law_cell"] a.WT a.WV
 Ex:FT K mg "_law_begun" Bu ["_law_cellar", "_law_kept", "_law_sender", "_law_turns"] a.PU a.Qi
 IF:FT K mg "_law_done" Ej ["_law_cellar", "_law_kept", "_law_cell"] a.TW a.T9
 Ey:FT K mg "_law_start" Bv ["_law_cell"] a.PV a.Qj
 Yg:FT K mg "law" TJ ["_law_script"] a.aeo a.Yd
 Ϸ:DB K a.aZ
 bR:bw K a.aZ "lasts"
 fe:bw K a.aZ "lives"
 gA:bw K a.aZ "spots"
 lO:DB K a.j7
 F2:bw K a.j7 "drawn"
 pr:bw K a.j7 "end"
 F5:bw K a.j7 "first"
 lP:bw K a.j7 "letters"
 gB:DB K a.Ϡ
 vY:bw K a.Ϡ "ends"
 pw:bw K a.Ϡ "fate"
 qj:bw K a.Ϡ "pledges"
 lQ:bw K a.Ϡ "sender"
 nc:bw K a.Ϡ "spots"
 ax:DB K a.cL
 iR:bw K a.cL "book"
 bL:bw K a.cL "state"
 Cd:DB K a.jf
 vZ:bw K a.jf "places"
 yT:bw K a.jf "rows"
 aa:DB K a.eQ
 az:bw K a.eQ "deeds"
 yU:bw K a.eQ "groups"
 xu:bw K a.eQ "readers"
 ju:bw K a.eQ "rows"
 bu:bw K a.eQ "senders"
 gC:bw K a.eQ "shelves"
 jv:bw K a.eQ "turn"
 ao:DB K a.aX
 eJ:bw K a.aX "busy"
 ff:bw K a.aX "deeds"
 gn:DB K a.cP
 fz:bw K a.cP "shelves"
 jw:DB K a.jR
 eK:bw K a.jR "lines"
 xw:mg "all"=none
 M6:mg "bool"=none
 M7:mg "dict"=none
 km:mg "enumerate"=none
 Ui:mg "int"=none
 cF:mg "isinstance"=none
 fA:mg "len"=none
 iS:mg "list"=none
 aaV:mg "min"=none
 LD:mg "ord"=none
 v0:mg "range"=none
 aaW:mg "set"=none
 rH:mg "str"=none
 aaX:mg "sum"=none
 IG:mg "tuple"=none
 Uj:mg "zip"=none
 pA:jb mg "GREATEST" (.int 1000000000)
 F6:L2.Wk w K mg "HAPPENINGS" [("hail", .ref a.k9), ("put", .ref a.mY), ("begin", .ref a.jS), ("close", .ref a.jT), ("drop", .ref a.lh), ("turn", .ref a.lm)]
 F7:jb mg "HEAD_SIGNS" (.int 18)
 LF:jb mg "KEY_MOST" (.int 24)
 W1:Fd K mg "KINDS" [.str "table", .str "stream"]
 IH:jb mg "NAME_MOST" (.int 12)
 F8:jb mg "NAME_SIGNS" (.str "abcdefghijklmnopqrstuvwxyz0123456789")
 F9:L2.Wk w K mg "PARTS" [("hail", .ref a.cc), ("put", .ref a.cM), ("begin", .ref a.bK), ("close", .ref a.bJ), ("drop", .ref a.b9), ("turn", .ref a.b6)]
 LG:jb mg "PER_CENT" (.int 37)
 II:jb mg "ROWS_MOST" (.int 9)
 Ce:jb mg "SHELVES_MOST" (.int 6)
 F':jb mg "SPOTS_KEPT" (.int 8)
 M8:Fd K mg "TEXTS" [.str "sender", .str "key", .str "group", .str "shelf", .str "taker", .str "reader"]
 wa:jb mg "TURNS_MOST" (.int 1000)
 IJ:jb mg "WORD_MOST" (.int 200)
 K0:∀ (s : ς) (u : Ω), Gq s a.Yd ⟨[u], []⟩ [("_law_script", u)]
 ng:∀ H, iV K H a.b6 [.str "turn"]
 nh:∀ H, iV K H a.b9 [.str "deed"]
 lR:∀ H, iV K H a.bJ [.str "deed"]
 lS:∀ H, iV K H a.bK [.str "deed", .str "sender", .str "end"]
 pB:∀ H, iV K H a.cM [.str "sender", .str "number", .str "deed", .str "row", .str "place", .str "key", .str "word"]
 ni:∀ H, iV K H a.cc [.str "sender", .str "life"]
private def rdN:String:="rSw ZY rZf Z5 abI ag1 tCT ahG V8 ahW Z8 AI Kp OF Kq J9 J' G8 G' Fg yD Ha Ke Kc Az AA Oe Of Oo Op Oq Os Ot Kj Ou Ov Kg Ol ZZ On Kh He Ki G1 J4 OU Kz OV Hr KC Fu KD OW OD Oy OA So J2 adY Fl Kr OQ Oz OR OS OB J5 Hv Hw Ea Eb Hy MG KG Fv Hk Fn Fp OZ Fx CW CY Fy Fz HB Kw Kx aRx aIx aKx aSx aTx aBx aVr aNr alJ alK ajW and_assoc afn adr amd afp acI ado tSl Vu ac1 tBM tyV rJoin ag' ag9 ja YT Mg acH acG agZ ag0 tC tOp tUn rU rI yA Xq agY acF acD acE Mo RG Xr RJ Xt tCB tB agW agV tOr acB acC RA tIf agU acz Y2 ag8 Zk Zl Zm adf JS Zi Vy ahC XQ adv afr qI adt rV V1 vd ahu ZL ahw ZM ahx ahs aht ZO ahA ahB ahy Sb ahz XE VS XF VT UM VU ZH XG ZI XH VW XI XJ E5 XM VX UN VY XN E8 XO VZ UO V0 _root_.Lake.L2.start Rq ag4 Int.reduceNeg Int.reducePow Int.reduceLT Int.reduceLE Int.reduceToNat or_true true_or and_self Nat.reducePow alL alM agS agT List.length_cons List.length_nil List.replicate List.cons_append List.nil_append List.append_nil Nat.reduceAdd Nat.reduceSub Nat.zero_add Nat.add_zero Nat.sub_self List.getElem?_cons_zero List.getElem?_cons_succ List.set_cons_zero List.set_cons_succ Option.some.injEq V.int.injEq V.bl.injEq V.str.injEq V.ref.injEq V.ty.injEq reduceCtorEq exists_eq exists_eq' not_true_eq_false not_false_eq_true exists_eq_left' exists_eq_left exists_eq_right exists_eq_right' exists_and_left exists_and_right exists_const false_and and_false true_and and_true exists_false or_false false_or List.cons.injEq eq_self_iff_true Bool.false_eq_true Bool.or_self Bool.or_true Bool.true_or Bool.or_false Bool.false_or if_true if_false ite_true ite_false Bool.not_true Bool.not_false decide_eq_true_eq Bool.not_eq_true' decide_eq_false_iff_not"
open Lean in
private def rdM (d:String):MacroM (TSyntax `tactic):=do
 let ds:=d.splitOn " "
 let ls <-((rdN.splitOn " ").filter λs=>!((ds.contains s))).mapM λs=>`(Parser.Tactic.simpLemma| $(mkIdent s.toName):term)
 let ls:=ls.toArray
 `(tactic| simp(maxSteps:=3000000) only[$ls,*,↓reduceIte,↓$(cI `aRr):term,↓$(cI `aIr):term,↓$(cI `aKr):term,↓$(cI `aSr):term,↓$(cI `aTr):term,↓$(cI `aBr):term,↓$(cI `onIi):term,↓$(cI `onSs):term,↓$(cI `tV0):term,↓$(cI `tVs):term,↓$(cI `onRr):term,↓$(cI `onBb):term])
local macro_rules | `(tactic| walk_at "rd")=>rdM ""
private def rfN:String:="rSw ZY rZf Z5 abI ag1 tCT ahG V8 ahW Z8 So adY V2 ahv aRr aIr aKr aK0 aSr aTr aBr aVr aNr onRr onBb onIi onSs tV0 tVs vc afn adr amd afp acI ado tSl Vu ac1 tBM tyV rJoin ag' ag9 ja YT Mg acH acG agZ ag0 tC tOp tUn rU rI yA Xq agY acF acD acE Mo RG Xr RJ Xt tCB tB agW agV tOr acB acC RA tIf agU acz Y2 ag8 Zk Zl Zm adf JS Zi Vy ahC XQ adv afr qI rV V1 vd ahu ZL ahw ahs aht ZO ahA ahB Sb _root_.Lake.L2.start Rq ag4 Int.reduceNeg Int.reducePow Int.reduceLT Int.reduceLE Int.reduceToNat Nat.reducePow alL alM List.length_cons List.length_nil List.replicate List.cons_append List.nil_append Nat.reduceAdd Nat.reduceSub Nat.add_zero List.getElem?_cons_zero List.getElem?_cons_succ List.set_cons_zero List.set_cons_succ ite_true ite_false Bool.not_true Bool.not_false"
open Lean in
local macro_rules | `(tactic| walk_at "rf")=>do
 let ls <-(rfN.splitOn " ").mapM λs=>`(Parser.Tactic.simpLemma| $(mkIdent s.toName):term)
 let ls:=ls.toArray
 `(tactic| try dsimp only[$ls,*,↓reduceIte])
open Lean in
local macro_rules | `(tactic| walk_at $l:str)=>do
 let k::f::g::sc::as:=l.getString.splitOn " " | Macro.throwUnsupported
 unless k == "h" || k == "x" || k == "H" || k == "X" do Macro.throwUnsupported
 let i (s:String):=mkIdent (.mkSimple s)
 let vs:=i "vs"
 let h:=i "h"
 let F:=mkIdent ((if k == "h" || k == "x" then((`T).str g).str "F" else(`T).str g).str f)
 let mut o:=#[<-`(tactic| refine $F $(i sc) (fun $vs _ _ _ $h=>?_) (λ_ _ _ _ $(i "H") $vs $(i "Q") $(i "E") $(i "hr") $h=>?_))]
 if k == "x" || k == "X" then
  for _ in [0:as.head!.toNat!] do o:=o.push (<-`(tactic| obtain⟨_,$h:ident⟩:=$h:ident))
  o:=o.push (<-`(tactic| (obtain⟨$(i "rfl"):ident,_⟩:=$h:ident;rfl)))
 else
  for b in [true,false] do
   let mut a:=as
   while a.length > 1 do
    let x:=if b then i "_z" else i a[1]!
    o:=o.push (<-`(tactic| (apply $(i ("a"++a[0]! ++ "e")) $vs $h;clear $h;intro $x $vs $h)))
    a:=a.drop 2
   o:=o.push (<-`(tactic| (apply $(i "aNe") $vs $h;clear $h)))
   if b then o:=o.push (<-`(tactic| exact λ_=>rfl))
   else o:=o.push (<-`(tactic| intro $h:ident))
 `(tactic| ($[$o:tactic];*))
open Lean in
local macro_rules | `(tactic| walk_at $l:str)=>do
 let some n:=["c1","c2","ls","nx","n2","e1","e2","es","ex","ey"].findIdx? (· == l.getString) | Macro.throwUnsupported
 let R:=mkIdent `Rz
 let h:=mkIdent `hRz
 let r <-if n < 5 then `(tactic| walk_at "rd") else `(tactic| walk_at "rf")
 match n % 5 with
 | 0=>`(tactic| (refine Ay fun $R $h=>?_;$r))
 | 1=>`(tactic| (refine SH fun $R $h=>?_;$r))
 | 2=>`(tactic| (refine nx0 (R:=$R) $h ?_;clear $h;$r))
 | 3=>`(tactic| (refine nx1 (R:=$R) $h ?_;clear $h;intro $R $h;$r))
 | _=>`(tactic| (refine nx2 (R:=$R) $h ?_;clear $h;intro $R $h;$r))
seal PE PT PW PA PS Je PG PGs PI PO PPs PC
section
variable {P:ah} {w:dX} {K:ζ} {mg:Str->Option Ω} {base:a9} {a:Adr} (T:Txt w K mg a)
def bA:T.bQ.O P w mg base 1 So:=by
 walk_at "h ok bQ K9 I c I k"
 show(δ _ (Λ (Ϻ 2 K9 (av fm (av (aD) (av (aD) (av rY (av fm ϵ π) π) (av rY π aw)) π) π))
   (Τ (ϔ (av fm (av rY cO cO) π)))) ?_)
 walk1;show⟨.inl ?_,h⟩;lk
def wc:T.rG.O P w mg base 1 (J2 K):=by
 walk_at "h ok rG WR R p I k";(revert h;show ia λns hs hk q=>?_)
 show(δ _ (Λ (aE (Ϯ E9 aw (Ϲ (bF) (by rfl) T.fA cY (aC ϵ)) (aq _)) (Τ (ϔ (ϓ K hr ϵ aw))) ϭ)
   (Τ (ϔ π))) ?_)
 walk1;show iD hs ?_;walk1;rw[Η];show E3 (λkz=>?_) (λhge=>?_)
 ·show dh hs (bf hk ?_) q
  rw[Ξ,Ϩ,Ε ()];rfl
 ·rw[Ϩ,fQ ()] at q
  show q
def uN:T.sk.O P w mg base 1 J9:=by
 walk_at "h ok sk aaM T l I lo I hi";(revert h;show yz λh h1 h2 q=>?_);show(δ _ (Τ (ϔ (jL (Ϲ (bt) (by rfl) T.cF dy (bC ϵ (kg (v:=.ty "str") rfl T.rH rQ rfl))) (mS (Aa mU mU aw (Ϲ (bF) (by rfl) T.fA cY (aC ϵ)) cO))))) ?_);walk1;rw[ε h1,ϱ h2];show⟨ϊ h "!",q⟩
def Cf:T.xt.O P w mg base 2 J':=by
 walk_at "h ok xt aaO T l";obtain⟨⟨h1,h2,h3⟩,q⟩:=h;show(δ _ (Τ (ϔ (jL (ϥ T.sk (uN T) hr ϋ (ϕ ϵ (bC π (dD T.IH)))) (mS (Ϲ (kA) (by rfl) T.xw Cv (aC (fM ["thing"] ["thing"] (Υ uy) (s!"c") (aW ϵ) (λC₁ s₁ H₁ f₁=>(mv (qJ (tG hr)) ϵ (dD T.F8) (by rfl)))))))))) ?_);walk1;show⟨(),(),(),rX (ϊ h2 "!") (λ_=>.bl true) (λc H' hc s Qe qe=>?_) (λD H' hD s hl=>?_)⟩
 ·walk1
  rw[ZV,Wa];rw[show decide (c∈T36)=true from h3 c hc];show qe H' (ι.refl _)
 ·show wI (.inl (.inl (by rw[hl,Ϥ];rfl))) ?_
  rw[all_true];show q H' s
def Cg:T.xr.O P w mg base 1 Kp:=by
 walk_at "h ok xr aaN T z1";(revert h;show ia λx ϐ h q=>?_;subst ϐ);show(δ _ (Τ (ϔ (jL (Aa mU mU ο ϵ ο) (mS (mv (kI (hU hr)) (Ϲ wG (by rfl) T.LD afd (aC ϵ)) (dD T.LG) (aq _)))))) ?_);walk1;rw[show(Κ " ").6=[32] by decide +kernel,show(Κ "~").6=[126] by decide +kernel];simp only[adz];unfold oS at h;simp only[bd,dP] at h;rw[ε (),ε (),show(!((decide ((x:Int)=37))))=true by simp;lk];show q
def Qr:T.IC.O P w mg base 2 OF:=by
 walk_at "h ok IC abP T l";obtain⟨⟨h1,h2,h3⟩,q⟩:=h;show(δ _ (Τ (ϔ (jL (ϥ T.sk (uN T) hr ϋ (ϕ ϵ (bC π (dD T.LF)))) (mS (Ϲ (kA) (by rfl) T.xw Cv (aC (fM ["thing"] ["thing"] (Υ xa) (s!"c") (aW ϵ) (λC₁ s₁ H₁ f₁=>(ϥ T.xr (Cg T) hr ϋ (aC ϵ)))))))))) ?_);walk1;show⟨(),(),(),rX (ϊ h2 "!") (λ_=>.bl true) (λc H' hc s Qe qe=>?_) (λD H' hD s hl=>?_)⟩
 ·walk1
  show⟨h3 c hc,qe H' (ι.refl _)⟩
 ·show wI (.inl (.inl (by rw[hl,Ϥ];rfl))) ?_
  rw[all_true];show q H' s
def LH:T.Er.O P w mg base 2 Kq:=by
 walk_at "h ok Er aaP V x";obtain⟨h,q⟩:=h
 show(δ _ (Λ (aE (zZ (Jx ϵ)) (Τ (ϔ qF)) ϭ)
   (Τ (ϔ (jL (ϥ T.sk (uN T) hr ϋ (ϕ ϵ (bC π (dD T.IJ)))) (mS (Ϲ (kA) (by rfl) T.xw Cv (aC (fM ["thing"] ["thing"] (Υ uz) (s!"c") (aW ϵ) (λC₁ s₁ H₁ f₁=>(ϥ T.xr (Cg T) hr ϋ (aC ϵ))))))))))) ?_)
 rcases h with rfl | ⟨l,rfl,h1,h2,h3⟩
 ·walk1
  show q H (ι.refl _)
 walk1;show⟨(),(),(),rX (ϊ h2 "!") (λ_=>.bl true) (λc H' hc s Qe qe=>?_) (λD H' hD s hl=>?_)⟩
 ·walk1
  show⟨h3 c hc,qe H' (ι.refl _)⟩
 ·show wI (.inl (.inl (by rw[hl,Ϥ];rfl))) ?_
  rw[all_true];show q H' s
def yo:T.uM.O P w mg base 1 G8:=by
 walk_at "h ok uM Yb I x I lo I hi";(revert h;show qp λh1 h2 q=>?_);show(δ _ (Τ (ϔ (jL (Ϲ (bt) (by rfl) T.cF dy (bC ϵ (kg (v:=.ty "int") rfl T.Ui boot_int rfl))) (jL (YN (Ϲ (bt) (by rfl) T.cF dy (bC ϵ (kg (v:=.ty "bool") rfl T.M6 apZ rfl)))) (mS (Aa mU mU aw ϵ cO)))))) ?_);walk1;rw[ε h1,ϱ h2];show q
def Qs:T.ID.O P w mg base 1 Oe:=by
 walk_at "h ok ID xb T l"
 show(δ _ (Λ (Ϻ 1 xb π)
   (Λ (cQ ϡ rfl (aW ϵ) (am (i:=2) xb.nd rfl (aP rfl)) (Τ (Ϻ 1 xb (av Rt (av (aD) (av rY aw π) (Ϲ wG (by rfl) T.LD afd (aC cO))) π))))
   (Τ (ϔ (av Ru aw (av Rs aw π)))))) ?_)
 walk1;show GZ (λi σ H'=>H'=H/\∃v,σ=[!.str (S l),!.int (DS (l.take i)),v]) ⟨rfl,(qq none rfl)⟩ ?_ ?_
 ·rintro i c σ H' hc ⟨rfl,v,rfl⟩
  walk1;rw[Kb hc]
 ·rintro σ H' ⟨rfl,v,rfl⟩
  walk1;let e:l.take (S l).22=l:=by simp
  rw[e];show h
def Qu:T.IE.O P w mg base 2 Of:=by
 walk_at "h ok IE abQ T l I m";obtain⟨hm,q⟩:=h;show(δ _ (Τ (ϔ (av fm (ϥ T.ID (Qs T) hr ϋ (aC ϵ)) aw))) ⟨hm,q⟩)
def yV:T.rB.O P w mg base 1 (G1 a.j7):=by
 walk_at "h ok rB Q4 R x";(revert h;show ay λdx hx q=>?_)
 show(δ _ (Λ (bU ϵ π rfl)
   (Λ (bU ϵ π rfl)
   (Λ (bU ϵ π rfl)
   (Τ (bU ϵ gb rfl))))) ?_)
 show(dL _ dx ([]) hx T.lO T.F5 "!" (dL _ dx _ Δ T.lO T.pr "!" (dL _ dx _ Δ T.lO T.F2 "!" (λd hd=>?_))));let Ez:d≠x:=λz=>by rw[z,Δ] at hd;cases hd
 rw[ν Ez,ν Ez,ν Ez] at hd;show(dL _ dx _ ((ν (ό Ez)).trans Δ) T.lO T.lP "!" (q d _ hd Ez ?_ ⟨⟨dx,Δ⟩,(ac ([]) ((ν Ez).trans Δ) "!" (λp=>⟨rfl,rfl⟩)),"!","!","!",λp h=>by cases h⟩));let m:x∈[x]:=by simp
 show(ϰ.upd m (bZ hx)).trans ((ϰ.upd m (bZ Δ)).trans ((ϰ.upd m (bZ Δ)).trans ((ϰ.new (by rw[ν Ez,ν Ez,ν Ez];show hd)).trans (ϰ.upd m (bZ ((ν (ό Ez)).trans Δ))))))
def LI (T:Txt w K mg a):qv P w K mg base Jf 1 a.xh a.sj ["self","key","word","deed"] (J4 a.j7):=by
 walk_at "H ok abR K5 R r T z2 V z3 I z4";(revert h;show ug λd M x ϐ gO zz3 R=>ke λhb q=>?_;subst ϐ;subst gO;subst zz3)
 show(δ _ (Λ (Ϻ 4 K5 (ϳ K ϵ))
   (Λ (fZ (bi (ϕ aw (bC cO fU))) (fY (ϳ K ϵ) (pv 4) (dS (tG hr))))
   (Λ (bU ϵ (av (aD) (pv 4) π) rfl)
   (Τ (ϔ (pv 4)))))) ?_)
 obtain⟨dx,hr⟩:=R.27;(show au R.59 λkvs hd hk hl=>?_);walk1;show(aL _ dx _ hr T.lO T.pr (ac _ (Sx M d) "!" (λt ht=>?_)));let htr:t≠r:=λz=>by rw[z,hr] at ht;cases ht
 let htd:t≠d:=λz=>by rw[z,hd] at ht;cases ht
 let hdr:=ό R.ne;let rJ:upd H t (.tup (Fa x)) r=!.ins a.j7 dx (N7 M d):=(ν (ό htr)).trans hr;let M9:upd H t (.tup (Fa x)) d=!.dK kvs:=(ν (ό htd)).trans hd;let hz:kvs.4 < sizeLine:=υ (show kvs.4<=100000 by lk) "!";show(aL _ dx _ rJ T.lO T.lP (δ _ (vg M d) (dG (jN.k (k:=.inl M.24) M9 hz) ?_)));walk1;show(dL _ dx _ ((ν (ό hdr)).trans rJ) T.lO T.pr (show 4 < 1000 by decide) ?_);let c1:ϰ [r,d] H (upd H t (.tup (Fa x))):=ϰ.new ht;let c2:ϰ [r,d] (upd H t (.tup (Fa x))) (upd (upd H t (.tup (Fa x))) d (.dK (putK kvs (.inl M.24) (.ref t)))):=ϰ.upd ∅ (d9 M9);let c3:ϰ [r,d] (upd (upd H t (.tup (Fa x))) d (.dK (putK kvs (.inl M.24) (.ref t)))) _:=ϰ.upd (o:=.ins a.j7 dx (qu "end" (.int (M.24+1)) (N7 M d))) ∅ (bZ ((ν (ό hdr)).trans rJ));let l0:kJ (upd H t (.tup (Fa x))) (putK kvs (.inl M.24) (.ref t)) (λq=>if q=M.24 then some x else M.L q):=(hl.bO c1).put Δ;show q _ (c1.trans (c2.trans c3)) ⟨⟨dx,Δ⟩,(ac _ ((ν hdr).trans Δ) ?_ (l0.bO (c2.trans c3))),R.f0,Int.le_trans R.fl (show M.24<=M.24+1 by lk),R.dr,λp hp=>?_⟩
 ·have:=dm kvs (.inl M.24) (.ref t)
  show((putK kvs (.inl M.24) (.ref t)).4:Int)<=M.24+1;lk
 ·let f:=R.fl
  change M.83<=p/\p < M.24+1
  by_cases e:p=M.24
  ·lk
  ·let NW:(M.L p).11=true:=by
    have:(if p=M.24 then some x else M.L p).11=true:=hp
    rwa [Ψ e] at this
   have:=R.within p NW;lk
def sQ:T.lM.O P w mg base 1 (Oo a.aZ):=by
 walk_at "h ok lM Jk R x";(revert h;show ay λdx hx q=>?_)
 show(δ _ (Λ (bU ϵ gb rfl)
   (Λ (bU ϵ gb rfl)
   (Τ (bU ϵ gb rfl)))) ?_)
 show λl hl=>?_;let nl:l≠x:=λz=>by rw[z,hx] at hl;cases hl
 show(dL _ dx ([]) ((ν (ό nl)).trans hx) T.Ϸ T.fe "!" (λt ht=>?_));let nt:t≠x:=λz=>by rw[z,Δ] at ht;cases ht
 show(dL _ dx _ ((ν (ό nt)).trans Δ) T.Ϸ T.bR (show 1 < 1000 by decide) (λp hp=>?_));let np:p≠x:=λz=>by rw[z,Δ] at hp;cases hp
 show(dL _ dx _ ((ν (ό np)).trans Δ) T.Ϸ T.gA (show 2 < 1000 by decide) ?_);let ntl:t≠l:=λz=>by rw[ν nt,z,Δ] at ht;cases ht
 let npt:p≠t:=λz=>by rw[ν np,z,Δ] at hp;cases hp
 let Jh:p≠l:=λz=>by rw[ν np,ν npt,z,ν nl,Δ] at hp;cases hp
 let ht0:H t=none:=by rw[ν nt,ν ntl] at ht;show ht
 let Gp:H p=none:=by rw[ν np,ν npt,ν np,ν Jh] at hp;show hp
 let m:x∈[x]:=by simp
 show q l t p _ hl ht0 Gp ?_ ⟨⟨dx,Δ⟩,(ac ([]) ?_ (Ϝ _) (λz=>rfl)),(ac ([]) ?_ (Ϝ _) (λz=>rfl)),(ac ([]) ?_ (Ϝ _) (λz h=>(by cases h))),ό nl,ό nt,ό np,ό ntl,ό Jh,ό npt⟩
 ·show(ϰ.new hl).trans ((ϰ.upd m (bZ ((ν (ό nl)).trans hx))).trans ((ϰ.new ht).trans ((ϰ.upd m (bZ ((ν (ό nt)).trans Δ))).trans ((ϰ.new hp).trans (ϰ.upd m (bZ ((ν (ό np)).trans Δ)))))))
 ·show(ν nl).trans ((ν (ό Jh)).trans ((ν nl).trans ((ν (ό ntl)).trans ((ν nl).trans Δ))))
 ·show(ν nt).trans ((ν (ό npt)).trans ((ν nt).trans Δ))
 ·show(ν np).trans Δ
def lT:T.iQ.O P w mg base 1 (Oq a.aZ):=by
 walk_at "h ok iQ K6 R r S n";(revert h;show zQ λl t p=>dB λZ M R q=>?_);show(δ _ (Τ (ϔ (Am (tG hr) (ϳ K ϵ) aw π ⟨rfl,rfl,rfl,rfl⟩))) ?_);obtain⟨dx,hr⟩:=R.27;(show au R.gh λkvs hl hk hv=>?_);show(aL _ dx _ hr T.Ϸ T.fe (δ _ (vm l t p) (ac l rfl (.inl ⟨kvs,.inl hl⟩) (δ _ (bH.k (k:=.inr n) hl) ?_))));rw[hv n];cases e:M.L n with
 | none=>rw[e] at q;show q
 | some z=>rw[e] at q;show q
def uO:T.mM.O P w mg base 1 (Os a.aZ):=by
 walk_at "h ok mM K7 R r S n";(revert h;show zQ λl t p=>dB λZ M R q=>?_);show(δ _ (Τ (ϔ (Am (tG hr) (ϳ K ϵ) aw π ⟨rfl,rfl,rfl,rfl⟩))) ?_);obtain⟨dx,hr⟩:=R.27;(show au R.QV λkvs ht hk hv=>?_);show(aL _ dx _ hr T.Ϸ T.bR (δ _ (kL l t p) (ac t rfl (.inl ⟨kvs,.inl ht⟩) (δ _ (bH.k (k:=.inr n) ht) ?_))));rw[hv n];cases e:M.L n with
 | none=>rw[e] at q;show q
 | some z=>rw[e] at q;show q
def g9:T.gm.O P w mg base 3 (Ot a.aZ):=by
 walk_at "h ok gm Q7 R r S n";(revert h;show zQ λl t p=>gI λZ M R e q=>?_);show(δ _ (Τ (aE (Ϯ (wH (tG hr)) aw (ϳ K ϵ) (by rfl)) (Τ fX) ϭ)) ?_);obtain⟨dx,hr⟩:=R.27;(show au R.gh λkvs hl hk hv=>?_);obtain⟨v,e⟩:=aJ.mp e;show(aL _ dx _ hr T.Ϸ T.fe (δ _ (vm l t p) (Sj (bH.k (k:=.inr n) hl) ?_)));rw[hv n,e];show q
def oA:T.jW.O P w mg base 4 (Kj a.aZ):=by
 walk_at "h ok jW Ps R r S n I k";(revert h;show zQ λl t p=>gI λZ M R e q=>?_)
 show(δ _ (Λ (ϣ (bj ϵ T.Ϸ T.gm (g9 T) hr ϋ (aC aw)))
   (Τ (aE (Ϯ (kI (hU hr)) cO (ϓ K hr (ϳ K ϵ) aw) (aq _)) (Τ fX) ϭ))) ?_)
 obtain⟨dx,hr⟩:=R.27;(show au R.gh λk1 hl hk1 v1=>?_);let g1:bH H l (.str n) (!.int k):=by have:=bH.k (k:=.inr n) hl;rw[v1 n,e] at this;show this
 show(ϧ dx _ hr rfl (Js l t p Z M R (by rw[e];rfl) (aL _ dx _ hr T.Ϸ T.fe (δ _ (vm l t p) (ϙ g1 ?_)))));lia;rw[Ψ ∅];show q
def uP:T.mL.O P w mg base 4 (Ou a.aZ):=by
 walk_at "h ok mL uC R r S n I k";(revert h;show zQ λl t p=>su λZ M R e c q=>?_)
 show(δ _ (Λ (ϣ (bj ϵ T.Ϸ T.gm (g9 T) hr ϋ (aC aw)))
   (Λ (Ϻ 3 uC (av (aD) (ϓ K hr (ϳ K ϵ) aw) π))
   (Λ (aE (Ϯ Aq cO fU (aq _)) (Τ fX) ϭ)
   (Λ (aE (Ϯ (cq (hU hr)) cO fU (aq _)) (Τ (ϔ uh)) ϭ) gx)))) ?_)
 obtain⟨dx,hr⟩:=R.27;(show au R.QV λk2 ht hk2 v2=>?_);obtain⟨v,ev⟩:=aJ.mp e;let g1:bH H t (.str n) (!.int (M.T n)):=by have:=bH.k (k:=.inr n) ht;rw[v2 n,ev] at this;show this
 show(ϧ dx _ hr rfl (Js l t p Z M R e (aL _ dx _ hr T.Ϸ T.bR (δ _ (kL l t p) (ϙ g1 ?_)))));lia;rw[Ψ (by simp;lk)];rw[ε (ϱ c)];show q
def yW:T.rE.O P w mg base 4 (Ov a.aZ):=by
 walk_at "h ok rE yG R r S n I k I x I y";(revert h;show Ni λl t p Z M R e c hz hZ q=>?_)
 show(δ _ (Λ (ϣ (bj ϵ T.Ϸ T.gm (g9 T) hr ϋ (aC aw)))
   (Λ (Ϻ 5 yG (av (aD) (ϓ K hr (ϳ K ϵ) aw) π))
   (Λ (aE (Ϯ Aq cO (pv 5) (aq _)) gx ϭ)
   (Λ (aE (Ϯ E9 cO (pv 5) (aq _)) gx ϭ)
   (Λ (fZ cO (fY (ϳ K ϵ) aw (dS (tG hr))))
   (Τ (fZ (dR (fN) (av (aD) (ϓ K hr (ϳ K ϵ) aw) (ap (aC (bi (bC fU (pv 4)))))) (fo (acN Y0 (dD T.F'))) gy) (fY (ϳ K ϵ) aw (dS (tG hr)))))))))) ?_)
 obtain⟨dx,hr⟩:=R.27;(show au R.gh λk1 hl hk1 v1=>?_);(show au R.QV λk2 ht hk2 v2=>?_);(show au R.UR λk3 hp hk3 v3=>?_);obtain⟨v,ev⟩:=aJ.mp e;(show ww (v3 n e) λqa xs hq1 QU h8 hqz=>?_);let g1:bH H t (.str n) (!.int (M.T n)):=by have:=bH.k (k:=.inr n) ht;rw[v2 n,ev] at this;show this
 walk_at "e2";show(ϧ dx _ hr rfl (Js l t p Z M R e (aL _ dx _ hr T.Ϸ T.bR (δ _ (kL l t p) (ϙ g1 ?_)))));walk_at "ey";rw[Ψ (by simp;lk)];lia;rw[Ψ (by simp;lk)];walk_at "ex";show(aL _ dx _ hr T.Ϸ T.bR (δ _ (kL l t p) (dG (jN.k (k:=.inr n) ht (υ hk2 (υ hz "!"))) ?_)));let c1:ϰ [t] H (upd H t (.dK (putK k2 (.inr n) (.int k)))):=ϰ.upd ∅ (d9 ht);let a1:upd H t (.dK (putK k2 (.inr n) (.int k))) t=!.dK (putK k2 (.inr n) (.int k)):=Δ;generalize upd H t (.dK (putK k2 (.inr n) (.int k)))=H1 at c1 a1 ⊢;walk_at "es";let zJ:=c1.keep _ _ hp (n1 (ό R.tp));let rJ:=c1.keep _ _ hr (n1 R.rt);let g3:bH H1 p (.str n) (!.ref qa):=by have:=bH.k (k:=.inr n) zJ;rw[hq1] at this;show this
 show(aL _ dx _ rJ T.Ϸ T.gA (δ _ (AF l t p) (ϙ g3 ⟨"!",λu hu=>⟨"!",λb hb=>?_⟩⟩)));let s2:ι H1 (upd (upd H1 u (.tup [V.int x,V.int y])) b (.lst [V.ref u])):=(ι.upd hu).trans (ι.upd hb);let Wj:upd (upd H1 u (.tup [V.int x,V.int y])) b (.lst [V.ref u]) b=!.lst [V.ref u]:=Δ;generalize upd (upd H1 u (.tup [V.int x,V.int y])) b (.lst [V.ref u])=H2 at s2 Wj ⊢;show Mw (.inl (.inl (s2 _ _ (c1.keep _ _ QU (n1 (dQ QU ht (by intro z;cases z))))))) (.inl (.inl Wj)) (ϊ (fi h8) "!") λe1 he1=>?_;generalize hU:upd H2 e1 _=H3;let s3:=hU▸ι.upd he1;show(δ _ rfl (uk (.inl (.inl (hU▸Δ))) λe2 he2=>?_));let l4:(oP (xs++[V.ref u]) (!-8) none).4<=8:=by rw[Ow,gG];lk
 generalize oP (xs++[V.ref u]) (!-8) none=ys at l4 ⊢;let Yh:=(s2.trans s3).trans (ι.upd (o:=.lst ys) he2);let a4:upd H3 e2 (.lst ys) e2=!.lst ys:=Δ;generalize upd H3 e2 (.lst ys)=H4 at Yh a4 ⊢;let WH:H e2=none:=by
  let h1:=ϸ (s2.trans s3) he2;cases z:H e2 with
  | none=>rfl
  | some o=>
   by_cases et:e2=t
   ·rw[et,a1] at h1;cases h1
   ·rw[c1.keep _ _ z (n1 et)] at h1;cases h1
 show(aL _ dx _ (Yh _ _ rJ) T.Ϸ T.gA (δ _ (AF l t p) (dG (jN.k (k:=.inr n) (Yh _ _ zJ) (υ hk3 (υ hz "!"))) ?_)));let c5:ϰ [p] H4 (upd H4 p (.dK (putK k3 (.inr n) (.ref e2)))):=ϰ.upd ∅ (d9 (Yh _ _ zJ));let cA:ϰ [t,p] H (upd H4 p (.dK (putK k3 (.inr n) (.ref e2)))):=(c1.mono ∅).trans ((ϰ.of_same Yh).trans (c5.mono ∅));show q _ cA ⟨⟨dx,c5.keep _ _ (Yh _ _ rJ) (n1 R.rp)⟩,(ac k1 (c5.keep _ _ (Yh _ _ (c1.keep _ _ hl (n1 R.lt))) (n1 R.lp)) (eN hk1) v1),(ac _ (c5.keep _ _ (Yh _ _ a1) (n1 R.tp)) ?_ (λz=>?_)),(ac _ Δ ?_ (λz Wi=>?_)),R.rl,R.rt,R.rp,R.lt,R.lp,R.tp⟩
 ·have:=dm k2 (.inr n) (.int k)
  show(putK k2 (.inr n) (.int k)).4<=M.sz+1;lk
 ·rw[jA]
  change _=(M.L z).map λ_=>V.int (if z=n then k else M.T z)
  by_cases ez:z=n
  ·subst ez
   rw[ε rfl,ε rfl,ev];rfl
  ·rw[Ψ (λh=>ez (db h)),Ψ ez]
   show v2 z
 ·have:=dm k3 (.inr n) (.ref e2)
  show(putK k3 (.inr n) (.ref e2)).4<=M.sz+1;lk
 ·rw[jA]
  by_cases ez:z=n
  ·subst ez
   rw[ε rfl];show(fk e2 ys rfl (c5.keep _ _ a4 (n1 λw=>by rw[w,hp] at WH;cases WH)) l4 (λm=>?_));obtain⟨o,ho⟩:=hZ e2 m;rw[WH] at ho;cases ho
  ·rw[Ψ (λh=>ez (db h))]
   (show ww (v3 z Wi) λqz zs z1 z2 z3 z4=>?_);show(fk qz zs z1 (cA.keep _ _ z2 ?_) z3 z4);simp;show⟨dQ z2 ht (by intro z;cases z),dQ z2 hp (by intro z;cases z)⟩
def yX:T.rD.O P w mg base 2 (Op a.aZ):=by
 walk_at "h ok rD yF R r S n";(revert h;show zQ λl t p=>yx λZ M R hz Wb hZ q=>?_)
 show(δ _ (Λ (Ϻ 2 yF (av (aD) (bj ϵ T.Ϸ T.iQ (lT T) hr ϋ (aC aw)) π))
   (Λ (fZ cO (fY (ϳ K ϵ) aw (dS (tG hr))))
   (Λ (aE (Ϯ (cq (hU hr)) cO π (aq _)) (Λ (fZ π (fY (ϳ K ϵ) aw (dS (tG hr))))
   (Τ (fZ (ap eR) (fY (ϳ K ϵ) aw (dS (tG hr)))))) ϭ)
   (Τ (ϔ (bi (bC cO (ϓ K hr (ϳ K ϵ) aw)))))))) ?_)
 obtain⟨dx,hr⟩:=R.27;(show au R.gh λk1 hl hk1 v1=>?_);(show au R.QV λk2 ht hk2 v2=>?_);(show au R.UR λk3 hp hk3 v3=>?_);walk_at "e2";show(ϧ dx _ hr rfl (agA l t p Z (δ M R (aL _ dx _ hr T.Ϸ T.fe (δ _ (vm l t p) (dG (jN.k (k:=.inr n) hl (υ hk1 (υ hz "!"))) ?_))))));let c1:ϰ [l] H (upd H l (.dK (putK k1 (.inr n) (.int ((M.L n).getD 0+1))))):=ϰ.upd ∅ (d9 hl);let a1:upd H l (.dK (putK k1 (.inr n) (.int ((M.L n).getD 0+1)))) l=!.dK (putK k1 (.inr n) (.int ((M.L n).getD 0+1))):=Δ;let z1:(putK k1 (.inr n) (.int ((M.L n).getD 0+1))).4<=M.sz+1:=by have:=dm k1 (.inr n) (.int ((M.L n).getD 0+1));lk
 let w1:∀z,a8 (putK k1 (.inr n) (.int ((M.L n).getD 0+1))) (.inr z)=((M.cr n).L z).map V.int:=λz=>by
  rw[jA];change _=(if z=n then some ((M.L n).getD 0+1) else M.L z).map V.int
  by_cases ez:z=n
  ·subst ez;rw[ε rfl,ε rfl];rfl
  ·rw[Ψ (λh=>ez (db h)),Ψ ez];show v1 z
 generalize putK k1 (.inr n) (.int ((M.L n).getD 0+1))=kk1 at c1 a1 z1 w1 ⊢;generalize upd H l (.dK kk1)=H1 at c1 a1 ⊢;walk_at "ex";let rJ:=c1.keep _ _ hr (by simp;show R.rl);let SQ:=c1.keep _ _ ht (by simp;show ό R.lt);let zJ:=c1.keep _ _ hp (by simp;show ό R.lp);let new:∀b,H1 b=none->H b=none:=λb hb=>by
  cases z:H b with
  | none=>rfl
  | some o=>
   by_cases et:b=l
   ·rw[et,a1] at hb;cases hb
   ·rw[c1.keep _ _ z (by simp;show et)] at hb;cases hb
 let isl:∀z,z≠n->((M.cr n).L z).11=true->(M.L z).11=true:=λz ez h=>by
  let h':(if z=n then some ((M.L n).getD 0+1) else M.L z).11=true:=h;rw[Ψ ez] at h';show h'
 cases ev:M.L n with
 | some v=>
  let hv:=Wb v ev;rw[ev] at q;let e0:¬(!v).getD 0+1=1:=by show ¬v+1=1;lk
  let e0':¬(M.L n).getD 0=0:=by rw[ev];change ¬v=0;lk
  let eT:∀z,(M.cr n).T z=M.T z:=λz=>by
   show(if z=n then(if (M.L n).getD 0=0 then 0 else M.T n) else M.T z)=M.T z
   by_cases ez:z=n
   ·rw[ε ez,Ψ e0',ez]
   ·rw[Ψ ez]
  rw[Ψ (by simp only[dP];show e0)];walk_at "es";let g1:bH H1 t (.str n) (!.int (M.T n)):=by have:=bH.k (k:=.inr n) SQ;rw[v2 n,ev] at this;show this
  show(aL _ dx _ rJ T.Ϸ T.bR (δ _ (kL l t p) (ϙ g1 ⟨"!",λu hu=>?_⟩)));let s2:ι H1 (upd H1 u (.tup [V.int ((!v).getD 0+1),V.int (M.T n)])):=ι.upd hu;show q u _ ((c1.mono ∅).trans (ϰ.of_same s2)) ⟨⟨dx,s2 _ _ rJ⟩,(ac _ (s2 _ _ a1) z1 w1),(ac k2 (s2 _ _ SQ) (eN hk2) (λz=>?_)),(ac k3 (s2 _ _ zJ) (eN hk3) (λz Wi=>?_)),R.rl,R.rt,R.rp,R.lt,R.lp,R.tp⟩ (new u hu) (by rw[eT];show Δ)
  ·rw[eT,v2 z]
   change _=(if z=n then some ((M.L n).getD 0+1) else M.L z).map _
   by_cases ez:z=n
   ·rw[ε ez,ez,ev];rfl
   ·rw[Ψ ez]
  ·let hz0:(M.L z).11=true:=by
    by_cases ez:z=n
    ·rw[ez,ev];rfl
    ·show isl z ez Wi
   (show ww (v3 z hz0) λqz zs y1 y2 y3 y4=>?_);show(fk qz zs y1 (s2 _ _ (c1.keep _ _ y2 (n1 (dQ y2 hl (by intro z;cases z))))) y3 y4)
 | none=>
  rw[ev] at q;let e0':(M.L n).getD 0=0:=by rw[ev];rfl
  rw[ε (show decide ((none:Option Int).getD 0+1=1)=true from rfl)];show(aL _ dx _ rJ T.Ϸ T.bR (δ _ (kL l t p) (dG (jN.k (k:=.inr n) SQ (υ hk2 (υ hz "!"))) ⟨Ϝ _,?_⟩)));let c2:ϰ [t] H1 (upd H1 t (.dK (putK k2 (.inr n) (.int 0)))):=ϰ.upd ∅ (d9 SQ);let a2:upd H1 t (.dK (putK k2 (.inr n) (.int 0))) t=!.dK (putK k2 (.inr n) (.int 0)):=Δ;generalize upd H1 t (.dK (putK k2 (.inr n) (.int 0)))=H2 at c2 a2 ⊢;let hr2:=c2.keep _ _ rJ (by simp;show R.rt);let xQ:=c2.keep _ _ zJ (by simp;show ό R.tp)
  let aer:∀b,H2 b=none->H b=none:=λb hb=>new b (by
   cases z:H1 b with
   | none=>rfl
   | some o=>
    by_cases et:b=t
    ·rw[et,a2] at hb;cases hb
    ·rw[c2.keep _ _ z (by simp;show et)] at hb;cases hb)
  show λb hb=>?_;let s3:ι H2 (upd H2 b (.lst [])):=ι.upd hb;let a3:upd H2 b (.lst []) b=!.lst []:=Δ;generalize upd H2 b (.lst [])=H3 at s3 a3 ⊢;let hb0:=aer b hb;show(aL _ dx _ (s3 _ _ hr2) T.Ϸ T.gA (δ _ (AF l t p) (dG (jN.k (k:=.inr n) (s3 _ _ xQ) (υ hk3 (υ hz "!"))) ?_)));let c4:ϰ [p] H3 (upd H3 p (.dK (putK k3 (.inr n) (.ref b)))):=ϰ.upd ∅ (d9 (s3 _ _ xQ));let a4:upd H3 p (.dK (putK k3 (.inr n) (.ref b))) p=!.dK (putK k3 (.inr n) (.ref b)):=Δ;generalize upd H3 p (.dK (putK k3 (.inr n) (.ref b)))=H4 at c4 a4 ⊢;walk_at "es";let hr4:=c4.keep _ _ (s3 _ _ hr2) (by simp;show R.rp);let ht4:=c4.keep _ _ (s3 _ _ a2) (by simp;show R.tp)
  let aii:∀c,H4 c=none->H c=none:=λc hc=>aer c (ϸ s3 (by
   cases z:H3 c with
   | none=>rfl
   | some o=>
    by_cases et:c=p
    ·rw[et,a4] at hc;cases hc
    ·rw[c4.keep _ _ z (by simp;show et)] at hc;cases hc))
  let g1:bH H4 t (.str n) (!.int 0):=by have:=bH.k (k:=.inr n) ht4;rw[jA,ε rfl] at this;show this
  show(aL _ dx _ hr4 T.Ϸ T.bR (δ _ (kL l t p) (ϙ g1 ⟨"!",λu hu=>?_⟩)));let s5:ι H4 (upd H4 u (.tup [V.int (none.getD 0+1),V.int 0])):=ι.upd hu;let cA:ϰ [l,t,p] H (upd H4 u (.tup [V.int (none.getD 0+1),V.int 0])):=(((c1.mono ∅).trans (c2.mono ∅)).trans (ϰ.of_same s3)).trans ((c4.mono ∅).trans (ϰ.of_same s5));show q u _ cA ⟨⟨dx,s5 _ _ hr4⟩,(ac _ (s5 _ _ (c4.keep _ _ (s3 _ _ (c2.keep _ _ a1 (by simp;show R.lt))) (by simp;show R.lp))) z1 w1),(ac _ (s5 _ _ ht4) ?_ (λz=>?_)),(ac _ (s5 _ _ a4) ?_ (λz Wi=>?_)),R.rl,R.rt,R.rp,R.lt,R.lp,R.tp⟩ (aii u hu) ?_
  ·have:=dm k2 (.inr n) (.int 0)
   show(putK k2 (.inr n) (.int 0)).4<=M.sz+1;lk
  ·rw[jA]
   change _=(if z=n then some ((M.L n).getD 0+1) else M.L z).map λ_=>V.int (if z=n then(if (M.L n).getD 0=0 then 0 else M.T n) else M.T z)
   by_cases ez:z=n
   ·subst ez;rw[ε rfl,ε rfl,ε rfl,ε e0'];rfl
   ·rw[Ψ (λh=>ez (db h)),Ψ ez,Ψ ez];show v2 z
  ·have:=dm k3 (.inr n) (.ref b)
   show(putK k3 (.inr n) (.ref b)).4<=M.sz+1;lk
  ·rw[jA]
   by_cases ez:z=n
   ·subst ez
    rw[ε rfl];show(fk b ([]) rfl (s5 _ _ (c4.keep _ _ a3 (by simp;show λw=>by rw[w,hp] at hb0;cases hb0))) (Ϝ _) (λm=>?_));obtain⟨o,ho⟩:=hZ b m;rw[hb0] at ho;cases ho
   ·rw[Ψ (λh=>ez (db h))]
    (show ww (v3 z (isl z ez Wi)) λqz zs y1 y2 y3 y4=>?_);show(fk qz zs y1 (cA.keep _ _ y2 ?_) y3 y4);simp;show⟨dQ y2 hl (by intro z;cases z),dQ y2 ht (by intro z;cases z),dQ y2 hp (by intro z;cases z)⟩
  ·change _=!(HO.tup [V.int (none.getD 0+1),V.int (if n=n then(if (M.L n).getD 0=0 then 0 else M.T n) else M.T n)])
   rw[ε rfl,ε e0'];show Δ
def LJ:T.Eu.O P w mg base 1 G':=by
 walk_at "h ok Eu aaQ S z";obtain⟨hv,q⟩:=h;show(δ _ (Τ (ϔ (jL (Ϲ (bt) (by rfl) T.cF dy (bC ϵ (kg (v:=.ty "str") rfl T.rH rQ rfl))) (mS (mv (qJ (tG hr)) ϵ (wK T.W1) (by rfl)))))) ?_);walk1;show λp hp=>At (.inr (hp H)) rfl rfl ?_;rw[show JP (.str z) [V.str "table",V.str "stream"]=true by rcases hv with rfl | rfl<;>decide +kernel];show q
def IK:T.Ca.O P w mg base 3 Fg:=by
 walk_at "h ok Ca Yc R t";(revert h;show ia λx h ϐ q=>?_;obtain ⟨⟨n1,n2,n3⟩,⟨r1,r2⟩,hk⟩:=ϐ)
 show(δ _ (Λ (aE (PW.pt (pw_or (iB (bc (Ϲ (bt) (by rfl) T.cF dy (bC ϵ (kg (v:=.ty "tuple") rfl T.IG aoF rfl))) (by intro _;rfl))) (pw_or1 (Ϯ (kI (hU hr)) (Ϲ (bF) (by rfl) T.fA cY (aC ϵ)) π (aq _))))) (Τ (ϔ qF)) ϭ)
   (Τ (ϔ (jL (ϥ T.xt (Cf T) hr ϋ (aC (ϓ K hr ϵ π))) (jL (ϥ T.uM (yo T) hr ϋ (ϕ (ϓ K hr ϵ π) (bC π (dD T.II)))) (mS (ϥ T.Eu (LJ T) hr ϋ (aC (ϓ K hr ϵ π))))))))) ?_)
 walk1;rw[tH h];walk1;show ZN (iV.of h) ?_;walk1;show dN (iV.of h) rfl ?_;walk1;show⟨⟨n1,n2,jy.mp n3⟩,λH' s=>dN (iV.of (s _ _ h)) rfl ?_⟩;walk1;show⟨(),(),dN (iV.of (s _ _ h)) rfl ?_⟩;walk1;show⟨hk,q H' s⟩
def Ch:T.t8.O P w mg base 4 yD:=by
 walk_at "h ok t8 TD R p";(revert h;show ia λxs hl ok q=>?_)
 show(δ _ (Λ (aE (PW.pt (pw_or (iB (bc (Ϲ (bt) (by rfl) T.cF dy (bC ϵ (kg (v:=.ty "list") rfl T.iS ij rfl))) (by intro _;rfl))) (pw_or1 (iB (RB mU mU π (Ϲ (bF) (by rfl) T.fA cY (aC ϵ)) (dD T.Ce)))))) (Τ (ϔ qF)) ϭ)
   (Λ (aE (iB (bc (Ϲ (kA) (by rfl) T.xw Cv (aC (fM ["thing"] ["thing"] (Υ iJ) (s!"c") (aW ϵ) (λC₁ s₁ H₁ f₁=>(ϥ T.Ca (IK T) hr ϋ (aC ϵ)))))) (by intro _;rfl))) (Τ (ϔ qF)) ϭ)
   (Τ (ϔ (mv (cq (hU hr)) (Oc rfl rfl T.fA rfl T.aaW (fM ["thing"] ["thing"] (Υ iJ) (s!"c") (aW ϵ) (λC₁ s₁ H₁ f₁=>(ϓ K hr ϵ π)))) (Ϲ (bF) (by rfl) T.fA cY (aC ϵ)) (aq _)))))) ?_)
 (show Ϗ (id hl) λts e hT=>?_);let o1:=ok.lo;let o2:=ok.hi;let hlen:ts.4=xs.4:=by rw[hT.4,Η]
 walk1;rw[u9 e];walk1;show iD (.inl (.inl e)) ?_;rw[Η,hlen];walk1;rw[ε (show(1:Int)<=(xs.4:Int) by lk),Ψ ()];let hsl:(xs.map l6.v).4<=sizeLine:=by rw[Η];show ϊ o2 "!"
 show di (.inl (.inl e)) (uo hl hsl (λ_=>.bl true) ?_ ?_)
 ·intro t ys H' hy s ht Qe qe
  (show Ϗ (μ.mp hy) λx hx ϐ=>?_;subst ϐ);show(ac x ht (ok.each x hx) (λkh s'=>qe kh s'))
 ·intro D H1 hD s1 h1
  show wI (bs:=(xs.map l6.v).map λ_=>true) (.inl (.inl (by rw[h1];simp))) ?_;rw[show(((xs.map l6.v).map λ_=>true).all id)=true by simp];walk1;show di (.inl (.inl (s1 _ _ e))) (uo (hl.same s1) hsl (it 0) ?_ ?_)
  ·intro t ys H' hy s ht Qe qe
   (show Ϗ (μ.mp hy) λx hx ϐ=>?_;subst ϐ);show dN (.inl (.inl ht)) rfl (qe H' (ι.refl _))
  ·intro D2 H2 Jg s2 h2
   show(δ D2 rfl (ac (xs.map λx=>S x.47) (.inl (.inl (by rw[h2,Ϥ,Ϥ];rfl))) (by rw[Η];lk) (iD (.inl (.inl (s2 _ _ (s1 _ _ e)))) ?_)))
   let en:(iE (xs.map λx=>S x.47)).4=xs.4:=G5 _ _ ∅ (by
    rw[show(λx:l6=>S x.47)=S∘l6.name from rfl,<-Ϥ]
    show ny.mpr (abm (λh z=>h (nO z)) ok.nd))
   rw[Η,hlen,en];walk1;show q H2 (s1.trans s2)
def sR:T.lK.O P w mg base 5 (Ha a.cP):=by
 walk_at "h ok lK Jj R x R p";(revert h;show ay λdx hx=>ia λxs hl ok q=>?_)
 show(δ _ (Λ (aE (iB (bc (ϥ T.t8 (Ch T) hr ϋ (aC aw)) (by intro _;rfl))) gx ϭ)
   (Τ (bU ϵ (bP (ib) rfl T.iS ij (aC aw)) rfl))) ?_)
 walk1
 ·show(ac xs hl ok (λH1 s1=>?_))
  (show Ϗ (hl.same s1) λts e hT=>?_);show nS (.inl (.inl (.inl e))) λl UW=>?_;let hlx:x≠l:=λz=>by rw[<-z,s1 _ _ hx] at UW;cases UW
  show(dL _ dx ([]) ((ν hlx).trans (s1 _ _ hx)) T.gn T.fz "!" (q l _ (s1.free UW) ?_ ⟨⟨dx,Δ⟩,(δ ts ((ν (ό hlx)).trans Δ) ?_)⟩))
  ·show(ϰ.of_same s1).trans ((ϰ.new UW).trans (ϰ.upd ∅ (bZ ((ν hlx).trans (s1 _ _ hx)))))
  ·show hT.bO (A:=[x]) ((ϰ.new UW).trans (ϰ.upd ∅ (bZ ((ν hlx).trans (s1 _ _ hx)))))
def yY:T.lL.O P w mg base 1 (Ke a.cP):=by
 walk_at "h ok lL Q6 R s";(revert h;show dB λl xs R q=>?_);show(δ _ (Τ (ϔ (bP (ib) rfl T.iS ij (aC (ϳ K ϵ))))) ?_);obtain⟨dx,hs⟩:=R.27;(show Ϗ R.33 λts e hT=>?_);show(aL _ dx _ hs T.gn T.fz (δ _ rfl (nS (.inl (.inl (.inl e))) λD hD=>q D _ hD (ι.upd hD) (δ ts Δ (hT.bO (A:=[]) (ϰ.of_same (ι.upd hD)))))))
def rK:T.gK.O P w mg base 1 (Kc a.cP):=by
 walk_at "h ok gK Ia R s";(revert h;show gI λl xs R hn q=>?_);show(δ _ (Τ (ϔ (Ϲ (N1) (by rfl) T.aaX boot_sum (aC (fM ["self"] ["self"] (Υ gj) (s!"c") (aW (ϳ K ϵ)) (λC₁ s₁ H₁ f₁=>(ϓ K hr ϵ π))))))) ?_);walk1;obtain⟨dx,hs⟩:=R.27;(show Ϗ R.33 λts e hT=>?_);show(aL _ dx _ hs T.gn T.fz (δ _ rfl (di (.inl (.inl e)) (uo R.33 (by rw[Η];show ϊ hn "!") (it 1) ?_ ?_))))
 ·intro t ys H' hy s ht Qe qe
  (show Ϗ (μ.mp hy) λx hx ϐ=>?_;subst ϐ);show dN (.inl (.inl ht)) rfl (qe H' (ι.refl _))
 ·intro D H1 hD s1 h1
  show(ϧ D (xs.map λx=>(x.42:Int)) rfl (.inl (.inl (by rw[h1,Ϥ,Ϥ];rfl))) ?_);let es:(xs.map λx=>(x.42:Int)).72=((aG xs xs.4):Int):=by
   unfold aG;rw[ϴ];generalize xs=ys
   induction ys with
   | nil=>rfl
   | cons y ys ih=>rw[ϒ,ϒ,cH,cH,ih];rfl
  rw[es];show q H1 s1
def uQ:T.mJ.O P w mg base 3 (Az a.cP):=by
 walk_at "h ok mJ ig R s T nm";(revert h;show gI λl xs R ok=>gI λk x hk hxn q=>?_)
 show(δ _ (Λ (Ϻ 2 ig π)
   (Λ (cQ ϡ rfl (aW (ϳ K ϵ)) (am (i:=3) ig.nd rfl (aP rfl)) (Λ (aE (Ϯ (cq (hU hr)) (ϓ K hr fU π) aw (aq _)) (Τ (ϔ (CQ rfl rfl T.iS rfl T.v0 (bC cO (av (aD) cO (ϓ K hr fU π)))))) ϭ)
   (Τ (YU (i:=2) ig.nd rfl (aP rfl) (ϓ K hr fU π) Sa))))
   (Τ fX))) ?_)
 walk1;obtain⟨dx,hs⟩:=R.27;(show Ϗ R.33 λts e hT=>?_);let hlen:ts.4=xs.4:=by rw[hT.4,Η]
 let h9:=λy hy=>(ok.each y hy).2.1.2;let o2:=ok.hi;show(aL _ dx _ hs T.gn T.fz (δ _ rfl (di (.inl (.inl e)) (cy (λi σ H'=>H'=H/\(∀j y,j < i->xs[j]?=!y->y.47≠nm)/\∃v,σ=[!V.ref s,!V.str (S nm),!V.int (aG xs i),v]) ⟨rfl,λj y hj=>absurd hj (Va _),(qq none rfl)⟩ (λi σ H' _ h=>by rw[h.1];show .inl (.inl e)) ?_ ?_))))
 ·rintro i y σ H' hy ⟨rfl,hik,v,rfl⟩
  rw[Ξ] at hy;cases hti:ts[i]? with
  | none=>rw[hti] at hy;cases hy
  | some t=>
   rw[hti] at hy;cases (ϲ hy);(show Ϗ (hT.get hti) λys h1 h2=>?_);rw[Ξ] at h1;cases Qv:xs[i]? with
   | none=>rw[Qv] at h1;cases h1
   | some y=>
    rw[Qv] at h1;cases (ϲ h1);let hTt:iV K H' t y.v:=.inl (.inl h2);let hb:=oT h9 i;let hy9:=h9 y (Β Qv);let aij:=(Α.mp Qv).1;walk1;show dN hTt rfl ?_;walk1;show E3 (λhn=>?_) (λhn=>?_)
    ·let hnn:=hn
     let hki:i=k:=by
      show ajC λSD=>?_;let hkl:=(Α.mp hk).1;let uU:=(Α.mp Qv).1;rcases iy SD with h | h
      ·have:=bv.mp ok.nd i k (by rw[Η];lk) (by rw[Η];lk) h
       apply this;rw[oJ,oJ,(Α.mp Qv).2,(Α.mp hk).2,hnn,hxn]
      ·have:=bv.mp ok.nd k i (by rw[Η];lk) (by rw[Η];lk) h
       apply this;rw[oJ,oJ,(Α.mp Qv).2,(Α.mp hk).2,hnn,hxn]
     subst hki;rw[Qv] at hk;cases (ϲ hk);show dN hTt rfl ?_;walk1;show⟨(),(),(),(),?_,λl hl=>?_⟩
     ·have:(9:Int)<=sizeLine:=by decide
      lk
     ·show q l _ hl (ι.upd hl) ?_
      rw[Δ,show((aG xs i):Int)+(x.42:Int) - ((aG xs i:Nat))=(x.42:Int) by lk,bG]
    ·show dN hTt rfl ?_
     walk1;show⟨λj y' hj Mq=>?_,?_⟩
     ·rcases Jb j i with h | h
      ·show hik j y' h Mq
      ·have:j=i:=by lk
       subst this;rw[Qv] at Mq;cases (ϲ Mq);show hn
     ·rw[ki Qv]
      push_cast
      rfl
 ·rintro σ H' ⟨rfl,hik,v,rfl⟩
  rw[Η,hlen] at hik;show absurd hxn (hik k x (Α.mp hk).1 hk)
def uR:T.mK.O P w mg base 4 (AA a.cP):=by
 walk_at "h ok mK uB R s T nm T key";(revert h;show gI λl xs R ok=>gI λk x hk hxn q=>?_)
 show(δ _ (Λ (Ϻ 3 uB (bj ϵ T.gn T.mJ (uQ T) hr ϋ (aC aw)))
   (Τ (ϔ (ϓ K hr fU (ϥ T.IE (Qu T) hr ϋ (bC cO (Ϲ (bF) (by rfl) T.fA cY (aC fU)))))))) ?_)
 walk1;obtain⟨dx,hs⟩:=R.27
 ·let hx:=(ok.each x (Β hk)).2.1
  show(ϧ dx _ hs rfl (ϧ l xs R ok (ϧ k x hk hxn (λD H1 hD s1 h1=>iD (.inl (.inl h1)) ?_))));let el:(yC (aG xs k) x.42).4=x.42:=by simp[yC]
  rw[el];let h0:0<=Ka key % x.42:=kx _ ();let h2:Ka key % x.42 < x.42:=iz _ ();show(ac _ rfl () (dh (.inl (.inl h1)) (bf h0 ?_) (q H1 s1)));unfold yC vi;rw[Ξ,kt ()]
  rfl
def LK:T.xp.O P w mg base 1 Kg:=by
 show T.xp.F.ok1 KY (s!"d") (λvs H Q E h=>?_) (λgX A outer s H vs Q E hr h=>?_)
 ·apply aTe vs h;intro _ vs h;apply aNe vs h;intro _;rfl
 ·apply aTe vs h;intro a vs h;apply aNe vs h;clear h;rintro⟨hl,q⟩
  show(δ _ (SI (Hc (K:=K) (c:=59) (z:=[126,115]) (s!"d") (s!"d") (s!"d") (Hc (K:=K) (c:=126) (z:=[126,119]) (s!"d") (s!"d") (s!"d") (PE.one ϵ)))) ?_);let e1:(bV [126,119] (aQ 126 a)).4<=2 * a.4:=by
   have:bV [126,119] (aQ 126 a)=a.flatMap λx=>if x=126 then[126,119] else[x]:=mB _ _ _;rw[this];clear this hl q
   induction a with
   | nil=>show ξ _
   | cons x a ih=>
    rw[wu,Ρ,ω]
    by_cases h:x=126
    ·rw[ε h];simp only[ω,aF];lk
    ·rw[Ψ h];simp only[ω,aF];lk
  show(ac a rfl ?_ (ac _ rfl ?_ ?_))
  ·simp only[ω,aF];lk
  ·simp only[ω,aF];lk
  ·rw[adO];show q
def EA:T.BX.O P w mg base 2 (Ol K):=by
 walk_at "h ok BX abN R p";(revert h;show ia λl hp hl q=>?_);show(δ _ (Τ (ϔ (bx PySem.F.plainAttrs_str PySem.F.slot_str_join PySem.F.type_str_join (Au) ο (aC (fM ["fields"] ["fields"] (Υ w4) (s!"c") (aW ϵ) (λC₁ s₁ H₁ f₁=>(ϥ T.xp (LK T) hr ϋ (aC ϵ)))))))) ?_);walk1;let Z:4000000<=sizeLine:=by decide
 let e2:=λx hx=>ϊ (uq (μ.mpr ⟨x,hx,rfl⟩)) (show(l.map be).72<=1000000 by lk);show di hp (Av hp (by unfold tx;rw[Η];lk) (λv=>match v with | .str (⟨z⟩)=>.str (S (gd z.34)) | x=>x) (λx H' hx s Qe qe=>?_) λD H' hD s1 hd=>?_)
 ·unfold tx at hx
  (show Ϗ (μ.mp hx) λc hc ϐ=>?_;subst ϐ);show⟨e2 c hc,qe H' (ι.refl _)⟩
 ·show(δ ([59]) (s!"d") (δ D rfl (ac (l.map gd) (.inl (.inl ?_)) ?_ ?_)))
  ·rw[hd];unfold tx;rw[Ϥ,Ϥ];rfl
  ·have:∀l:-(-Nat),((l.map gd).map be).72<=2 * (l.map be).72:=by
    intro l
    induction l with
    | nil=>show ξ _
    | cons x l ih=>have:=AC x;simp only[ϒ,cH];lk
   have:=this l;simp only[Η,ω,aF];lk
  ·show q _ s1
def Qw:T.Iz.O P w mg base 1 ZZ:=by
 walk_at "h ok Iz w8 T l";obtain⟨hl,q⟩:=h
 show(δ _ (Λ (Ϻ 1 w8 π)
   (Λ (cQ ϡ rfl (aW ϵ) (am (i:=2) w8.nd rfl (aP rfl)) (Τ (Ϻ 1 w8 (av Ru (av acO (av Rt (av YZ aw π) π) (av Rs aw π)) (Ϲ wG (by rfl) T.LD afd (aC cO))))))
   (Τ (ϔ aw)))) ?_)
 walk1;show GZ (λi σ H'=>H'=H/\∃v,σ=[!.str (S l),!.int (sumF 0 (l.take i)),v]) ⟨rfl,(qq none rfl)⟩ ?_ ?_
 ·rintro i c σ H' hc ⟨rfl,v,rfl⟩
  let Gm:l[i]?=!c:=by simpa using hc
  let hb:sumF 0 (l.take i) < 65536:=MA (λx hx=>gL (hl x (Jn hx)) "!") "!";walk1;rw[Og Gm,<-(SG hb)];show⟨(),?_⟩;simp
 ·rintro σ H' ⟨rfl,v,rfl⟩
  let e:l.take (S l).22=l:=by simp
  rw[e];show q
def Ci:T.xq.O P w mg base 2 On:=by
 walk_at "h ok xq KZ K n T b";obtain⟨g,q⟩:=h
 show(δ _ (Λ (Ϻ 2 KZ (ap (ϕ (bx PySem.F.plainAttrs_str PySem.F.slot_str_zfill PySem.F.type_str_zfill AE (bP (kB (K:=K)) rfl T.rH rQ (aC ϵ)) (aC π)) (bC (bx PySem.F.plainAttrs_str PySem.F.slot_str_zfill PySem.F.type_str_zfill AE (bP (kB (K:=K)) rfl T.rH rQ (aC (ϥ T.Iz (Qw T) hr ϋ (aC aw)))) (aC π)) (bx PySem.F.plainAttrs_str PySem.F.slot_str_zfill PySem.F.type_str_zfill AE (bP (kB (K:=K)) rfl T.rH rQ (aC (Ϲ (bF) (by rfl) T.fA cY (aC aw)))) (aC π))))))
   (Τ (ϔ (av (aD) (av (aD) (bx PySem.F.plainAttrs_str PySem.F.slot_str_join PySem.F.type_str_join (Au) ο (aC cO)) ο) aw)))) ?_)
 walk1;let hs:=g.72;let hl:=g.l;let hn:=g.n;let Z:40000<=sizeLine:=by decide
 let z6:=wN (w:=6) "!" g.n;let z5:=wN (w:=5) "!" (gL g.72 "!");let z4:=wN (w:=4) "!" g.l;show⟨kC () (),(δ n rfl (GD 6 rfl "!" g.c (kC () ()) (δ (sumF 0 b) rfl (GD 5 rfl "!" () (kC () ()) (δ b.4 rfl (mh 4 rfl "!" () (λp hp=>(δ ([32]) (s!"d") (ac ([zf 6 n,zf 5 (sumF 0 b),zf 4 b.4]) (.inl (.inl Δ)) ?_ (δ ([32]) (s!"d") ?_))))))))))⟩
 ·simp only[ϒ,wt,cH,List.sum_nil,ω,aF];lk
 let ej:bV [32] [zf 6 n,zf 5 (sumF 0 b),zf 4 b.4]++[32]=XU n b:=by
  change zf 6 n++[32]++(zf 5 (sumF 0 b)++[32]++zf 4 b.4)++[32]=_;unfold XU pfL;simp
 let el:=congrArg be ej;rw[g.hd,Ρ,ϯ] at el;rw[ej,g.hd];show⟨?_,(),q _ (ι.upd hp)⟩;simp only[ω,aF];lk
def xx:T.qf.O P w mg base 1 (Kh a.jR):=by
 walk_at "h ok qf Pl R x";(revert h;show ay λdx hx q=>?_);show(δ _ (Τ (bU ϵ (ap eR) rfl)) ⟨"!",λd hd=>?_⟩);let Ez:d≠x:=λz=>by rw[z,hx] at hd;cases hd
 show(dL _ dx ([]) ((ν (ό Ez)).trans hx) T.jw T.eK "!" (q d _ hd Ez ((ϰ.new hd).trans (ϰ.upd ∅ (bZ ((ν (ό Ez)).trans hx)))) ⟨⟨dx,Δ⟩,(ν Ez).trans Δ⟩))
def ub:T.pq.O P w mg base 3 (He a.jR):=by
 walk_at "h ok pq jr R r R p";(revert h;show ug λl ls act R hp lZ hb=>ke λhn q=>?_)
 show(δ _ (Λ (Ϻ 2 jr (av Rr (Ϲ (bF) (by rfl) T.fA cY (aC aw)) π))
   (Λ (cQ ϡ rfl (oR rfl T.km (aC aw)) (jo rfl (bh (am (i:=3) jr.nd rfl (aP rfl)) (bh (am (i:=4) jr.nd rfl (aP rfl)) jn))) (Λ (Ϻ 5 jr (qG (Ϯ (cq (hU hr)) fU cO (aq _)) ο ο))
   (Τ (ϣ (bx PySem.F.plainAttrs_list PySem.F.slot_list_append PySem.F.type_list_append bE (ϳ K ϵ) (aC (ϥ T.xq (Ci T) hr ϋ (bC (Ϲ (bF) (by rfl) T.fA cY (aC (ϳ K ϵ))) (av (aD) (pv 5) (pv 4))))))))))
   (Τ (ϔ (Ϲ (bF) (by rfl) T.fA cY (aC (ϳ K ϵ))))))) ?_)
 let Z:40000<=sizeLine:=by decide
 walk1;show iD (.inl (.inl hp)) ?_;walk1;let lt:(tx act).4=act.4:=by unfold tx;rw[Η]
 rw[lt];show⟨⟨_,.inl (.inl hp)⟩,(wJ (λi σ H'=>ϰ [l] H H'/\ic a.jR H' r l (ls++vj ls.4 ((xU act).take i))/\∃v1 v2 v3,σ=[!.ref r,!.ref p,!.int (act.4 - 1),v1,v2,v3]) ⟨ϰ.refl _,by simpa [vj] using R,(zR none none none rfl)⟩ (λi σ H' _ h=>.inl (.inl (h.1.keep _ _ hp (by simpa using lZ)))) ?_ ?_)⟩
 ·rintro i x t σ H' hx ht ⟨c,R',v1,v2,v3,rfl⟩
  unfold tx at hx;rw[Ξ,χ] at hx;(revert hx;show ay λb hbi ϐ=>?_;subst ϐ);let hi:=(Α.mp hbi).1;let Yi:=hb b (Β hbi);let sg:=MB act i b hbi;let c1:ϰ [l] H' (upd H' t (.tup [.int i,.str (S b)])):=ϰ.new ht;let R1:=R'.same (ι.upd (o:=.tup [.int i,.str (S b)]) ht);let SQ:upd H' t (.tup [.int i,.str (S b)]) t=!.tup [.int i,.str (S b)]:=Δ;generalize upd H' t (.tup [.int i,.str (S b)])=H1 at c1 R1 SQ ⊢;obtain⟨dx,rJ⟩:=R1.27;let tl:(ls++vj ls.4 ((xU act).take i)).4=ls.4+i:=by
   rw[Ρ,jq,af,gz];lk
  show(fk t _ rfl (.inl (.inl SQ)) rfl (cJ _ _ rfl (ϧ _ _ rfl rfl (Ay λRy hRy=>?_))));walk1
  by_cases hk:(i:Int)=(act.4:Int) - 1
  ·rw[ε hk,hRy]
   clear hRy;walk1;rw[Ψ ()] at sg;let R2:=R1.33;show(aL _ dx _ rJ T.jw T.eK (ac _ rfl (.inl ⟨_,.inl (.inl R2)⟩) (aL _ dx _ rJ T.jw T.eK (δ _ rfl (iD (.inl (.inl R2)) ?_)))));show(ac ([46]) (s!"d") (by have:=Yi.2;simp only[ω,aF];lk) (ac (ls.4+i) ?_ ?_ (λH2 s2=>(δ l rfl (ac _ (s2 _ _ R2) ?_ ?_)))))
   ·unfold tx;rw[Η,tl]
   ·show⟨(),λx hx=>?_,by have:=Yi.2;simp only[Ρ,ω,aF];lk⟩
    rcases Ο.mp hx with hx | hx
    ·rw[Ζ.mp hx];decide
    ·show Yi.1 x hx
   ·unfold tx;rw[Η,tl];lk
   ·let CN:=s2 _ _ R2
    show⟨c.trans (c1.trans ((ϰ.of_same s2).trans (ϰ.upd ∅ (gY CN)))),⟨⟨dx,(ν R1.ne).trans (s2 _ _ rJ)⟩,?_⟩⟩
    ·rw[Δ,cz sg,Hd,af,gz,fL ()]
     unfold tx;simp
  ·rw[Ψ hk,hRy]
   clear hRy;walk1;rw[ε ()] at sg;let R2:=R1.33;show(aL _ dx _ rJ T.jw T.eK (ac _ rfl (.inl ⟨_,.inl (.inl R2)⟩) (aL _ dx _ rJ T.jw T.eK (δ _ rfl (iD (.inl (.inl R2)) ?_)))));show(ac ([43]) (s!"d") (by have:=Yi.2;simp only[ω,aF];lk) (ac (ls.4+i) ?_ ?_ (λH2 s2=>(δ l rfl (ac _ (s2 _ _ R2) ?_ ?_)))))
   ·unfold tx;rw[Η,tl]
   ·show⟨(),λx hx=>?_,by have:=Yi.2;simp only[Ρ,ω,aF];lk⟩
    rcases Ο.mp hx with hx | hx
    ·rw[Ζ.mp hx];decide
    ·show Yi.1 x hx
   ·unfold tx;rw[Η,tl];lk
   ·let CN:=s2 _ _ R2
    show⟨c.trans (c1.trans ((ϰ.of_same s2).trans (ϰ.upd ∅ (gY CN)))),⟨⟨dx,(ν R1.ne).trans (s2 _ _ rJ)⟩,?_⟩⟩
    ·rw[Δ,cz sg,Hd,af,gz,fL ()]
     unfold tx;simp
 ·rintro σ H' ⟨c,R',v1,v2,v3,rfl⟩
  walk1;obtain⟨dx,rJ⟩:=R'.27;show(aL _ dx _ rJ T.jw T.eK (δ _ rfl (iD (.inl (.inl R'.33)) ?_)));rw[show(xU act).take (tx act).4=xU act by rw[lt,<-gz,ϴ]] at R' ⊢;let e:(tx (ls++vj ls.4 (xU act))).4=ls.4+act.4:=by unfold tx;rw[Η,Ρ,jq,gz]
  rw[e];show q _ c R'
def sS:T.lN.O P w mg base 1 (OD a.jf):=by
 walk_at "h ok lN Jl R x";(revert h;show ay λdx hx q=>?_)
 show(δ _ (Λ (bU ϵ gb rfl)
   (Τ (bU ϵ gb rfl))) ?_)
 show λl hl=>?_;let nl:l≠x:=λz=>by rw[z,hx] at hl;cases hl
 show(dL _ dx ([]) ((ν (ό nl)).trans hx) T.Cd T.yT "!" (λt ht=>?_));let nt:t≠x:=λz=>by rw[z,Δ] at ht;cases ht
 show(dL _ dx _ ((ν (ό nt)).trans Δ) T.Cd T.vZ (show 1 < 1000 by decide) ?_);let ntl:t≠l:=λz=>by rw[ν nt,z,Δ] at ht;cases ht
 let ht0:H t=none:=by rw[ν nt,ν ntl] at ht;show ht
 let m:x∈[x]:=by simp
 show q l t _ hl ht0 ?_ ⟨⟨dx,Δ⟩,(mh ([]) ?_ (Ϝ _) (λz=>rfl) (λp=>rfl)),(ac ([]) ?_ (Ϝ _) (λz=>rfl)),ό nl,ό nt,ό ntl⟩
 ·show(ϰ.new hl).trans ((ϰ.upd m (bZ ((ν (ό nl)).trans hx))).trans ((ϰ.new ht).trans (ϰ.upd m (bZ ((ν (ό nt)).trans Δ)))))
 ·show(ν nl).trans ((ν (ό ntl)).trans ((ν nl).trans Δ))
 ·show(ν nt).trans Δ
def Dn:T.vW.O P w mg base 1 AI:=qv.never
def Ga:T.yj.O P w mg base 1 Fl:=by
 walk_at "h ok yj WQ V z1";(revert h;show ia λo ϐ hl q=>?_;subst ϐ);show(δ _ (Τ (ϔ (qG (zZ (Jx ϵ)) ο (av (aD) ο ϵ)))) ?_);cases o with
 | none=>
  walk1;show q
 | some w0=>
  simp only[wV];walk1;show(ac ([61]) (s!"d") (ϊ (show[61].4+w0.4<=1001 by have:=hl w0 rfl;simp;lk) "!") q)
def LL:T.Eo.O P w mg base 2 Kr:=by
 walk_at "h ok Eo aaL S p V v";(revert h;show ia λt hp hl q=>?_)
 show(δ _ (Λ (aE (Ϯ (qJ (tG hr)) ϵ (wK T.M8) (by rfl)) (Τ (ϔ aw)) ϭ)
   (Λ (aE (Ϯ (cq (hU hr)) ϵ ο (aq _)) (Τ (ϔ (ϥ T.yj (Ga T) hr ϋ (aC aw)))) ϭ)
   (Λ (aE (Ϯ (cq (hU hr)) ϵ ο (aq _)) (Τ (ϔ (ϥ T.vW (Dn T) hr ϋ (aC aw)))) ϭ)
   (Τ (ϔ (bP (kB (K:=K)) rfl T.rH rQ (aC aw))))))) ?_)
 walk1;intro p1 zJ;show At (.inr (zJ H)) rfl rfl (δ _ rfl ?_);rw[show JP (V.str p) [V.str "sender",V.str "key",V.str "group",V.str "shelf",V.str "taker",V.str "reader"]=decide (p∈qR) from Hj p qR];rcases hp with⟨h1,rfl⟩ | ⟨rfl,o,rfl,rfl⟩ | ⟨h1,h2,h3,n,rfl,h4,rfl⟩
 ·rw[ε (ϱ h1)]
  show q
 ·rw[Ψ (s!"d"),ε rfl]
  show(ac o rfl (λw0 e=>?_) q);subst e;have:(tK (!w0)).4=w0.4+1:=rfl;lk
 ·rw[Ψ (by simpa using h1),Ψ h2,Ψ h3]
  show(ac _ rfl (kC () ()) q)
def dW:T.eI.O P w mg base 1 (KD (S6 a.cc a.cM a.bK a.bJ a.b9 a.b6)):=by
 walk_at "h ok eI qX S n R p";(revert h;show su λpa ps hp hn ok q=>?_)
 show(δ _ (Λ (Ϻ 2 qX (zB (eS ο ϵ zA) rfl rfl ∅ "!"))
   (Λ (cQ ϡ rfl (MD rfl T.Uj (bC (Fk T.F9 ϵ (λ_ _=>rfl)) aw)) (jo rfl (bh (am (i:=3) qX.nd rfl (aP rfl)) (bh (am (i:=4) qX.nd rfl (aP rfl)) jn))) (Τ (fZ (pv 4) (fY cO fU (dS (tG hr))))))
   (Τ (ϔ cO)))) ?_)
 walk1;intro D hD;obtain⟨hm,hT⟩:(n,V.ref pa)∈[(Κ "hail",V.ref a.cc),("put",V.ref a.cM),("begin",V.ref a.bK),("close",V.ref a.bJ),("drop",V.ref a.b9),("turn",V.ref a.b6)]/\∀H,iV K H pa ((ps.map (·.1)).map V.str):=by
  generalize ps.map (·.1)=l at hn;rcases Wq hn with h | h | h | h | h | h<;>cases h
  ·show⟨bI 0 rfl,T.ni⟩
  ·show⟨bI 1 rfl,T.pB⟩
  ·show⟨bI 2 rfl,T.lS⟩
  ·show⟨bI 3 rfl,T.lR⟩
  ·show⟨bI 4 rfl,T.nh⟩
  ·show⟨bI 5 rfl,T.ng⟩
 let nDp:D≠p:=λz=>by rw[z,hp] at hD;cases hD
 generalize hH1:upd (upd H D (.dK [])) D (.dK (jO [] [((.inr "event"),V.str n)]))=H1;let s1:ι H H1:=by rw[<-hH1];show(ι.upd hD).wr hD
 let hD1:H1 D=!.dK [((.inr "event"),V.str n)]:=by rw[<-hH1];show Δ
 show⟨Δ,(ac ([((.inr "event"),V.str n)]) rfl (show 1<=15 by decide) (ac (n,.ref pa) hm rfl (mh pa rfl ⟨_,hT _⟩ ⟨_,by rw[hH1];show .inl (.inl (s1 _ _ hp))⟩ ?_)))⟩;rw[hH1];let hlen:=ok.26;show OK (λi σ Hx=>ι H Hx/\Hx D=!.dK (nT n (ps.take i))/\∃v3 v4,σ=[!V.str n,!V.ref p,!V.ref D,v3,v4]) ∅ ⟨s1,hD1,(uY none none rfl)⟩
  (λi σ Hx _ z=>⟨hT _,.inl (.inl (z.1 _ _ hp))⟩) ?_ ?_
 ·rintro i x y U σ Hx hx hy hU ⟨sx,hDx,v3,v4,rfl⟩
  rw[Ϥ,Ξ] at hx;rw[Ξ] at hy;cases e:ps[i]? with
  | none=>rw[e] at hx;cases hx
  | some z=>
   rw[e] at hx hy;cases hx;cases hy;show(fk U _ rfl (.inl (.inl Δ)) rfl ?_);walk1;let nUD:D≠U:=λq=>by rw[<-q,hDx] at hU;cases hU
   let Jg:upd Hx U (.tup [V.str z.1,z.2.1]) D=!.dK (nT n (ps.take i)):=(ν nUD).trans hDx;let hz:=Β e;let hps:ps=ps.take i++z::ps.drop (i+1):=by
    rw[<-(Α.mp e).2,<-List.drop_eq_getElem_cons ((Α.mp e).1),Jc]
   let aik:(.inr z.1:Key)∉(nT n (ps.take i)).map (·.1):=by
    let nd:=ok.nd;rw[hps,Ϣ,ϒ,Ϛ,ϗ] at nd;unfold nT;simp only[ϒ,Ϥ,Ι,μ,zO,yr];show⟨λq=>?_,?_⟩
    ·let q2:=db q
     show nd.1 (by rw[<-q2];simp)
    ·rintro⟨x,hx,q⟩
     show nd.2.2.2 x.1 (μ.mpr (δ x hx rfl)) z.1 ∅ (db q)
   show dG (jN.k (k:=.inr z.1) Jg (υ (show(nT n (ps.take i)).4<=8 by unfold nT;simp;lk) "!")) ⟨(sx.trans (ι.upd hU)).wr hD,?_⟩;rw[nV aik];let e2:ps.take (i+1)=ps.take i++[z]:=by rw[U8,e];rfl
   show Δ.trans ?_;rw[e2];unfold nT;simp
 ·rintro σ Hx ⟨sx,hDx,v3,v4,rfl⟩
  walk1;rw[Η,Η,ϴ] at hDx;show q D Hx hD sx hDx
def IL:T.B0.O P w mg base 3 (OW (S6 a.cc a.cM a.bK a.bJ a.b9 a.b6)):=by
 walk_at "h ok B0 HW R D";(revert h;show Ve λn pa ps hD hn ok q=>?_)
 show(δ _ (Λ (Ϻ 1 HW (ϓ K hr ϵ ο))
   (Τ (ϔ (ϥ T.BX (EA T) hr ϋ (aC (av (aD) (ap (aC aw)) (fM ["event","name"] ["event","name"] (Υ qY) (s!"c") (aW (Fk T.F9 aw (λ_ _=>rfl))) (λC₁ s₁ H₁ f₁=>(ϥ T.Eo (LL T) hr ϋ (bC ϵ (ϓ K hr aw ϵ))))))))))) ?_)
 obtain⟨hm,hT⟩:(n,V.ref pa)∈[(Κ "hail",V.ref a.cc),("put",V.ref a.cM),("begin",V.ref a.bK),("close",V.ref a.bJ),("drop",V.ref a.b9),("turn",V.ref a.b6)]/\∀H,iV K H pa ((ps.map (·.1)).map V.str):=by
  generalize ps.map (·.1)=l at hn;rcases Wq hn with h | h | h | h | h | h<;>cases h
  ·show⟨bI 0 rfl,T.ni⟩
  ·show⟨bI 1 rfl,T.pB⟩
  ·show⟨bI 2 rfl,T.lS⟩
  ·show⟨bI 3 rfl,T.lR⟩
  ·show⟨bI 4 rfl,T.nh⟩
  ·show⟨bI 5 rfl,T.ng⟩
 walk1;show ϙ (bH.k (k:=.inr "event") hD) ⟨"!",λp hp=>(ac (n,.ref pa) hm rfl (Sk (hT _) ?_))⟩;let nDp:D≠p:=λz=>by rw[<-z,hD] at hp;cases hp
 let hlen:=ok.26;let tM:∀x∈ps,a8 (nT n ps) (.inr x.1)=!x.2.1:=by
  intro x hx;let nd:=ok.nd;rw[Ϛ] at nd;unfold nT;rw[cK (λq=>nd.1 (by rw[db q];show μ.mpr (δ x hx rfl)))];show AL nd.2 hx
 generalize Ra:upd H p (.lst [((.inr "event":Key),V.str n).2])=H0;let s0:ι H H0:=by rw[<-Ra];show ι.upd hp
 let Gp:H0 p=!.lst [V.str n]:=by rw[<-Ra];show Δ
 show Ku hT (ϊ (show((ps.map (·.1)).map V.str).4<=7 by simp;lk) "!") (DY ps) (λx H' hx s' Qe qe=>?_) λD2 H2 Jg s2 CN=>?_
 ·rw[Ϥ] at hx
  (show Ϗ (μ.mp hx) λz hz ϐ=>?_;subst ϐ);let qe2:=λkh UH=>by
   let e:=qe kh UH;rw[show DY ps ((V.str∘λx=>x.fst) z)=V.str (S z.2.2) from AM (Ϛ.mp ok.nd).2 hz] at e;show e
  change _;simp only[zO];walk1;(show cW (ok.part z hz) λo1 o2 o3=>?_);let g:=bH.k (k:=.inr z.1) (s' _ _ (s0 _ _ hD));rw[tM z hz] at g;show ϙ g (ac z.2.2 o1 () (qe2 _ (ι.refl _)))
 ·rw[OL (Ϛ.mp ok.nd).2] at CN
  let nn:n.cps.toList.4<=8/\∀c∈n.6,c < 128:=by
   generalize ps.map (·.1)=l at hn;rcases Wq hn with h | h | h | h | h | h<;>cases h<;>decide +kernel
  let xQ:H2 p=!.lst (tx [n.6]):=by
   rw[s2 _ _ Gp];change _=!HO.lst [V.str (S n.6)];rw[<-Ap n]
  show Mw (.inl (.inl xQ)) (.inl (.inl CN)) (ϊ (show(tx [n.6]).4+(tx (ps.map λx=>x.2.2)).4<=8 by unfold tx;simp;lk) "!") λu hu=>?_;show(δ u rfl (ac (n.6::ps.map λ(x:Part)=>x.2.2) (.inl (.inl ?_)) ?_ (λH' s'=>q H' (s0.trans (s2.trans ((ι.upd hu).trans s'))) (SW ok nn.1 nn.2))))
  ·show Δ.trans ?_
   unfold tx;simp
  ·let h2:((n.6::ps.map λx=>x.2.2).map be).72<=8+7 * 201:=by
    rw[ϒ,cH];let h3:∀l:-Part,(∀x∈l,x.2.2.4<=201)->((l.map λx=>x.2.2).map be).72<=l.4 * 201:=by
     intro l
     induction l with
     | nil=>intro _;simp
     | cons x r ih=>
      intro h;let a:=h x ∅;let b:=ih λy hy=>h y (by simp[hy]);simp only[ϒ,cH,ω] at b ⊢;lk
    have:=h3 ps λx hx=>(ok.part x hx).2.1;lk
   simp only[ω,Η];lk
def xy:T.qh.O P w mg base 1 (OU a.Ϡ):=by
 walk_at "h ok qh Pq R x S s I e";(revert h;show ay λdx hx q=>?_)
 show(δ _ (Λ (bU ϵ aw rfl)
   (Λ (bU ϵ cO rfl)
   (Λ (bU ϵ ο rfl)
   (Λ (bU ϵ (ap eR) rfl)
   (Τ (bU ϵ (ap eR) rfl)))))) ?_)
 show(dL _ dx ([]) hx T.gB T.lQ "!" (dL _ dx _ Δ T.gB T.vY (show 1 < 1000 by decide) (zS _ dx _ Δ T.gB T.pw (show 2 < 1000 by decide) (Ϝ _) (λsp oN=>?_))));let QW:sp≠x:=λz=>by rw[z,Δ] at oN;cases oN
 show(zS _ dx _ ((ν (ό QW)).trans Δ) T.gB T.nc (show 3 < 1000 by decide) (Ϝ _) (λpl lZ=>?_));let Jh:pl≠x:=λz=>by rw[z,Δ] at lZ;cases lZ
 show(dL _ dx _ ((ν (ό Jh)).trans Δ) T.gB T.qj (show 4 < 1000 by decide) ?_);let m:x∈[x]:=by simp
 let Qx:H sp=none:=by rw[ν QW,ν QW,ν QW] at oN;show oN
 let nps:pl≠sp:=λz=>by rw[z,ν QW,Δ] at lZ;cases lZ
 let Qy:H pl=none:=by
  rw[ν Jh,ν nps,ν Jh,ν Jh,ν Jh] at lZ;show lZ
 show q sp pl _ Qx Qy (ό nps) ?_ Δ ((ν QW).trans ((ν (ό nps)).trans ((ν QW).trans Δ))) ((ν Jh).trans Δ);show(ϰ.upd m (bZ hx)).trans ((ϰ.upd m (bZ Δ)).trans ((ϰ.upd m (bZ Δ)).trans ((ϰ.new oN).trans ((ϰ.upd m (bZ ((ν (ό QW)).trans Δ))).trans ((ϰ.new lZ).trans (ϰ.upd m (bZ ((ν (ό Jh)).trans Δ))))))))
def we:T.ot.O P w mg base 1 (Oy a.aX a.Ϡ):=by
 walk_at "h ok ot MY R x";(revert h;show ay λdx hx q=>?_)
 show(δ _ (Λ (bU ϵ (ap eR) rfl)
   (Τ (bU ϵ gb rfl))) ?_)
 show⟨Ϝ _,λdl Go=>?_⟩;let ndl:dl≠x:=λz=>by rw[z,hx] at Go;cases Go
 show(dL _ dx ([]) ((ν (ό ndl)).trans hx) T.ao T.ff "!" (λbz UX=>?_));let nbz:bz≠x:=λz=>by rw[z,Δ] at UX;cases UX
 let nbd:bz≠dl:=λz=>by rw[z,ν ndl,Δ] at UX;cases UX
 let aim:H bz=none:=by rw[ν nbz,ν nbd] at UX;show UX
 show(dL _ dx _ ((ν (ό nbz)).trans Δ) T.ao T.eJ (show 1 < 1000 by decide) ?_);let m:x∈[x]:=by simp
 show q dl bz _ Go aim ?_ ⟨⟨dx,Δ⟩,?_,rfl,λi u y h=>(by simp at h),gw,(ac ([]) ?_ (ξ _) (λz=>rfl)),∅⟩
 ·show(ϰ.new Go).trans ((ϰ.upd m (bZ ((ν (ό ndl)).trans hx))).trans ((ϰ.new UX).trans (ϰ.upd m (bZ ((ν (ό nbz)).trans Δ)))))
 ·show(ν ndl).trans ((ν (ό nbd)).trans ((ν ndl).trans Δ))
 ·show(ν nbz).trans Δ
def lV:T.iO.O P w mg base 3 (OQ a.aX a.Ϡ):=by
 walk_at "h ok iO K3 R r S s";obtain⟨dl,bz,us,M,D,hs,q⟩:=h;show(δ _ (Τ (aE (Ϯ (qJ (tG hr)) aw (ϳ K ϵ) (by rfl)) (Τ fX) ϭ)) ?_);obtain⟨dx,qC⟩:=D.27;(show au D.Kn λkvs hb lb vb=>?_);walk1;let gg:=bH.k (k:=.inr s) hb;rw[vb s] at gg;show(aL _ dx _ qC T.ao T.eJ (δ _ (rZ dl bz) (Sh gg (δ _ rfl ?_))));rw[hs];show q
def jF:T.cX.O P w mg base 1 (Oz a.aX a.Ϡ):=by
 walk_at "h ok cX HZ R r";(revert h;show oK λdl bz us M D q=>?_);show(δ _ (Τ (ϔ (av (aD) (Ϲ (bF) (by rfl) T.fA cY (aC (ϳ K ϵ))) π))) ?_);obtain⟨dx,qC⟩:=D.27;walk1;show(aL _ dx _ qC T.ao T.ff (δ _ (qQ dl bz) (iD (.inl (.inl D.33)) ?_)));rw[qI,Η,D.26];show q
def ji:T.gZ.O P w mg base 1 (OA a.aX a.Ϡ):=by
 walk_at "h ok gZ Pr R r S s";(revert h;show oK λdl bz us M D q=>?_);show(δ _ (Τ (ϔ (Am (tG hr) (ϳ K ϵ) aw π ⟨rfl,rfl,rfl,rfl⟩))) ?_);obtain⟨dx,qC⟩:=D.27;(show au D.Kn λkvs hb lb vb=>?_);show(aL _ dx _ qC T.ao T.eJ (δ _ (rZ dl bz) (ac bz rfl (.inl ⟨kvs,.inl hb⟩) (δ _ (bH.k (k:=.inr s) hb) ?_))));rw[vb s];cases e:M.B s with
 | none=>rw[e] at q;show q
 | some n=>rw[e] at q;show q
def lW:T.iP.O P w mg base 3 (OR a.aX a.Ϡ):=by
 walk_at "h ok iP K4 R r S s";obtain⟨dl,bz,us,M,n,D,hs,q⟩:=h
 show(δ _ (Λ (aE (Ϯ (wH (tG hr)) aw (ϳ K ϵ) (by rfl)) (Τ fX) ϭ)
   (Τ (ϔ (ϓ K hr (ϳ K ϵ) aw)))) ?_)
 obtain⟨dx,qC⟩:=D.27;(show au D.Kn λkvs hb lb vb=>?_);walk1;let gg:=bH.k (k:=.inr s) hb;rw[vb s,hs] at gg;show(aL _ dx _ qC T.ao T.eJ (δ _ (rZ dl bz) (Sj gg (δ _ rfl (aL _ dx _ qC T.ao T.eJ (δ _ (rZ dl bz) (ϙ gg q)))))))
def fO:T.fc.O P w mg base 3 (OS a.aX a.Ϡ):=by
 walk_at "h ok fc MZ R r I k";(revert h;show oK λdl bz us M D=>gI λi u ϐ hu q=>?_;subst ϐ)
 show(δ _ (Λ (aE (PW.pt (pw_or (Ϯ E9 aw π (aq _)) (pw_or1 (Ϯ Aq aw (Ϲ (bF) (by rfl) T.fA cY (aC (ϳ K ϵ))) (aq _))))) (Τ fX) ϭ)
   (Τ (ϔ (ϓ K hr (ϳ K ϵ) (av Rr aw π))))) ?_)
 obtain⟨dx,qC⟩:=D.27;walk1
 ·let hi:=(Α.mp hu).1
  show(aL _ dx _ qC T.ao T.ff (δ _ (qQ dl bz) (iD (.inl (.inl D.33)) (δ _ rfl ?_))));rw[Η,Ψ ()];show(aL _ dx _ qC T.ao T.ff (δ _ (qQ dl bz) (dh (.inl (.inl D.33)) (bf () (by rw[show((i:Int)+1 - 1).9=i by lk,Ξ,hu];rfl)) q)))
def Cj:T.t6.O P w mg base 4 (Kz a.aX a.Ϡ):=by
 walk_at "h ok t6 Bk R r S s I e";(revert h;show mf λdl bz us iu i' M=>Jq λxs kE hs J8 CN q=>?_);let D:=kE.da
 show(δ _ (Λ (ϣ (bj ϵ T.ao T.iO (lV T) hr ϋ (aC aw)))
   (Λ (Ϻ 3 Bk (nJ ϵ T.ao T.cX.m (jF T) (hr.mono "!") T.cX.b .nil ϋ))
   (Λ (ϣ (bx PySem.F.plainAttrs_list PySem.F.slot_list_append PySem.F.type_list_append bE (ϳ K ϵ) (aC (zx T.WY (xy T) (hr.mono "!") rfl T.WW T.qh.b .nil ϋ (bC aw cO)))))
   (Λ (fZ fU (fY (ϳ K ϵ) aw (dS (tG hr))))
   (Τ (ϔ fU)))))) ?_)
 obtain⟨dx,qC⟩:=D.27;(show au D.Kn λkvs hb lb vb=>?_);lia;show(ϧ dx _ qC rfl ⟨dl,bz,us,M,D,hs,(ϧ dx _ qC rfl (CH dl bz us M D ?_))⟩);show(aL _ dx _ qC T.ao T.ff (ac _ (qQ dl bz) (.inl ⟨rfl,(qq _ (.inl (.inl D.33)))⟩) (λx Rb hx Ez SD=>(δ Rb Δ (λsp pl H1 oN lZ QW c1 FL sp1 pl1=>⟨rfl,?_⟩)))));let s1:ι H H1:=λb o hb=>c1.keep _ _ (by rw[ν (aj hb hx),ν (aj hb Ez)];show hb) (by simp;show aj hb hx);let l1:=s1 _ _ D.33;let b1:=s1 _ _ hb;let r1:=s1 _ _ qC;let nrd:r≠dl:=dQ r1 l1 (by intro z;cases z);let nrb:r≠bz:=dQ r1 b1 (by intro z;cases z);let nbd:=dQ b1 l1 (by intro z;cases z);let nxd:=dQ FL l1 (by intro z;cases z);let nxb:=dQ FL b1 (by intro z;cases z);show(dL dl _ _ rfl rfl l1 (by rw[Η,D.26];show υ J8 "!") ?_);let c2:ϰ [dl,bz] H1 (upd H1 dl (.lst (us.map V.ref++[V.ref x]))):=ϰ.upd ∅ (gY l1);let l2:upd H1 dl (.lst (us.map V.ref++[V.ref x])) dl=!.lst ((us++[x]).map V.ref):=by rw[Ϣ];show Δ
 let k2:∀b o,b≠dl->H1 b=!o->upd H1 dl (.lst (us.map V.ref++[V.ref x])) b=!o:=λb o hb h=>(ν hb).trans h;generalize upd H1 dl (.lst (us.map V.ref++[V.ref x]))=H2 at c2 l2 k2 ⊢;let b2:=k2 _ _ nbd b1;show(aL _ dx _ (k2 _ _ nrd r1) T.ao T.eJ (δ _ (rZ dl bz) (dG (jN.k (k:=.inr s) b2 (υ (show kvs.4<=1000 by lk) "!")) ?_)));let c3:ϰ [dl,bz] H2 (upd H2 bz (.dK (putK kvs (.inr s) (.int (M.ds.4+1))))):=ϰ.upd ∅ (d9 b2);let k3:∀b o,b≠bz->H2 b=!o->upd H2 bz (.dK (putK kvs (.inr s) (.int (M.ds.4+1)))) b=!o:=λb o hb h=>(ν hb).trans h;let ul:=D.26;let free:∀z,upd (upd H Rb (.own x)) x (.ins a.Ϡ Rb []) z=none->H z=none:=λz hz=>by
  let h1:z≠x:=λe=>by rw[e,Δ] at hz;cases hz
  rw[ν h1] at hz;let h2:z≠Rb:=λe=>by rw[e,Δ] at hz;cases hz
  rw[ν h2] at hz;show hz
 let Qx:=free sp oN;let Qy:=free pl lZ;let DA:cu a.aX a.Ϡ (upd H2 bz (.dK (putK kvs (.inr s) (.int (M.ds.4+1))))) r dl bz (us++[x]) (M.begin s e):=by
  show⟨⟨dx,k3 _ _ nrb (k2 _ _ nrd r1)⟩,k3 _ _ (ό nbd) l2,by show(us++[x]).4=(M.ds++[(s,e,aH)]).4;rw[Ρ,Ρ,ul];rfl,λi u y h1 h2=>?_,?_,(ac _ Δ ?_ (λz=>?_)),λz=>?_⟩
  ·let h2':(M.ds++[(s,e,aH)])[i]?=!y:=h2
   by_cases ci:i < us.4
   ·rw[ϟ ci] at h1
    rw[ϟ ()] at h2';(show EI (D.each i u y h1 h2') λd3 s3 p3 h3=>?_);let h3':=s1 _ _ h3;show(zR d3 s3 p3 (k3 _ _ (dQ h3' b1 (by intro z;cases z)) (k2 _ _ (dQ h3' l1 (by intro z;cases z)) h3')))
   ·rw[Ϙ ()] at h1
    rw[Ϙ ()] at h2';let hi0:i - us.4=0:=by
     cases k:i - us.4 with
     | zero=>rfl
     | succ k=>rw[k] at h1;simp at h1
    rw[hi0] at h1;rw[show i - M.ds.4=0 by lk] at h2';simp at h1 h2';subst h1 h2';show(zR _ sp pl (k3 _ _ nxb (k2 _ _ nxd FL)))
  ·rw[ϗ]
   show⟨D.nd,∅,λb UP b2' Wj e'=>?_⟩;simp only[Ι,Μ,ϖ] at Wj;subst Wj;subst e';obtain⟨i,hi⟩:=ϛ UP;let uU:=(Α.mp hi).1;(show EI (D.each i b _ hi (Ε ())) λd3 s3 p3 h3=>?_);rw[hx] at h3;cases h3
  ·have:=dm kvs (.inr s) (.int (M.ds.4+1))
   change _<=M.sz+1;lk
  ·rw[jA]
   change _=(if z=s then some ((M.ds.4:Int)+1) else M.B z).map V.int
   by_cases e':z=s
   ·rw[ε (by rw[e']),ε e'];rfl
   ·rw[Ψ (λh=>e' (db h)),Ψ e']
    show vb z
  ·rcases Ο.mp z with z | z
   ·show D.ru z
   ·simp only[Ι,Μ,ϖ] at z
    rw[z,hx] at qC;cases qC
 let kk:∀b o,b≠dl->b≠bz->H1 b=!o->upd H2 bz (.dK (putK kvs (.inr s) (.int (M.ds.4+1)))) b=!o:=λb o h1 h2 h=>k3 _ _ h2 (k2 _ _ h1 h);let nsd:sp≠dl:=ό (aj D.33 Qx);let npd:=ό (aj D.33 Qy);let c0:ϰ [dl,bz] H (upd H2 bz (.dK (putK kvs (.inr s) (.int (M.ds.4+1))))):=(ϰ.of_same s1).trans (c2.trans c3);let nds:∀a∈iu,a∉[dl,bz]:=λa ha=>by
  obtain⟨i,hi⟩:=ϛ ha;let uU:=(Α.mp hi).1;have:=kE.l1;have:=kE.l3;(show Ϗ (kE.sp i a _ hi (Ε ())) λts e1 _=>?_);simp only[Ι,Μ,ϖ,yr];show⟨λz=>by have:=(Ϛ.mp kE.nd).1;rw[<-z] at this;show this (Φ _ ha),dQ e1 hb (by intro z;cases z)⟩
 let ndp:∀a∈i',a∉[dl,bz]:=λa ha=>by
  obtain⟨i,hi⟩:=ϛ ha;let uU:=(Α.mp hi).1;have:=kE.l2;have:=kE.l3;(show Ϗ (kE.pl i a _ hi (Ε ())) λts e1 _=>?_);simp only[Ι,Μ,ϖ,yr];show⟨λz=>by have:=(Ϛ.mp kE.nd).1;rw[<-z] at this;show this (Θ _ ha),dQ e1 hb (by intro z;cases z)⟩
 let old:∀a,(a∈iu\/a∈i')->∃ts,H a=!.lst ts:=λa ha=>by
  have:=kE.l1;have:=kE.l2;have:=kE.l3;rcases ha with ha | ha
  ·obtain⟨i,hi⟩:=ϛ ha
   let uU:=(Α.mp hi).1;(show Ϗ (kE.sp i a _ hi (Ε ())) λts e1 _=>?_);show⟨_,e1⟩
  ·obtain⟨i,hi⟩:=ϛ ha
   let uU:=(Α.mp hi).1;(show Ϗ (kE.pl i a _ hi (Ε ())) λts e1 _=>?_);show⟨_,e1⟩
 let last:∀{β:Type} {l:-β} {y z:β} {i:Nat},(l++[y])[i]?=!z->(i < l.4/\l[i]?=!z)\/(i=l.4/\z=y):=λ{β l y z i} h=>by
  by_cases c:i < l.4
  ·rw[ϟ c] at h;show .inl ⟨c,h⟩
  ·rw[Ϙ ()] at h
   have:i - l.4=0:=by
    cases k:i - l.4 with
    | zero=>rfl
    | succ k=>rw[k] at h;simp at h
   rw[this] at h;simp at h;show .inr ⟨(),h.17⟩
 let L1:=kE.l1;let L2:=kE.l2;let L3:=kE.l3;show q x sp pl _ hx Qx Qy c0 ⟨DA,by rw[Ρ,Ρ,L1];rfl,by rw[Ρ,Ρ,L2];rfl,by rw[Ρ,Ρ,L3];rfl,λi u a0 b0 y h1 h2 h3 h4=>?_,λi a0 e0 h1 h2=>?_,λi a0 e0 h1 h2=>?_,λe0 WH=>?_,?_⟩
 ·let Yj:(M.ds++[(s,e,aH)])[i]?=!y:=h4
  rcases last h1 with⟨p1,q1⟩ | ⟨p1,q1⟩
  ·rcases last h2 with⟨_,q2⟩ | ⟨p2,_⟩
   ·rcases last h3 with⟨_,q3⟩ | ⟨p3,_⟩
    ·rcases last Yj with⟨_,q4⟩ | ⟨p4,_⟩
     ·obtain⟨d0,e1⟩:=kE.ob i u a0 b0 y q1 q2 q3 q4
      show⟨d0,kk _ _ (dQ (s1 _ _ e1) l1 (by intro z;cases z)) (dQ (s1 _ _ e1) b1 (by intro z;cases z)) (s1 _ _ e1)⟩
     ·lk
    ·lk
   ·lk
  ·rcases last h2 with⟨p2,_⟩ | ⟨_,q2⟩
   ·lk
   ·rcases last h3 with⟨p3,_⟩ | ⟨_,q3⟩
    ·lk
    ·rcases last Yj with⟨p4,_⟩ | ⟨_,q4⟩
     ·lk
     ·rw[q1,q2,q3,q4]
      show⟨_,kk _ _ nxd nxb FL⟩
 ·rcases last h1 with⟨p1,q1⟩ | ⟨p1,q1⟩
  ·rcases last h2 with⟨_,q2⟩ | ⟨p2,_⟩
   ·show(kE.sp i a0 e0 q1 q2).bO c0 (nds a0 (Β q1))
   ·lk
  ·rcases last h2 with⟨p2,_⟩ | ⟨_,q2⟩
   ·lk
   ·rw[q1,q2]
    show(δ ([]) (kk _ _ nsd (ό (aj hb Qx)) sp1) (.nil))
 ·rcases last h1 with⟨p1,q1⟩ | ⟨p1,q1⟩
  ·rcases last h2 with⟨_,q2⟩ | ⟨p2,_⟩
   ·show(kE.pl i a0 e0 q1 q2).bO c0 (ndp a0 (Β q1))
   ·lk
  ·rcases last h2 with⟨p2,_⟩ | ⟨_,q2⟩
   ·lk
   ·rw[q1,q2]
    show(δ ([]) (kk _ _ npd (ό (aj hb Qy)) pl1) (.nil))
 ·rcases Ο.mp WH with h | h
  ·show kE.ok e0 h
  ·simp only[Ι,Μ,ϖ] at h
   rw[h];show⟨λy hy=>(by cases hy),"!","!"⟩
 ·obtain⟨n1,n2⟩:=Ϛ.mp kE.nd
  (show cW (ϗ.mp n2) λm1 m2 m3=>?_);let os:∀a,a∈iu\/a∈i'->a≠sp/\a≠pl:=λa ha=>by
   obtain⟨ts,e1⟩:=old a ha;show⟨aj e1 Qx,aj e1 Qy⟩
  show Ϛ.mpr ⟨λz=>?_,ϗ.mpr ⟨ϗ.mpr ⟨m1,∅,λa ha b hb=>?_⟩,ϗ.mpr ⟨m2,∅,λa ha b hb=>?_⟩,λa ha b hb=>?_⟩⟩
  ·rcases Ο.mp z with z | z
   ·rcases Ο.mp z with z | z
    ·show n1 (Φ _ z)
    ·simp only[Ι,Μ,ϖ] at z;show nsd z.17
   ·rcases Ο.mp z with z | z
    ·show n1 (Θ _ z)
    ·simp only[Ι,Μ,ϖ] at z;show npd z.17
  ·simp only[Ι,Μ,ϖ] at hb
   rw[hb];show(os a (.inl ha)).1
  ·simp only[Ι,Μ,ϖ] at hb
   rw[hb];show(os a (.inr ha)).2
  ·rcases Ο.mp ha with ha | ha
   ·rcases Ο.mp hb with hb | hb
    ·show m3 a ha b hb
    ·simp only[Ι,Μ,ϖ] at hb
     rw[hb];show(os a (.inl ha)).2
   ·simp only[Ι,Μ,ϖ] at ha
    rw[ha];rcases Ο.mp hb with hb | hb
    ·show ό (os b (.inr hb)).1
    ·simp only[Ι,Μ,ϖ] at hb
     rw[hb];show QW
def Do:T.vX.O P w mg base 4 (OV a.aX a.Ϡ):=by
 walk_at "h ok vX UU R r I k I a0 I b0";(revert h;show mf λdl bz us iu i' M=>ay λxs kE=>ug λi e s ϐ he hs hl q=>?_;subst ϐ);show(δ _ (Τ (ϣ (bx PySem.F.plainAttrs_list PySem.F.slot_list_append PySem.F.type_list_append bE (ϳ K (bj ϵ T.ao T.fc (fO T) hr ϋ (aC aw))) (aC (bi (bC cO fU)))))) ?_);let D:=kE.da;obtain⟨dx,qC⟩:=D.27;(show YB (kE.get he) λu s' p x du h1 h2 h3 h4 hu hS hP=>?_);rw[hs] at h2;cases h2;(show Ϗ (id hS) λts e1 e2=>?_);lia;show(ϧ dx _ qC rfl (CH dl bz us M D (ϧ i u rfl h1 (aL _ du _ hu T.gB T.nc (mh _ (D8 x s p) (.inl ⟨rfl,(qq _ (.inl (.inl e1)))⟩) "!" (λt ht=>(dL s _ _ rfl rfl ((ι.upd ht) _ _ e1) ?_ ?_)))))))
 ·have:=eV.length e2
  rw[Η] at this;rw[Η];show υ (show ts.4<=1000 by lk) "!"
 let sT:ι H (upd H t (.tup [V.int a0,V.int b0])):=ι.upd ht;let aT:upd H t (.tup [V.int a0,V.int b0]) t=!.tup (mV (a0,b0)):=Δ;generalize upd H t (.tup [V.int a0,V.int b0])=H1 at sT aT ⊢;let VG:=sT _ _ e1;let c2:ϰ [s] H1 (upd H1 s (.lst (ts.map V.ref++[V.ref t]))):=ϰ.upd ∅ (gY VG);let L2':bb (upd H1 s (.lst (ts.map V.ref++[V.ref t]))) s ((e.1++[(a0,b0)]).map mV):=by
  rw[Ϣ];show(hS.same sT).add c2 (c2.tup _ _ aT) (λts' h=>by rw[VG] at h;cases h;show Δ)
 show q _ ((ϰ.of_same sT).trans c2) ((kE.same sT).ah6 hs he c2 L2' (by rw[Ρ];simp;lk))
def qk:T.lI.O P w mg base 4 (Hr a.aX a.Ϡ):=by
 walk_at "h ok lI yE R r I k S z";(revert h;show mf λdl bz us iu i' M=>ay λxs kE=>ug λi u x ϐ hu hx hB q=>?_;subst ϐ);let D:=kE.da
 show(δ _ (Λ (Ϻ 3 yE (bj ϵ T.ao T.fc (fO T) hr ϋ (aC aw)))
   (Λ (bU fU cO rfl)
   (Τ (aE (Ϯ (cq (hU hr)) (bj ϵ T.ao T.gZ (ji T) hr ϋ (aC (ϳ K fU))) aw (aq _)) (Τ (ϣ (GT (ϳ K ϵ) (ϳ K fU) ⟨rfl,rfl,rfl,rfl⟩))) ϭ)))) ?_)
 obtain⟨dx,qC⟩:=D.27;lia;let aij:=(Α.mp hu).1;let L1:=kE.l1;let L2:=kE.l2;obtain⟨sp,oN⟩:∃s,iu[i]?=!s:=⟨iu[i]'(),Ε ()⟩
 obtain⟨pl,lZ⟩:∃s,i'[i]?=!s:=⟨i'[i]'(),Ε ()⟩
 obtain⟨du,hud⟩:=kE.ob i u sp pl x hu oN lZ hx;(show au D.Kn λkvs hb lb vb=>?_);let hui:=Β hu;let nur:r≠u:=λz=>D.ru (z▸hui);let uU:=(Α.mp hx).1;show(ϧ dx _ qC rfl (CH dl bz us M D (ϧ i u rfl hu (dL _ du _ hud T.gB T.pw (show 5 < 1000 by decide) ?_))));rw[SO];let c1:ϰ [u] H (upd H u (.ins a.Ϡ du (jY (x.1,x.2.1,z) sp pl))):=ϰ.upd ∅ (bZ hud);let u1:upd H u (.ins a.Ϡ du (jY (x.1,x.2.1,z) sp pl)) u=!.ins a.Ϡ du (jY (x.1,x.2.1,z) sp pl):=Δ;generalize upd H u (.ins a.Ϡ du (jY (x.1,x.2.1,z) sp pl))=H1 at c1 u1 ⊢;let r1:=c1.keep _ _ qC (by simp;show nur);let b1:=c1.keep _ _ hb (by simp;show (dQ hb hud (by intro z;cases z)));let l1:=c1.keep _ _ D.33 (by simp;show (dQ D.33 hud (by intro z;cases z)));let ea:∀j w y,us[j]?=!w->(M.ds.set i (x.1,x.2.1,z))[j]?=!y->∃dx sp pl,H1 w=!.ins a.Ϡ dx (jY y sp pl):=λj w y hw hy=>by
  by_cases e:i=j
  ·subst e
   rw[ar uU] at hy;cases hy;rw[hu] at hw;cases hw;show(zR du sp pl u1)
  ·rw[ak e] at hy
   (show EI (D.each j w y hw hy) λd3 s3 p3 h3=>?_);show(zR d3 s3 p3 (c1.keep _ _ h3 ?_));simp only[Ι,Μ,ϖ];intro ew;subst ew;obtain⟨i1,e1⟩:=Α.mp hu;obtain⟨i2,e2⟩:=Α.mp hw;rcases iy e with lt | lt
   ·show bv.mp D.nd i j i1 i2 lt (e1.trans e2.17)
   ·show bv.mp D.nd j i i2 i1 lt (e2.trans e1.17)
 let D1:cu a.aX a.Ϡ H1 r dl bz us ⟨M.ds.set i (x.1,x.2.1,z),M.B,M.sz⟩:=⟨⟨dx,r1⟩,l1,by rw[bq];show D.26,ea,D.nd,(ac kvs b1 lb vb),D.ru⟩
 show(ϧ dx _ r1 rfl (aL _ du _ u1 T.gB T.lQ (δ _ (AG _ sp pl) ⟨dl,bz,us,_,D1,?_⟩)));lia;rw[ε (ϱ (show(M.B x.1).getD 0=(i:Int)+1 by rw[hB];rfl))];show(aL _ dx _ r1 T.ao T.eJ (δ _ (rZ dl bz) (ac bz rfl (.inl ⟨kvs,.inl b1⟩) (aL _ du _ u1 T.gB T.lQ (δ _ (AG _ sp pl) (aL kvs (.inr x.1) _ b1 rfl (by rw[vb,hB];rfl) ?_))))));let c2:ϰ [u,bz] H1 (upd H1 bz (.dK (gP kvs (.inr x.1)))):=ϰ.upd ∅ (d9 b1);let DA:cu a.aX a.Ϡ (upd H1 bz (.dK (gP kvs (.inr x.1)))) r dl bz us (M.finish i x z):=by
  show⟨⟨dx,(ν (dQ qC hb (by intro z;cases z))).trans r1⟩,(ν (dQ D.33 hb (by intro z;cases z))).trans l1,by show us.4=(M.ds.set i (x.1,x.2.1,z)).4;rw[bq];show D.26,λj w y hw hy=>?_,D.nd,(ac _ Δ (ϊ (Ai _ _) lb) (λy=>?_)),D.ru⟩
  ·(show EI (ea j w y hw hy) λd3 s3 p3 h3=>?_)
   show(zR d3 s3 p3 ((ν (dQ h3 b1 (by intro z;cases z))).trans h3))
  ·rw[DR]
   change _=(if y=x.1 then none else M.B y).map V.int
   by_cases e:y=x.1
   ·rw[ε (by rw[e]),ε e];rfl
   ·rw[Ψ (λh=>e (db h)),Ψ e]
    show vb y
 let c0:=(c1.mono ∅).trans c2;let nl:∀a ts,H a=!.lst ts->a∉[u,bz]:=λa ts ha=>by
  (show cW (kE.kinds ha) λ_ k2 k3=>?_);simp only[Ι,Μ,ϖ,yr];show⟨λz=>k3 (z▸hui),k2⟩
 show q _ c0 ⟨DA,kE.l1,kE.l2,kE.l3,λj w a0 b0 y h1 h2 h3 h4=>?_,λj a0 e0 h1 h2=>?_,λj a0 e0 h1 h2=>?_,kE.ok,kE.nd⟩
 ·by_cases ej:i=j
  ·subst ej
   let Yj:(M.ds.set i (x.1,x.2.1,z))[i]?=!y:=h4;rw[ar uU] at Yj;cases Yj;rw[hu] at h1;rw[oN] at h2;rw[lZ] at h3;cases h1;cases h2;cases h3;show⟨du,(ν (dQ u1 b1 (by intro z;cases z))).trans u1⟩
  ·let Yj:(M.ds.set i (x.1,x.2.1,z))[j]?=!y:=h4
   rw[ak ej] at Yj;obtain⟨dd,e1⟩:=kE.ob j w a0 b0 y h1 h2 h3 Yj;show⟨dd,c0.keep _ _ e1 ?_⟩;simp only[Ι,Μ,ϖ,yr];show⟨XY D.nd h1 hu (ό ej),dQ e1 hb (by intro z;cases z)⟩
 ·(show Ϗ (id (kE.sp j a0 e0 h1 h2)) λts e1 _=>?_)
  show(kE.sp j a0 e0 h1 h2).bO c0 (nl _ _ e1)
 ·(show Ϗ (id (kE.pl j a0 e0 h1 h2)) λts e1 _=>?_)
  show(kE.pl j a0 e0 h1 h2).bO c0 (nl _ _ e1)
def mO:T.jg.O P w mg base 4 (KC a.aX a.Ϡ):=by
 walk_at "h ok jg M0 R r I k";(revert h;show mf λdl bz us iu i' M=>ay λxs kE=>gI λi e ϐ he q=>?_;subst ϐ);show(δ _ (Τ (ϔ (bP (ib) rfl T.iS ij (aC (ϳ K (bj ϵ T.ao T.fc (fO T) hr ϋ (aC aw))))))) ?_);let D:=kE.da;obtain⟨dx,qC⟩:=D.27;(show YB (kE.get he) λu s p x du h1 h2 h3 h4 hu hS hP=>?_);(show Ϗ (id hS) λts e1 e2=>?_);show(ϧ dx _ qC rfl (CH dl bz us M D (ϧ i u rfl h1 (aL _ du _ hu T.gB T.nc (δ _ (D8 x s p) (ϧ s _ rfl (.inl (.inl (.inl e1))) (λl hl=>q l _ hl (ι.upd hl) (δ ts Δ (e2.bO (ϰ.of_same (A:=[]) (ι.upd hl)))))))))))
def sV:T.lJ.O P w mg base 4 (Fu a.aX a.Ϡ):=by
 walk_at "h ok lJ Ji R r I k";(revert h;show mf λdl bz us iu i' M=>ay λxs kE=>gI λi e ϐ he q=>?_;subst ϐ);show(δ _ (Τ (ϔ (bP (ib) rfl T.iS ij (aC (ϳ K (bj ϵ T.ao T.fc (fO T) hr ϋ (aC aw))))))) ?_);let D:=kE.da;obtain⟨dx,qC⟩:=D.27;(show YB (kE.get he) λu s p x du h1 h2 h3 h4 hu hS hP=>?_);(show Ϗ (id hP) λts e1 e2=>?_);show(ϧ dx _ qC rfl (CH dl bz us M D (ϧ i u rfl h1 (aL _ du _ hu T.gB T.qj (δ _ (Hs x s p) (ϧ p _ rfl (.inl (.inl (.inl e1))) (λl hl=>q l _ hl (ι.upd hl) (δ ts Δ (e2.bO (ϰ.of_same (A:=[]) (ι.upd hl)))))))))))
def xA:T.qi.O P w mg base 1 (OB a.aX a.Ϡ):=by
 walk_at "h ok qi je R r I t";(revert h;show oK λdl bz us M D=>ke λhl q=>?_)
 show(δ _ (Λ (Ϻ 2 je (ap eR))
   (Λ (cQ ϡ rfl (SL rfl T.km (ϳ K ϵ)) (jo rfl (bh (am (i:=3) je.nd rfl (aP rfl)) (bh (am (i:=4) je.nd rfl (aP rfl)) jn))) (Τ (aE (PW.pt (pw_and (Ϯ (cq (hU hr)) (ϳ K (pv 4)) ο (aq _)) (pw_and1 (Ϯ mU (ϳ K (pv 4)) aw (aq _))))) (Τ (ϣ (bx PySem.F.plainAttrs_list PySem.F.slot_list_append PySem.F.type_list_append bE cO (aC fU)))) ϭ)))
   (Τ (ϔ cO)))) ?_)
 obtain⟨dx,qC⟩:=D.27;lia;show⟨Ϝ _,λN hN=>?_⟩;let sN:ι H (upd H N (.lst [])):=ι.upd hN;let aN:upd H N (.lst []) N=!.lst []:=Δ;generalize upd H N (.lst [])=H1 at sN aN ⊢;let kp:∀H',ϰ [N] H1 H'->ι H H':=λH' c b o hb=>c.keep _ _ (sN _ _ hb) (by simp;show aj hb hN);let ul:=D.26;show(aL _ dx _ (sN _ _ qC) T.ao T.ff (δ _ (qQ dl bz) (ϧ dl _ rfl (.inl (.inl (sN _ _ D.33))) (Kl (λi σ H'=>ϰ [N] H1 H'/\H' N=!.lst ((i8 M t i).map V.int)/\∃v3 v4,σ=[!V.ref r,!V.int t,!V.ref N,v3,v4]) ⟨ϰ.refl _,aN,(uY none none rfl)⟩ (λi σ H' _ z=>.inl (.inl (kp _ z.1 _ _ D.33))) ?_ ?_))))
 ·rintro i y U σ H' hy hU ⟨c,hN',v3,v4,rfl⟩
  rw[Ξ] at hy;(show Ϗ (χ.mp hy) λu hu ϐ=>?_;subst ϐ);let hi:=(Α.mp hu).1;obtain⟨x,hx⟩:∃x,M.ds[i]?=!x:=⟨M.ds[i]'(),Ε ()⟩
  (show EI (D.each i u x hu hx) λdu sp pl hud=>?_);show(fk U _ rfl (.inl (.inl Δ)) rfl ?_);let sU:ι H' (upd H' U (.tup [V.int (i+1),V.ref u])):=ι.upd hU;generalize upd H' U (.tup [V.int (i+1),V.ref u])=H2 at sU ⊢;let cU:=c.trans (ϰ.of_same sU);let u2:=sU _ _ (kp _ c _ _ hud);let N2:=sU _ _ hN';let Wv:(i8 M t i).4<=1000:=by
   unfold i8;rw[Η];show ϊ (cw _ _) ?_;rw[d5];lk
  let hod:odd M t i=(decide (x.2.2=aH) && decide (x.2.1<=t)):=by unfold odd;rw[hx]
  let skip:odd M t i=false->ϰ [N] H1 H2/\H2 N=!.lst ((i8 M t (i+1)).map V.int):=λz=>⟨cU,by rw[AH,Ψ (by rw[z];show ώ),cV];show N2⟩
  lia;show(cJ _ _ rfl (ϧ _ _ rfl rfl ⟨_,du,_,u2,T.gB,T.pw,_,SN x sp pl,?_⟩));lia
  by_cases o1:x.2.2=aH
  ·rw[ε (show decide (x.2.2="open")=true from ϱ o1)]
   show(aL _ du _ u2 T.gB T.vY (δ _ (SM x sp pl) ?_));lia
   by_cases o2:x.2.1<=t
   ·rw[ε (ϱ o2)]
    show⟨.inl ⟨rfl,(qq _ (.inl (.inl N2)))⟩,(agB _ _ _ rfl rfl N2 (by rw[Η];show υ Wv "!") (cU.trans (ϰ.upd ∅ (gY N2))) ?_ (uY _ _ rfl))⟩;rw[AH,ε (by rw[hod,ϱ o1,ϱ o2];rfl),Ϣ];show Δ
   ·rw[Ψ (by rw[ae o2];show ώ)]
    show(skip (by rw[hod,ae o2,U5])).imp_right λh=>⟨h,(uY _ _ rfl)⟩
  ·rw[Ψ (by rw[show decide (x.2.2="open")=false from ae o1];show ώ),Ψ ώ]
   show(skip (by rw[hod,ae o1];rfl)).imp_right λh=>⟨h,(uY _ _ rfl)⟩
 ·rintro σ H' ⟨c,hN',v3,v4,rfl⟩
  rw[Η,ul] at hN';lia;show q N _ hN (kp _ c) hN'
abbrev j9 (a:Adr):CK:=⟨a.cL,a.eQ,a.jR,a.cP,a.j7,a.aZ,a.aX,a.jf⟩
def yZ:T.rC.O P w mg base 1 (J5 a.j7):=by
 walk_at "h ok rC Q5 R r I p";(revert h;show dB λd M R q=>?_);show(δ _ (Τ (ϔ (YM (EO (RV (ϳ K ϵ) aw uh ⟨rfl,rfl,rfl,rfl⟩))))) ?_);obtain⟨dx,hr⟩:=R.27;(show au R.59 λkvs hd hk hl=>?_);walk1;show(aL _ dx _ hr T.lO T.lP (δ _ (vg M d) (ac d rfl (.inl ⟨kvs,.inl hd⟩) (δ kvs hd (ac (.inl p) rfl (λv hv=>?_) (λhv=>?_))))))
 ·let hs:(M.L p).11=true:=by rw[<-(hl p).2,hv];rfl
  let hn:v≠.bM:=λz=>by
   have:=(hl p).1;rw[hv] at this;obtain⟨x,hx⟩:=aJ.mp hs;rw[hx] at this;(revert this;show ay λt et _=>?_);rw[z] at et;cases et
  rw[show(!((decide (v=V.bM))))=(M.L p).11 by rw[hs,ae hn];rfl];let c:ϰ [d] H (upd H d (.dK (gP kvs (.inl p)))):=ϰ.upd ∅ (d9 hd);show q _ c ⟨⟨dx,(ν (ό (ό R.ne))).trans hr⟩,(ac _ Δ ?_ ((hl.drop p).bO c)),R.f0,R.fl,R.dr,λz hz=>?_⟩
  ·have:=Ai kvs (.inl p)
   show((gP kvs (.inl p)).4:Int)<=M.24;lk
  ·let OC:(if z=p then none else M.L z).11=true:=hz
   by_cases e:z=p
   ·rw[ε e] at OC;cases OC
   ·rw[Ψ e] at OC;show R.within z OC
 ·let hs:M.L p=none:=by
   have:=(hl p).2;rw[hv] at this;simpa using this.17
  rw[show(!((decide True)))=(M.L p).11 by rw[hs];rfl];let e:M.out p=M:=by
   unfold eX.out;have:(λq=>if q=p then none else M.L q)=M.L:=by
    funext z
    by_cases ez:z=p
    ·rw[ε ez,ez,hs]
    ·rw[Ψ ez]
   rw[this]
  show q H (ϰ.refl _) (by rw[e];show R)
def y6:T.lF.O P w mg base 3 (Hv (j9 a) a.Ϡ):=by
 walk_at "h ok lF QZ R z1 R D";(revert h;show dB λt A0 ϐ=>mf λd Z M m n kk=>yw λhS hD ND hv q=>?_;subst ϐ);show(δ _ (Τ (ϣ (bj (ϳ K ϵ) T.Ϸ T.rD (yX T) hr ϋ (aC (ϓ K hr aw ο))))) ?_);obtain⟨dx,iA⟩:=hS.pG;obtain⟨Jm,Yk⟩:=hS.snd.27;show(aL _ dx _ iA T.aa T.bu (δ _ (fj A0 t) ⟨Jm,_,Yk,rfl,ϙ (dg hD (OM n kk)) (Js _ _ _ _ _ hS.snd ND ⟨hv,hS.zo,λu H' c s' _ _=>q H' d Z (c.mono λb hb=>vt (aak hb)) kO (λ_ h=>h) ?_⟩)⟩));show hS.sends c s'
def y8:T.lH.O P w mg base 1 (Hw (j9 a) a.Ϡ):=by
 walk_at "h ok lH Q0 R z1 R D";(revert h;show dB λt A0 ϐ=>zQ λd Z M=>gI λm t' hS hD q=>?_;subst ϐ);show(δ _ (Τ (bU ϵ (ϓ K hr aw ο) rfl)) ?_);obtain⟨dx,iA⟩:=hS.pG;show ϙ (dg hD (Ws t')) (dL _ dx _ iA T.aa T.jv (show 7 < 1000 by decide) (q _ d Z (ϰ.upd (Ϭ) (bZ iA)) kO (λ_ h=>h) (hS.turned iA)))
def xB:T.jU.O P w mg base 5 (Ea (j9 a) a.Ϡ):=by
 walk_at "h ok jU Pm R z1 R D";(revert h;show dB λt A0 ϐ=>mf λd Z M m dd n=>Jq λe hS hD hB hl=>qp λhz hfx q=>?_;subst ϐ);show(δ _ (Τ (ϣ (bj (ϳ K ϵ) T.ao T.t6 (Cj T) hr ϋ (bC (ϓ K hr aw ο) (ϓ K hr aw ο))))) ?_);obtain⟨dx,iA⟩:=hS.pG;let I:=hS.36;obtain⟨EB,Dq⟩:=I.21;show(aL _ dx _ iA T.aa T.az (δ _ (cN A0 t) ⟨EB,_,Dq,rfl,ϙ (dg hD (OY dd n e)) (ϙ (dg hD (aaj dd n e)) (zT _ _ _ _ _ _ (GD _ I.dx hB hl hz (λu sp pl H' hu oN lZ c Rb=>?_))))⟩));show q H' _ _ (c.mono λb hb=>vv (AU (ad7 hb))) (aam hu oN lZ) (λ_ h=>Θ _ h) (hS.begun hu oN lZ c Rb hfx)
def xC:T.jV.O P w mg base 5 (Eb (j9 a) a.Ϡ):=by
 walk_at "h ok jV Pn R z1 R D";(revert h;show dB λt A0 ϐ=>mf λd Z M m j x=>yw λhS hD hx hB q=>?_;subst ϐ);show(δ _ (Τ (ϣ (bj (ϳ K ϵ) T.ao T.lI (qk T) hr ϋ (bC (ϓ K hr aw ο) ο)))) ?_);obtain⟨dx,iA⟩:=hS.pG;let I:=hS.36;obtain⟨EB,Dq⟩:=I.21;obtain⟨u,hu⟩:=I.dx.ad8 hx;show(aL _ dx _ iA T.aa T.az (δ _ (cN A0 t) ⟨EB,_,Dq,rfl,(ϙ (dg hD (Wr (j+1))) (zT _ _ _ _ _ _ (δ _ I.dx (dL j u x () hu hx hB (λH' c Rb=>?_)))))⟩));show q H' d Z (c.mono λb hb=>vv (S9 hu hb)) kO (λ_ h=>h) (hS.finished hu c Rb)
def y9:T.lG.O P w mg base 5 (Hy (j9 a) a.Ϡ):=by
 walk_at "h ok lG pN R z1 R D";(revert h;show dB λt A0 ϐ=>mf λd Z M m j x=>Jq λe hS hD nD hx=>yz λhB he Sz q=>?_;subst ϐ)
 show(δ _ (Λ (cQ ϡ rfl (aW (bj (ϳ K ϵ) T.ao T.jg (mO T) hr ϋ (aC (ϓ K hr aw ο)))) (jo rfl (bh (am (i:=2) pN.nd rfl (aP rfl)) (bh (am (i:=3) pN.nd rfl (aP rfl)) jn))) (Τ (ϣ (bj (ϓ K hr (ϳ K ϵ) cO) T.lO T.rC (yZ T) hr ϋ (aC fU)))))
   (Τ (ϣ (bj (ϳ K ϵ) T.ao T.lI (qk T) hr ϋ (bC (ϓ K hr aw ο) ο))))) ?_)
 obtain⟨dx,iA⟩:=hS.pG;let I:=hS.36;obtain⟨EB,Dq⟩:=I.21;obtain⟨u,hu⟩:=I.dx.ad8 hx;lia;show(aL _ dx _ iA T.aa T.az (δ _ (cN A0 t) ⟨EB,_,Dq,rfl,(ϙ (dg hD (MH (j+1))) (zT _ _ _ _ _ _ (δ _ I.dx (ϧ j e () he (λL H1 hL s1 tl=>?_)))))⟩));(show au tl.atL λts sq tl' tg=>?_);rw[Η] at tl';let aew:=s1 _ _ iA;let hD1:=s1 _ _ hD;let nL:L∉A0.ds:=λz=>by
  obtain⟨i,hi⟩:=ϛ z;let uU:=(Α.mp hi).1;let q1:=hS.46;let q2:=hS.kM;(show Ϗ ((hS.row i _ L _ (Ε ()) hi (Ε ())).59) λ_ e1 _=>?_);rw[hL] at e1;cases e1
 show di (.inl (.inl sq)) (cy (xs:=ts.map V.ref) (λi σ H'=>(∃v3 v4,σ=[!V.ref A0.st,!V.ref D,v3,v4])/\ϰ A0.ds H1 H'/\Cz (j9 a) a.Ϡ t H' A0 d Z { M with Ms:=mW M.Ms (e.1.take i) } m) ⟨(uY none none rfl),ϰ.refl _,hS.same s1⟩ (λi σ H' _ z=>?_) ?_ ?_)
 ·show .inl (.inl (z.2.1.keep _ _ sq nL))
 ·rintro i x σ H' hx ⟨⟨v3,v4,rfl⟩,c,S'⟩
  (show kf (tg i x hx) λtt r ϐ hr' ht=>?_;subst ϐ);rw[Ξ] at hr';(show Ϗ (χ.mp hr') λy hy ϐ=>?_;subst ϐ);obtain⟨o1,o2⟩:=Sz y (Β hy);lia;obtain⟨p,hp⟩:∃p:Nat,y.1=(p:Int):=⟨y.1.9,()⟩
  let lZ:p < A0.rs.4:=by lk
  let q1:=hS.46;let q2:=S'.kM;let rJ:A0.rs[p]?=some A0.rs[p]:=by simp
  let M9:A0.ds[p]?=!A0.ds[p]'():=by simp
  let hm1:(mW M.Ms (e.1.take i))[p]?=!((mW M.Ms (e.1.take i))[p]'(by rw[q2];show lZ)):=by simp
  generalize A0.rs[p]=r at rJ;generalize A0.ds[p]'()=dd at M9;generalize (mW M.Ms (e.1.take i))[p]'(by rw[q2];show lZ)=mm at hm1;let R:=S'.row p r dd mm rJ M9 hm1;obtain⟨XX,qC⟩:=R.27;obtain⟨Rb,SA⟩:=S'.pG;let hrr:fK K H' A0.rl (A0.rs.map V.ref):=.inl (.inl S'.oW);show(fk _ _ rfl (.inl (.inl (c.tup _ _ ht))) rfl (cJ _ _ rfl (ϧ _ _ rfl rfl (aL _ Rb _ SA T.aa T.ju (δ _ (AS A0 t) ?_)))));rw[hp];show dh (v:=.ref r) hrr (bf () (by rw[bG,Ξ,rJ];rfl)) (ϧ XX _ qC rfl (cJ dd mm R (λH2 c2 R2=>?_)));let Vs:e.1.take (i+1)=e.1.take i++[y]:=by rw[cR,hy];rfl
  show⟨(uY _ _ rfl),c.trans (c2.mono λb hb=>by rw[Ζ.mp hb];show Β M9),?_⟩;rw[Vs,KF,hp,bG];show S'.aia rJ M9 hm1 c2 R2
 ·rintro σ H' ⟨⟨v3,v4,rfl⟩,c,S'⟩
  rw[Η,tl',ϴ] at S';let I':=S'.36;obtain⟨Rb,SA⟩:=S'.pG;obtain⟨aiq,air⟩:=I'.21;let cds:ϰ (OX A0 (fD A0 d)) H H':=(ϰ.of_same s1).trans (c.mono λb hb=>S8 hb);lia;show(aL _ Rb _ SA T.aa T.az (δ _ (cN A0 t) ⟨aiq,_,air,rfl,(ϙ (dg (cds.keep _ _ hD nD) (MH (j+1))) (zT _ _ _ _ _ _ (δ _ I'.dx (dL j u x () hu hx hB (λH2 c2 ME=>?_)))))⟩));show q H2 d Z (cds.trans (c2.mono λb hb=>vv (S9 hu hb))) kO (λ_ h=>h) (S'.finished hu c2 ME)
def Cm:T.mZ.O P w mg base 5 (MG (j9 a) a.Ϡ):=by
 walk_at "h ok mZ re R z1 R D";(revert h;show dB λt A0 ϐ=>mf λda Z M md n kk=>mf λdd i pl key wo m=>CG λhS hD nD hm hml=>yz λND hL hkk q=>?_;subst ϐ)
 show(δ _ (Λ (Ϻ 2 re (ϓ K hr aw ο))
   (Λ (Ϻ 3 re (zw (ϓ K hr (ϳ K ϵ) cO) T.lO T.Qn (LI T) (hr.mono "!") T.Qo .nil ϋ (ϕ (ϓ K hr aw ο) (bC (ϓ K hr aw ο) (ϓ K hr aw ο)))))
   (Λ (ϣ (bj (ϳ K ϵ) T.Ϸ T.rE (yW T) hr ϋ (ϕ (ϓ K hr aw ο) (ϕ (ϓ K hr aw ο) (bC cO fU)))))
   (Τ (aE (Ϯ (kI (hU hr)) (ϓ K hr aw ο) π (aq _)) (Τ (ϣ (bj (ϳ K ϵ) T.ao T.vX (Do T) hr ϋ (ϕ (ϓ K hr aw ο) (bC cO fU))))) ϭ))))) ?_)
 (show zU (hS.ad9 hm) λr d rJ M9=>?_);obtain⟨dx,iA⟩:=hS.pG;let brd:∀b∈[r,d],b∈OX A0 (fD A0 da):=λb hb=>by
  simp only[Ι,Μ,ϖ] at hb;rcases hb with rfl | rfl
  ·show aal (Β rJ)
  ·show S8 (Β M9)
 walk_at "e2";let hrr:fK K H A0.rl (A0.rs.map V.ref):=.inl (.inl hS.oW);let R:=hS.row i r d m rJ M9 hm;obtain⟨XX,qC⟩:=R.27;show ϙ (dg hD (aac n kk dd i pl key wo)) (aL _ dx _ iA T.aa T.ju (δ _ (AS A0 t) (dh (v:=.ref r) hrr (bf () (by rw[bG,Ξ,rJ];rfl)) (ϧ XX _ qC (Sy m d) ?_))));show ϙ (dg hD (aad n kk dd i pl key wo)) (ϙ (dg hD (Wn n kk dd i pl key wo)) (ϙ (dg hD (Fs n kk dd i pl key wo)) ?_));show(zS d m (key,wo,dd) rfl rfl rfl R () (λH1 c1 R1=>?_));walk_at "ex";let S1:=hS.ad2 rJ M9 c1 R1;obtain⟨dx1,aew⟩:=S1.pG;obtain⟨Jm,Yk⟩:=S1.snd.27;let hD1:=c1.keep _ _ hD λhb=>nD (brd _ hb);show(aL _ dx1 _ aew T.aa T.bu (δ _ (fj A0 t) ⟨Jm,_,Yk,rfl,ϙ (dg hD1 (ON n kk dd i pl key wo)) (ϙ (dg hD1 (OO n kk dd i pl key wo)) ?_)⟩));show(EH _ _ _ _ _ S1.snd hL hkk ND S1.zo (λH2 c2 s2=>?_));walk_at "es";let c2':ϰ [A0.l,A0.t,A0.p] H1 H2:=c2.mono ∅;let Jg:=c2'.keep _ _ hD1 λhb=>nD (vt (aak hb));let S2:=S1.sends c2' s2;let c02:=(c1.mono brd).trans (c2'.mono λb hb=>vt (aak hb));show ϙ (dg Jg (Fs n kk dd i pl key wo)) ?_;lia;rcases q with⟨rfl,q⟩ | ⟨j,e,rfl,he,hle,q⟩
 ·rw[Ψ ∅]
  show q H2 da Z c02 kO (λ_ h=>h) S2
 ·rw[ε (by simp;lk)]
  obtain⟨ME,aa1⟩:=S2.pG;let I2:=S2.36;obtain⟨EB,Dq⟩:=I2.21;obtain⟨sp,oN⟩:=I2.dx.ah' he;show(aL _ ME _ aa1 T.aa T.az (δ _ (cN A0 t) ⟨EB,_,Dq,rfl,(ϙ (dg Jg (Fs n kk (j+1) i pl key wo)) (zT _ _ _ _ _ _ (δ _ I2.dx (dL j e sp () he oN hle (λH3 c3 Wp=>?_)))))⟩));show q H3 da Z (c02.trans (c3.mono λb hb=>?_)) kO (λ_ h=>h) (S2.held oN he c3 Wp);rw[Ζ.mp hb];show vv (AT (Β oN))
def Qz:T.IA.O P w mg base 6 (KG (j9 a) a.Ϡ):=by
 walk_at "h ok IA Po R z1 R D";(revert h;show ay λA0 ϐ=>Ni λd Z X X' e hS hD nD hfx st q=>?_;subst ϐ)
 show(δ _ (Λ (Ϻ 2 Po (Fk T.F6 (ϓ K hr aw ο) (λ_ _=>rfl)))
   (Τ (ϣ (SS (.cons (y6 T) (hr.mono "!") T.lF.88 T.lF.b ϋ (.cons (Cm T) (hr.mono "!") T.mZ.88 T.mZ.b ϋ (.cons (xB T) (hr.mono "!") T.jU.88 T.jU.b ϋ (.cons (xC T) (hr.mono "!") T.jV.88 T.jV.b ϋ (.cons (y9 T) (hr.mono "!") T.lG.88 T.lG.b ϋ (.cons (y8 T) (hr.mono "!") T.lH.88 T.lH.b ϋ .nil)))))) cO (bC ϵ aw))))) ?_)
 cases e with
 | cr n k=>
  (revert st;show qp λh1 h2 ϐ=>?_;subst ϐ);show ϙ (dg hD (rfl)) (ac ("hail",V.ref a.k9) ∅ rfl (ϧ _ (Hv (j9 a) a.Ϡ) rfl ∅ ⟨X.t,A0,rfl,d,Z,X.M,X.m,n,k,hS,hD,h1,h2,q⟩))
 | put n kk dd i pl key wo=>
  (revert st;show Jq λmr h1 h2 h3 h4=>ke λh5 h=>?_);show ϙ (dg hD (rfl)) (ac ("put",V.ref a.mY) ∅ rfl (ϧ _ (MG (j9 a) a.Ϡ) rfl ∅ ⟨X.t,A0,rfl,d,Z,X.M,X.m,n,kk,dd,i,pl,key,wo,mr,hS,hD,nD,h1,h2,h3,h4,h5,?_⟩));rcases h with⟨h6,rfl⟩ | ⟨j,e,h6,h7,h8,rfl⟩
  ·show .inl ⟨h6,q⟩
  ·show .inr (fk j e h6 h7 h8 q)
 | begin dd n e=>
  (revert st;show yz λh1 h2 h3 ϐ=>?_;subst ϐ);show ϙ (dg hD (rfl)) (ac ("begin",V.ref a.jS) ∅ rfl (ϧ _ (Ea (j9 a) a.Ϡ) rfl ∅ ⟨X.t,A0,rfl,d,Z,X.M,X.m,dd,n,e,hS,hD,h1,h2,h3,hfx,q⟩))
 | close dd=>
  (revert st;show su λj x ϐ h1 h2 gO=>?_;subst ϐ;subst gO);show ϙ (dg hD (rfl)) (ac ("close",V.ref a.jT) ∅ rfl (ϧ _ (Eb (j9 a) a.Ϡ) rfl ∅ ⟨X.t,A0,rfl,d,Z,X.M,X.m,j,x,hS,hD,h1,h2,q⟩))
 | drop dd=>
  (revert st;show ug λj x e ϐ h1 h2 h3=>ke λh4 gO=>?_;subst ϐ;subst gO);show ϙ (dg hD (rfl)) (ac ("drop",V.ref a.lh) ∅ rfl (ϧ _ (Hy (j9 a) a.Ϡ) rfl ∅ ⟨X.t,A0,rfl,d,Z,X.M,X.m,j,x,e,hS,hD,nD,h1,h2,h3,(by rw[<-hS.kM];show h4),q⟩))
 | turn t'=>
  subst st;show ϙ (dg hD (rfl)) (ac ("turn",V.ref a.lm) ∅ rfl (ϧ _ (Hw (j9 a) a.Ϡ) rfl ∅ ⟨X.t,A0,rfl,d,Z,X.M,X.m,t',hS,hD,q⟩))
def fI:T.fw.O P w mg base 7 (Fv (j9 a) a.Ϡ):=by
 walk_at "h ok fw tT R z1 R t";(revert h;show ay λA0 ϐ=>mf λd Z X ev u Ds=>yx λes Xs hC ht hE nev=>CG λnDs cx Wv h0 iA q=>?_;subst ϐ)
 show(δ _ (Λ (Ϻ 2 tT (ϓ K hr aw π))
   (Λ (aE (bc cO (by intro _;rfl)) (Τ (ϣ (bj (ϳ K ϵ) T.jw T.pq (ub T) hr ϋ (aC (fM ["self","asked","events","event"] ["self","asked","events",""] (Υ mX) (s!"c") (aW cO) (λC₁ s₁ H₁ f₁=>(ϥ T.B0 (IL T) hr ϋ (aC ϵ)))))))) ϭ)
   (Λ (cQ ϡ rfl (aW cO) (am (i:=3) tT.nd rfl (aP rfl)) (Τ (ϣ (ϥ T.IA (Qz T) hr ϋ (bC (ϳ K ϵ) fU)))))
   (Τ (ϔ (ϓ K hr aw π)))))) ?_)
 let l1:iV K H t [.ref ev,u]:=.inl (.inl ht);obtain⟨Dr,Cw⟩:=hC.pH;let zl:5000<=sizeLine:=by decide
 let hle:(Ds.map V.ref).4<=sizeLine:=by
  have:=hE.26;rw[Η];lk
 show SH λRz hRz=>?_;let lo:∀ls2 H2,ϰ (A0.fx++fD A0 d) H H2->Hu (j9 a) a.Ϡ X.t H2 A0 d Z { X.M with ls:=ls2 } X.m->ls2=qT X.25 es->Rz { nx:=λx H'=>Q V.bM H',rt:=Q } [!V.ref A0.c,!V.ref t,!V.ref ev,none] H2:=λls2 H2 c02 C2 hll=>by
  rw[hRz];lia;let hE2:=hE.bO c02 nev nDs;show di (.inl (.inl hE2.33)) (cy (λi σ H'=>(∃v,σ=[!V.ref A0.c,!V.ref t,!V.ref ev,v])/\eO H' ev Ds es/\H' t=!.tup [.ref ev,u]/\∃d' Z',ϰ (A0.fx++fD A0 d) H H'/\(∀b∈fD A0 d',b∈fD A0 d\/H b=none)/\(∀b∈Z,b∈Z')/\Hu (j9 a) a.Ϡ (Xs i).t H' A0 d' Z' { (Xs i).M with ls:=ls2 } (Xs i).m) ⟨⟨none,rfl⟩,hE2,c02.tup _ _ ht,(fk d Z c02 kO (λ_ h=>h) (by rw[h0];show C2))⟩ (λi σ H' _ z=>.inl (.inl z.2.1.33)) ?_ ?_)
  ·rintro i x σ H' hx ⟨⟨v,rfl⟩,UY,ht',d',Z',c',hn',OC,C'⟩
   rw[Ξ] at hx;(show Ϗ (χ.mp hx) λD hD ϐ=>?_;subst ϐ);let uU:=(Α.mp hD).1;let Mr:=hE.26;let he:es[i]?=!es[i]'():=Ε ();generalize es[i]'()=e at he;obtain⟨aiu,aiv⟩:=C'.pH;let inB:∀b∈OX A0 (fD A0 d'),b∈A0.fx++fD A0 d\/H b=none:=λb hb=>by
    rcases Ο.mp (aan hb) with h | h
    ·show .inl (Φ _ h)
    ·show(hn' b h).imp (Θ _) id
   let noB:∀{b o},H b=!o->b∉A0.fx++fD A0 d->b∉OX A0 (fD A0 d'):=λe n z=>(inB _ z).elim n (λy=>by rw[e] at y;cases y);lia;show(aL _ aiu _ aiv T.ax T.bL (δ _ (jd A0) ⟨A0,rfl,d',Z',(Xs i).wl ls2,(Xs (i+1)).wl ls2,e,C'.st,UY.at' i D e hD he,noB (hE.at' i D e hD he) (nDs D (Β hD)),λb hb=>C'.there b (Φ _ hb),(iA i e he).wl ls2,λH3 d3 Z3 c3 hn3 hz3 S3=>⟨⟨_,rfl⟩,UY.bO c3 (noB hE.33 nev) (λD1 h1=>?_),c3.tup _ _ ht',(fk d3 Z3 (c'.tr2 c3 inB) (λb hb=>?_) (λb hb=>hz3 b (OC b hb)) (C'.stood c3 (λb hb=>Ο.mp hb) S3 rfl))⟩⟩))
   ·obtain⟨i1,g1⟩:=ϛ h1
    let il1:=(Α.mp g1).1;show noB (hE.at' i1 D1 _ g1 (Ε ())) (nDs D1 h1)
   ·rcases hn3 b hb with h | h
    ·show hn' b h
    ·show(ajD (H b=none)).elim .inr λSD=>?_
     cases e0:H b with
     | none=>show .inr rfl
     | some o=>
      show .inl ?_
      by_cases mb:b∈A0.fx++fD A0 d
      ·rcases Ο.mp mb with mb | mb
       ·obtain⟨o',eo⟩:=C'.there b (Φ _ mb)
        rw[h] at eo;cases eo
       ·show mb
      ·rw[c'.keep _ _ e0 mb] at h;cases h
  ·rintro σ H' ⟨⟨v,rfl⟩,UY,ht',d',Z',c',hn',OC,C'⟩
   rw[Η,hE.26] at C';subst hll;show dN (.inl (.inl ht')) rfl (q H' d' Z' c' hn' OC C')
 lia;show dN l1 rfl ?_;let Ra:fK K H ev (Ds.map V.ref):=.inl (.inl hE.33)
 by_cases aeA:Ds=[]
 ·subst aeA
  show(δ false (.inl (δ ([]) Ra rfl)) ?_);rw[Ψ "!"];have:=hE.26;show lo X.25 H (ϰ.refl _) hC (by rw[jK this.17];simp[qT,vj,xU])
 ·show(δ true (.inl (δ (Ds.map V.ref) Ra (by cases Ds with | nil=>show absurd rfl aeA | cons x l=>rfl))) ?_)
  rw[ε rfl];obtain⟨dxb,hbk⟩:=hC.book.27;show(aL _ Dr _ Cw T.ax T.iR (δ _ (Hm A0) ⟨dxb,_,hbk,rfl,di Ra ?_⟩));show qL hle (λL i ys H'=>H L=none/\ι H H'/\H' L=!.lst ys/\ys.4=i/\∃bs,ys=tx bs/\bs=(es.take i).map KH/\∀b∈bs,UQ b) (λL hL=>⟨hL,ι.upd hL,Δ,rfl,(ac ([]) rfl rfl (λ_ z=>nomatch z))⟩) (λL i ys H' _ h=>⟨h.2.2.1,IW h.2.2.2.1,h.2.1.seq Ra⟩) ?_ ?_
  ·rintro L i ys H' v hL hv ⟨_,s',e',hy,bs,hbs,QS,hob⟩ Qe qe
   rw[Ξ] at hv;(show Ϗ (χ.mp hv) λD hD ϐ=>?_;subst ϐ);let uU:=(Α.mp hD).1;let Mr:=hE.26;let he:es[i]?=!es[i]'():=Ε ();generalize es[i]'()=e at he;lia;show(aL e.nm _ e.ps (s' _ _ (hE.at' i D e hD he)) (gJ.inL _ _ _ _ _ _ e) (cx e (Β he)) (λH2 s2 ob=>qe _ _ (s2 _ _ e') ⟨hL,ι.wr (s'.trans s2) hL,Δ,by simp[hy],(ac (bs++[KH e]) (by rw[hbs];unfold tx;simp;rfl) (by rw[cz he,Ϣ,QS];rfl) (λc hc=>?_))⟩));rcases Ο.mp hc with h1 | h1
   ·show hob c h1
   ·rw[Ζ.mp h1];show ob
  rintro L ys H1 hL ⟨_,s1,e1,hy,bs,rfl,QS,hob⟩
  rw[Η,hE.26,ϴ] at QS;let C1:=hC.same s1;let hbl:L≠A0.bl:=λz=>by
   have:=hC.book.33;rw[<-z,hL] at this;cases this
  let hbn:bs.4=es.4:=by
   have:=hE.26;unfold tx at hy;rw[Η,Η] at hy;lk
  show(zS _ _ bs C1.91 e1 hbl hob () (λH2 c2 B2=>?_));let inB:A0.bl∈A0.fx++fD A0 d:=Φ _ (Φ _ (mi 3 rfl));subst QS;show lo _ H2 ((ϰ.of_same s1).trans (c2.mono λb hb=>by rw[Ζ.mp hb];show inB)) (C1.wrote c2 B2) rfl
def lX:T.jt.O P w mg base 3 Hk:=by
 walk_at "h ok jt TC R p";(revert h;show Vd λls hp hl ho q=>?_);show(δ _ (Τ (aE (iB (bc (Ϲ (kA) (by rfl) T.xw Cv (aC (fM ["names"] ["names"] (Υ kR) (s!"c") (aW ϵ) (λC₁ s₁ H₁ f₁=>(ϥ T.xt (Cf T) hr ϋ (aC ϵ)))))) (by intro _;rfl))) gx ϭ)) ?_);walk1;show di (.inl (.inl hp)) (Av (.inl (.inl hp)) (ϊ (show(tx ls).4<=9 by unfold tx;simpa using hl) "!") (λ_=>.bl true) (λx H' hx s' Qe qe=>?_) λD H' hD s' UW=>?_)
 ·(show Ϗ (μ.mp hx) λl hm ϐ=>?_;subst ϐ)
  show⟨(ho l hm).1,qe⟩
 ·show wI (bs:=ls.map λ_=>true) (.inl (.inl ?_)) (δ true (show true=_ by rw[YA];simp) ?_)
  ·rw[UW]
   unfold tx;rw[Ϥ,Ϥ];rfl
  ·rw[Ψ "!"]
   show q H' s'
def hJ:T.gl.O P w mg base 2 Fn:=by
 walk_at "h ok gl Q1 R p";(revert h;show Vd λxs hp hl ho q=>?_);show(δ _ (Τ (aE (iB (bc (Ϲ (kA) (by rfl) T.xw Cv (aC (G7 ["bounded"] ["bounded"] (Υ jQ) ["thing","low","high"] (by show⟨rfl,s!"d",s!"d",s!"d",s!"d",s!"d",s!"d"⟩) (aW ϵ) (λC₁ s₁ H₁ f₁=>(jo (n:=3) rfl (bh (am (i:=0) (show gu (α:=Str) ["thing","low","high","bounded"] by decide +kernel) rfl (aP rfl) (uc rfl)) (bh (am (i:=1) (show gu (α:=Str) ["thing","low","high","bounded"] by decide +kernel) rfl (aP rfl) (uc rfl)) (bh (am (i:=2) (show gu (α:=Str) ["thing","low","high","bounded"] by decide +kernel) rfl (aP rfl) (uc rfl)) jn))))) (λC₁ s₁ H₁ f₁=>(ϥ T.uM (yo T) hr ϋ (ϕ ϵ (bC aw cO))))))) (by intro _;rfl))) gx ϭ)) ?_);walk1;(show Ϗ (id hp) λts QU QX=>?_);show di (.inl (.inl QU)) (Hg hp (by rw[Η];lk) (λys hys=>by (show Ϗ (μ.mp hys) λs _ ϐ=>?_;subst ϐ);rfl) (λ_=>true) (λ_=>.bl true) ?_ ?_ ?_ ?_)
 ·rintro t ys H' o R hys s' ht Nt r
  (show Ϗ (μ.mp hys) λx hx ϐ=>?_;subst ϐ);obtain⟨o1,o2,o3,rfl⟩:∃o1 o2 o3,o=[o1,o2,o3]:=by
   match o,Nt with
   | [o1,o2,o3],_=>show(zR o1 o2 o3 rfl)
  show(fk t _ rfl (.inl (.inl ht)) rfl ?_);show(cJ _ _ rfl (cJ _ _ rfl (ϧ _ _ rfl rfl r)))
 ·intro ys H' hys s' Qt qt
  show qt H' (ι.refl _)
 ·rintro ys H' hys - s' Qe qe
  (show Ϗ (μ.mp hys) λx hx ϐ=>?_;subst ϐ);show⟨(ho x hx).1,(ho x hx).2,qe H' (ι.refl _)⟩
 ·intro D H' hD s' UW
  rw[jB,Ϥ] at UW;show wI (bs:=xs.map λ_=>true) (.inl (.inl ?_)) (δ true (show true=_ by rw[YA];simp) ?_)
  ·rw[UW,Ϥ]
   rfl
  ·rw[Ψ "!"]
   show q H' s'
def za:T.rA.O P w mg base 3 Fp:=by
 walk_at "h ok rA Q2 T k V z2";(revert h;show Jq λo ϐ hk hkl ho=>ke λZS q=>?_;subst ϐ);show(δ _ (Τ (aE (PW.pt (pw_or (iB (bc (ϥ T.IC (Qr T) hr ϋ (aC ϵ)) (by intro _;rfl))) (pw_or1 (iB (bc (ϥ T.Er (LH T) hr ϋ (aC aw)) (by intro _;rfl)))))) gx ϭ)) ?_);walk1;show⟨hk,λH1 s1=>⟨?_,λH2 s2=>q H2 (s1.trans s2)⟩⟩;cases o with
 | none=>show .inl rfl
 | some w0=>show .inr (δ w0 rfl (ho w0 rfl))
def jX:T.iN.O P w mg base 5 (OZ (j9 a) a.Ϡ):=by
 walk_at "h ok iN Q3 R z1 T n K life";(revert h;show dB λt A0 ϐ=>oK λd Z M m hA q=>?_;subst ϐ)
 show(δ _ (Λ (ϣ (ϥ T.jt (lX T) hr ϋ (aC (ap (aC aw)))))
   (Λ (ϣ (ϥ T.gl (hJ T) hr ϋ (aC (ap (aC (bi (ϕ cO (bC π (dD T.pA)))))))))
   (Τ (ϣ (bj (ϳ K ϵ) T.Ϸ T.jW (oA T) hr ϋ (bC aw cO)))))) ?_)
 let h1:=hA.lo;let h2:=hA.hi;lia;show⟨"!",λp0 Gp=>(mh ([n]) Δ (show 1<=9 by decide) (λl hl=>by rw[Ζ.mp hl];show⟨hA.nm,by have:=hA.nm.26;lk⟩) (λH1 s1=>⟨"!",λp1 zJ=>⟨"!",λp4 Na=>?_⟩⟩))⟩;let t4:=ι.upd (o:=.lst [.ref p1]) Na;show(mh ([(life,1,1000000000)]) (δ ([p1]) Δ (.cons (t4 _ _ Δ) .nil)) (show 1<=9 by decide) (λy hy=>?_) (λH2 s2=>?_))
 ·rw[Ζ.mp hy]
  show⟨by show(1:Int)<=life;lk,by show(life:Int)<=1000000000;lk⟩
 let EC:=((ι.upd Gp).trans s1).trans ((ι.upd zJ).trans (t4.trans s2));let S2:=hA.st.same EC;obtain⟨dx,iA⟩:=S2.pG;obtain⟨Jm,Yk⟩:=S2.snd.27;show(aL _ dx _ iA T.aa T.bu (δ _ (fj A0 t) ⟨Jm,_,Yk,rfl,?_⟩));show(Js _ _ _ _ _ S2.snd hA.lf (q _ EC))
def IM:T.B8.O P w mg base 6 (Fx (j9 a) a.Ϡ):=by
 walk_at "h ok B8 HY R z1 T n K life";(revert h;show dB λt A0 ϐ=>oK λd Z M m hA q=>?_;subst ϐ);obtain⟨j,hB,hj,q⟩:=q
 show(δ _ (Λ (ϣ (ϥ T.iN (jX T) hr ϋ (ϕ ϵ (bC aw cO))))
   (Λ (Ϻ 3 HY (bj (ϳ K ϵ) T.ao T.iP (lW T) hr ϋ (aC aw)))
   (Τ (ϔ (bi (bC (ap (aC (ϥ T.eI (dW T) hr ϋ (bC ο (ap (aC fU)))))) fU)))))) ?_)
 lia;show(cJ t A0 rfl (CH d Z M m hA (λH1 s1=>?_)));let S1:=hA.st.same s1;let I1:=S1.36;obtain⟨dx,iA⟩:=S1.pG;obtain⟨EB,Dq⟩:=I1.21;show(aL _ dx _ iA T.aa T.az (δ _ (cN A0 t) ⟨EB,_,Dq,rfl,_,_,_,_,_,I1.73,hB,⟨"!",(λp hp=>(fk _ (pJ (j+1)) ?_ (bI 4 rfl) (eZ ()) (λD H2 hD s2 eD=>⟨"!",λev tM=>⟨"!",λtt QX=>?_⟩⟩)))⟩⟩))
 ·rw[Δ];rfl
 let EC:=s1.trans ((ι.upd hp).trans s2);let s3:ι H2 (upd H2 ev (.lst [.ref D])):=ι.upd tM;let s4:=ι.upd (o:=.tup [.ref ev,.int (j+1)]) QX;show q tt ev _ [D] _ (EC.trans (s3.trans s4)) (ϸ EC tM) (nX (ϸ (s1.trans (ι.upd hp)) hD)) Δ (eO.one (s4 _ _ Δ) (s4 _ _ (s3 _ _ eD))) rfl
def Gb:T.yl.O P w mg base 6 (CW (j9 a) a.Ϡ):=by
 walk_at "h ok yl FN R z1 T n K life K tu";(revert h;show dB λt A0 ϐ=>oK λd Z M m hA=>CG λhlo hhi ht hlen hB q=>?_;subst ϐ)
 show(δ _ (Λ (ϣ (ϥ T.gl (hJ T) hr ϋ (aC (ap (aC (bi (ϕ fU (bC π (dD T.wa)))))))))
   (Λ (ϣ (ϥ T.iN (jX T) hr ϋ (ϕ ϵ (bC aw cO))))
   (Λ (ϣ (bj (ϳ K ϵ) T.ao T.iO (lV T) hr ϋ (aC aw)))
   (Λ (Ϻ 4 FN (nJ (ϳ K ϵ) T.ao T.cX.m (jF T) (hr.mono "!") T.cX.b .nil ϋ))
   (Τ (ϔ (bi (bC (ap (aC (ϥ T.eI (dW T) hr ϋ (bC ο (ap (ϕ (pv 4) (bC aw (av (aD) (ϳ K ϵ) fU)))))))) (pv 4))))))))) ?_)
 lia;show⟨"!",λp1 zJ=>⟨"!",λp4 Na=>?_⟩⟩;let t4:=ι.upd (o:=.lst [.ref p1]) Na;show(mh ([(tu,1,1000)]) (δ ([p1]) Δ (.cons (t4 _ _ Δ) .nil)) (show 1<=9 by decide) (λy hy=>?_) (λH2 s2=>?_))
 ·rw[Ζ.mp hy]
  show⟨by show(1:Int)<=tu;lk,by show(tu:Int)<=1000;lk⟩
 let EC:=(ι.upd zJ).trans (t4.trans s2);show(cJ t A0 rfl (CH d Z M m (hA.same EC) (λH3 s23=>?_)));let IN:=EC.trans s23;let S3:=hA.st.same IN;let I3:=S3.36;obtain⟨dx,iA⟩:=S3.pG;obtain⟨EB,Dq⟩:=I3.21;show(aL _ dx _ iA T.aa T.az (δ _ (cN A0 t) ⟨EB,_,Dq,rfl,_,_,_,_,I3.73,hB,?_⟩));(show(aL _ dx _ iA T.aa T.az (δ _ (cN A0 t) ⟨EB,_,Dq,rfl,_,_,_,_,I3.73,_,dx,_,iA,T.aa,T.jv,_,HA A0 t,⟨"!",λp hp=>(fk _ (ut (m.M.ds.4+1) n (t+tu)) ?_ (bI 2 rfl) (uu hA.nm () ()) (λD H4 hD s4 eD=>⟨"!",λev tM=>⟨"!",λtt QX=>?_⟩⟩))⟩⟩)))
 ·rw[Δ]
  rfl
 let Uk:=IN.trans ((ι.upd hp).trans s4);let s5:ι H4 (upd H4 ev (.lst [.ref D])):=ι.upd tM;let s6:=ι.upd (o:=.tup [.ref ev,.int (m.M.ds.4+1)]) QX;show q tt ev _ [D] _ (Uk.trans (s5.trans s6)) (ϸ Uk tM) (nX (ϸ (IN.trans (ι.upd hp)) hD)) Δ (eO.one (s6 _ _ Δ) (s6 _ _ (s5 _ _ eD))) rfl
def Gc:T.ym.O P w mg base 6 (CY (j9 a) a.Ϡ):=by
 walk_at "h ok ym iI R z1 T n K life";(revert h;show dB λt A0 ϐ=>oK λd Z M m hA q=>?_;subst ϐ);obtain⟨j,e,hB,hj,he,he2,q⟩:=q
 show(δ _ (Λ (ϣ (ϥ T.iN (jX T) hr ϋ (ϕ ϵ (bC aw cO))))
   (Λ (Ϻ 3 iI (bj (ϳ K ϵ) T.ao T.iP (lW T) hr ϋ (aC aw)))
   (Λ (Ϻ 4 iI (ap eR))
   (Λ (cQ ϡ rfl (aW (bj (ϳ K ϵ) T.ao T.lJ (sV T) hr ϋ (aC fU))) (jo (n:=3) rfl (bh (am (i:=5) iI.nd rfl (aP rfl)) (bh (am (i:=6) iI.nd rfl (aP rfl)) (bh (am (i:=7) iI.nd rfl (aP rfl)) jn)))) gx)
   (Λ (ϣ (bx PySem.F.plainAttrs_list PySem.F.slot_list_append PySem.F.type_list_append bE (pv 4) (aC (ϥ T.eI (dW T) hr ϋ (bC ο (ap (aC fU)))))))
   (Τ (ϔ (bi (bC (pv 4) (bj (ϳ K ϵ) T.ao T.jg (mO T) hr ϋ (aC fU))))))))))) ?_)
 show ZX λRz hRz=>?_;show(cJ t A0 rfl (CH d Z M m hA (λH1 s1=>?_)));let S1:=hA.st.same s1;let I1:=S1.36;obtain⟨dx,iA⟩:=S1.pG;obtain⟨EB,Dq⟩:=I1.21;show(aL _ dx _ iA T.aa T.az (δ _ (cN A0 t) ⟨EB,_,Dq,rfl,_,_,_,_,_,I1.73,hB,⟨"!",(λev tM=>?_)⟩⟩))
 ·let sev:ι H1 (upd H1 ev (.lst [])):=ι.upd tM;generalize UZ:upd H1 ev (.lst [])=H2 at sev ⊢;let Ul:H2 ev=!.lst []:=by rw[<-UZ];show Δ
  let S2:=S1.same sev;let I2:=S2.36;obtain⟨ME,aa1⟩:=S2.pG;obtain⟨aiA,aiB⟩:=I2.21;rw[hRz];lia;show(aL _ ME _ aa1 T.aa T.az (δ _ (cN A0 t) ⟨aiA,_,aiB,rfl,_,_,_,_,_,_,_,I2.dx,(ϧ j e rfl he (λL H3 hL s23 tl=>?_))⟩));rw[he2] at tl;(show au tl.atL λts sq tl' _=>?_);let XZ:=jK tl';subst XZ;let IN:=s1.trans (sev.trans s23);let Gd:=ϸ s1 tM;show di (.inl (.inl sq)) (cy (λi σ H'=>H'=H3/\σ=[!V.ref A0.st,!V.str (S n),!V.int life,!V.int (j+1),!V.ref ev,none,none,none,none]) ⟨rfl,rfl⟩ (λi σ H' _ z=>by rw[z.1];show .inl (.inl sq)) (λi y σ H' hy=>by simp at hy) ?_)
  rintro σ H' ⟨rfl,rfl⟩
  let hE3:=(eO.nil Ul).same s23;lia;show⟨.inl ⟨rfl,(qq _ (.inl (.inl hE3.33)))⟩,"!",λp hp=>(fk _ (pJ (j+1)) ?_ (bI 3 rfl) (eZ ()) (λD H4 hD s4 eD=>?_))⟩
  ·rw[Δ];rfl
  let s34:=(ι.upd hp).trans s4;let W2:=hE3.same s34;show(dL _ _ _ rfl rfl W2.33 (by show 0 < _;decide) ?_);let hE5:=W2.snoc (e:=.close (j+1)) eD;generalize hH5:upd H4 ev (.lst (([]).map V.ref++[.ref D]))=H5 at hE5 ⊢;let W3:ι H H5:=by rw[<-hH5];show ι.wr (IN.trans s34) Gd
  let S5:=hA.st.same W3;let I5:=S5.rest;obtain⟨dx5,Um⟩:=S5.pG;obtain⟨aiD,aiE⟩:=I5.21;show(aL _ dx5 _ Um T.aa T.az (δ _ (cN A0 t) ⟨aiD,_,aiE,rfl,_,_,_,_,_,_,_,I5.dx,(ϧ j e rfl he (λL2 H6 hL2 s56 tl6=>⟨"!",λtt QX=>?_⟩))⟩));let s7:=ι.upd (o:=.tup [.ref ev,.ref L2]) QX;show q tt ev _ [D] _ (W3.trans (s56.trans s7)) Gd (nX (ϸ (IN.trans (ι.upd hp)) hD)) Δ (hE5.same (s56.trans s7)) (ac L2 rfl (ϸ W3 hL2) (tl6.same s7))
def IP:T.B9.O P w mg base 3 (Fy (j9 a) a.Ϡ):=by
 walk_at "h ok B9 rg R z1 K tu";(revert h;show dB λt A0 ϐ=>oK λd Z M m hS=>yw λhlo hhi ht hlen q=>?_;subst ϐ)
 show(δ _ (Λ (ϣ (ϥ T.gl (hJ T) hr ϋ (aC (ap (aC (bi (ϕ aw (bC π (dD T.wa)))))))))
   (Λ (Ϻ 2 rg (av (aD) (ϳ K ϵ) aw))
   (Λ (Ϻ 3 rg (ap (aC (ϥ T.eI (dW T) hr ϋ (bC ο (ap (aC cO)))))))
   (Λ (cQ ϡ rfl (aW (bj (ϳ K ϵ) T.ao T.qi (xA T) hr ϋ (aC cO))) (am (i:=4) rg.nd rfl (aP rfl)) (Τ (ϣ (bx PySem.F.plainAttrs_list PySem.F.slot_list_append PySem.F.type_list_append bE fU (aC (ϥ T.eI (dW T) hr ϋ (bC ο (ap (aC (pv 4))))))))))
   (Τ (ϔ (bi (bC fU cO)))))))) ?_)
 show ZX λRz hRz=>?_;lia;show⟨"!",λp1 zJ=>⟨"!",λp4 Na=>?_⟩⟩;let t4:=ι.upd (o:=.lst [.ref p1]) Na;show(mh ([(tu,1,1000)]) (δ ([p1]) Δ (.cons (t4 _ _ Δ) .nil)) (show 1<=9 by decide) (λy hy=>?_) (λH2 s2=>?_))
 ·rw[Ζ.mp hy]
  show⟨by show(1:Int)<=tu;lk,by show(tu:Int)<=1000;lk⟩
 let EC:=(ι.upd zJ).trans (t4.trans s2);obtain⟨dx,iA⟩:=(hS.same EC).pG;show(aL _ dx _ iA T.aa T.jv (δ _ (HA A0 t) ?_));rw[qI];let ett:(t+(tu:Int))=((t+tu:Nat):Int):=by push_cast;rfl
 rw[ett];show⟨"!",λp hp=>(fk _ (D9 (t+tu)) ?_ (bI 5 rfl) (wW ()) (λD H3 hD s3 eD=>⟨"!",λev tM=>?_⟩))⟩
 ·rw[Δ];rfl
 let IN:=EC.trans ((ι.upd hp).trans s3);let Gd:=ϸ IN tM;let W2:eO (upd H3 ev (.lst [.ref D])) ev [D] [.turn (t+tu)]:=eO.one Δ ((ι.upd tM) _ _ eD);let Uk:ι H (upd H3 ev (.lst [.ref D])):=IN.trans (ι.upd tM);generalize upd H3 ev (.lst [.ref D])=H4 at W2 Uk ⊢;let S4:=hS.same Uk;let I4:=S4.36;obtain⟨dx4,QA⟩:=S4.pG;obtain⟨aiF,aiG⟩:=I4.21;rw[hRz];lia;show(aL _ dx4 _ QA T.aa T.az (δ _ (cN A0 t) ⟨aiF,_,aiG,rfl,_,_,_,_,I4.73,hlen,λL H5 hL s45 eL=>?_⟩));let nLe:L≠ev:=λz=>by rw[z,W2.33] at hL;cases hL
 let hov:∀i∈i8 m.M ((t+tu:Nat)) m.M.ds.4,∃j:Nat,i=(j:Int)+1/\j < 1000:=λi hi=>by
  unfold i8 at hi;(show Ϗ (μ.mp hi) λj hj ϐ=>?_;subst ϐ);have:=CC.mp (cT.mp hj).1;show(δ j rfl ())
 let lov:(i8 m.M ((t+tu:Nat)) m.M.ds.4).4<=1000:=by
  unfold i8;rw[Η];have:=cw (odd m.M ((t+tu:Nat))) (aU m.M.ds.4);rw[d5] at this;lk
 generalize i8 m.M ((t+tu:Nat)) m.M.ds.4=ov at q eL hov lov;show di (.inl (.inl eL)) (cy (λi σ H'=>(∃v,σ=[!V.ref A0.st,!V.int tu,!(V.int ((t+tu:Nat):Int)),!V.ref ev,v])/\ι H H'/\H' L=!.lst (ov.map V.int)/\∃Ds,(∀D∈Ds,H D=none)/\eO H' ev Ds (.turn (t+tu)::(ov.take i).map λi=>.drop i.9)) ⟨⟨none,rfl⟩,Uk.trans s45,eL,(δ ([D]) (nX (ϸ (EC.trans (ι.upd hp)) hD)) (W2.same s45))⟩ (λi σ H' _ z=>.inl (.inl z.2.2.1)) ?_ ?_)
 ·rintro i x σ H' hx ⟨⟨v,rfl⟩,s',eL',Ds,hDs,UY⟩
  rw[Ξ] at hx;(show Ϗ (χ.mp hx) λy hy ϐ=>?_;subst ϐ);(show Ϗ (hov y (Β hy)) λj ϐ hj=>?_;subst ϐ);let hlD:=UY.26;lia;show⟨.inl ⟨rfl,(qq _ (.inl (.inl UY.33)))⟩,"!",λp hp=>(fk _ (pJ (j+1)) ?_ (bI 4 rfl) (eZ ()) (λD' H6 hD' s6 eD'=>?_))⟩
  ·rw[Δ];rfl
  let s67:=(ι.upd hp).trans s6;let hE6:=UY.same s67;show(dL _ _ _ rfl rfl hE6.33 ?_ ?_)
  ·let z:5000<=sizeLine:=by decide
   simp only[ω,Η,af] at hlD;rw[Η];lk
  show⟨⟨_,rfl⟩,ι.wr (s'.trans s67) Gd,?_,(δ (Ds++[D']) (Ec hDs (ϸ (s'.trans (ι.upd hp)) hD')) ?_)⟩
  ·rw[ν nLe];show s67 _ _ eL'
  ·have:=hE6.snoc (e:=.drop (j+1)) eD'
   let Vs:ov.take (i+1)=ov.take i++[(j:Int)+1]:=by rw[cR,hy];rfl
   rw[Vs,Ϣ];show this
 ·rintro σ H' ⟨⟨v,rfl⟩,s',eL',Ds,hDs,UY⟩
  lia;show⟨"!",λtt QX=>?_⟩;rw[Η,ϴ] at UY;let s7:=ι.upd (o:=.tup [.ref ev,.int ((t+tu:Nat):Int)]) QX;show q tt ev _ Ds _ (s'.trans s7) Gd hDs Δ (UY.same s7) rfl
def IQ:T.B6.O P w mg base 4 (Fz (j9 a) a.Ϡ):=by
 walk_at "h ok B6 rf R z1 T n";(revert h;show dB λt A0 ϐ=>zQ λd Z M=>yx λm kk hS hn hkk hk9 q=>?_;subst ϐ)
 show(δ _ (Λ (ϣ (ϥ T.jt (lX T) hr ϋ (aC (ap (aC aw)))))
   (Λ (Ϻ 2 rf (ap eR))
   (Λ (Ϻ 3 rf (bj (ϳ K ϵ) T.ao T.gZ (ji T) hr ϋ (aC aw)))
   (Λ (aE (Ϯ (kI (hU hr)) fU π (aq _)) (Τ (ϣ (bx PySem.F.plainAttrs_list PySem.F.slot_list_append PySem.F.type_list_append bE cO (aC (ϥ T.eI (dW T) hr ϋ (bC ο (ap (aC fU)))))))) ϭ)
   (Λ (Ϻ 4 rf (av (aD) (bj (ϳ K ϵ) T.Ϸ T.iQ (lT T) hr ϋ (aC aw)) π))
   (Λ (ϣ (bx PySem.F.plainAttrs_list PySem.F.slot_list_append PySem.F.type_list_append bE cO (aC (ϥ T.eI (dW T) hr ϋ (bC ο (ap (bC aw (pv 4))))))))
   (Τ (ϔ (bi (bC cO (bi (bC (pv 4) (bj (ϳ K ϵ) T.Ϸ T.mM (uO T) hr ϋ (aC aw)))))))))))))) ?_)
 show adJ λRz hRz=>?_;lia;show⟨"!",λp0 Gp=>(mh ([n]) Δ (show 1<=9 by decide) (λl hl=>by rw[Ζ.mp hl];show⟨hn,by have:=hn.26;lk⟩) (λH1 s1=>⟨"!",λev tM=>?_⟩))⟩;let s01:=(ι.upd Gp).trans s1;generalize UZ:upd H1 ev (.lst [])=H2;let EC:ι H H2:=by rw[<-UZ];show s01.trans (ι.upd tM)
 let Ul:H2 ev=!.lst []:=by rw[<-UZ];show Δ
 let Gd:=ϸ s01 tM;let S2:=hS.same EC;let I2:=S2.36;obtain⟨dx,iA⟩:=S2.pG;obtain⟨EB,Dq⟩:=I2.21;show(aL _ dx _ iA T.aa T.az (δ _ (cN A0 t) ⟨EB,_,Dq,rfl,_,_,_,_,I2.73,?_⟩));let fin:∀es Ds H3,ι H H3->eO H3 ev Ds es->(∀D∈Ds,H D=none)->Ds.4<=5->nW H (es++[.cr n kk]) (λu H'=>∃v,u=.ref v/\H' v=!(.tup [.int kk,.int (if (M.S.L (S n)).11=true then M.S.T (S n) else 0)])) Q->∀dv,Rz { nx:=λx H'=>Q V.bM H',rt:=Q } [!V.ref A0.st,!V.str (S n),!V.ref ev,!dv,none] H3:=λes Ds H3 IN hE hDs hl5 q dv=>by
  let S3:=hS.same IN;obtain⟨Wp,W4⟩:=S3.pG;obtain⟨aa4,aa5⟩:=S3.snd.27;rw[hRz];lia;show(aL _ Wp _ W4 T.aa T.bu (δ _ (fj A0 t) ⟨aa4,_,aa5,rfl,_,_,_,_,_,S3.snd,?_⟩));lia;rw[<-hkk];show⟨.inl ⟨rfl,(qq _ (.inl (.inl hE.33)))⟩,"!",λp hp=>(fk _ (DW n kk) Δ (bI 0 rfl) (kD hn hk9) (λD H4 hD s4 eD=>?_))⟩;let s34:=(ι.upd hp).trans s4;let W2:=hE.same s34;let z:5000<=sizeLine:=by decide
  show(dL _ _ _ rfl rfl W2.33 (by rw[Η];lk) ?_);let hE5:=W2.snoc (e:=.cr n kk) eD;generalize hH5:upd H4 ev (.lst (Ds.map V.ref++[.ref D]))=H5 at hE5 ⊢;let W3:ι H H5:=by rw[<-hH5];show ι.wr (IN.trans s34) Gd
  let S5:=hS.same W3;obtain⟨dx5,Um⟩:=S5.pG;obtain⟨aiI,aiJ⟩:=S5.snd.obj;show(aL _ dx5 _ Um T.aa T.bu (δ _ (fj A0 t) ⟨aiI,_,aiJ,rfl,_,_,_,_,_,S5.snd,"!",λu hu=>⟨"!",λtt QX=>?_⟩⟩));let s6:=ι.upd (o:=.tup [.int kk,.int (if (M.S.L (S n)).11=true then M.S.T (S n) else 0)]) hu;let s7:=ι.upd (o:=.tup [.ref ev,.ref u]) QX;show q tt ev _ _ _ (W3.trans (s6.trans s7)) Gd (Ec hDs (ϸ (IN.trans (ι.upd hp)) hD)) Δ (hE5.same (s6.trans s7)) (δ u rfl (s7 _ _ Δ))
 rcases q with⟨hB,q⟩ | ⟨j,hB,hj,q⟩
 ·rw[hB]
  lia;rw[Ψ ∅];show fin [] [] H2 EC (eO.nil Ul) (λ_ z=>nomatch z) "!" q _
 ·rw[hB]
  lia;rw[ε (by simp;lk)];show⟨.inl ⟨rfl,(qq _ (.inl (.inl Ul)))⟩,"!",λp hp=>(fk _ (pJ (j+1)) ?_ (bI 4 rfl) (eZ ()) (λD H3 hD s3 eD=>?_))⟩
  ·rw[Δ];rfl
  let s23:=(ι.upd hp).trans s3;let hE3:=(eO.nil Ul).same s23;show(dL _ _ _ rfl rfl hE3.33 (by show 0 < _;decide) (fin [.drop (j+1)] [D] _ (ι.wr (EC.trans s23) Gd) (hE3.snoc eD) (nX (ϸ (EC.trans (ι.upd hp)) hD)) (by show 1<=5;decide) q _))
def LM:T.Et.O P w mg base 5 (HB (j9 a) a.Ϡ):=by
 walk_at "h ok Et uA R z1 T n K life K num T O0 R lt K dd";(revert h;show dB λt0 A0 ϐ=>mf λda Z M md key wo=>zQ λj i pl=>gI λx m kz hP hQ=>?_;subst ϐ)
 show(δ _ (Λ (ϣ (ϥ T.jt (lX T) hr ϋ (aC (ap (bC aw (pv 4))))))
   (Λ (ϣ (ϥ T.gl (hJ T) hr ϋ (aC (ap (ϕ (bi (ϕ cO (bC π (dD T.pA)))) (bC (bi (ϕ fU (bC π (dD T.pA)))) (bi (ϕ (pv 6) (bC π (dD T.pA))))))))))
   (Λ (ϣ (ϥ T.rA (za T) hr ϋ (bC (ϓ K hr (pv 5) π) (ϓ K hr (pv 5) π))))
   (Λ (ϣ (bj (ϳ K ϵ) T.Ϸ T.gm (g9 T) hr ϋ (aC aw)))
   (Λ (Ϻ 7 uA (bj (ϳ K ϵ) T.gn T.mK (uR T) hr ϋ (bC (pv 4) (ϓ K hr (pv 5) π))))
   (Λ (ϣ (bj (ϳ K ϵ) T.Ϸ T.jW (oA T) hr ϋ (bC aw cO)))
   (Λ (Ϻ 8 uA (bj (ϳ K ϵ) T.Ϸ T.mL (uP T) hr ϋ (bC aw fU)))
   (Λ (aE (zZ (EO (pv 8))) (Τ (ϔ (bi (bC (ap eR) (pv 8))))) ϭ)
   (Λ (aE (PW.pt (pw_and (Ϯ (kI (hU hr)) (pv 6) π (aq _)) (pw_and1 (Ϯ (kI (hU hr)) (pv 6) (bj (ϳ K ϵ) T.ao T.gZ (ji T) hr ϋ (aC aw)) (aq _))))) (Τ fX) ϭ)
   (Λ (Ϻ 9 uA (ϳ K (ϓ K hr (ϳ K ϵ) (pv 7))))
   (Τ (ϔ (bi (bC (ap (aC (ϥ T.eI (dW T) hr ϋ (bC ο (ap (ϕ aw (ϕ fU (ϕ (pv 6) (ϕ (pv 7) (ϕ (pv 9) (bC (ϓ K hr (pv 5) π) (ϓ K hr (pv 5) π)))))))))))) (bi (bC (pv 7) (pv 9))))))))))))))))) ?_)
 walk_at "e1";obtain⟨⟨hS,hnm,J8,CN,hL⟩,hsh,hky,hwd,RP,hnu,Yl,hop,Wb,hxn,aiM,hi,hm,lZ,ang⟩:=hP;show⟨"!",λp0 Gp=>(mh ([n,O0]) Δ (show 2<=9 by decide) (λl hl=>?_) (λH1 s1=>?_))⟩
 ·simp only[Ι,Μ,ϖ] at hl
  rcases hl with rfl | rfl
  ·show⟨hnm,by have:=hnm.26;lk⟩
  ·show⟨hsh,by have:=hsh.26;lk⟩
 walk_at "ex";show⟨"!",λp1 zJ=>⟨"!",λp2 xQ=>⟨"!",λp3 hp3=>⟨"!",λp4 Na=>?_⟩⟩⟩⟩;let t2:=ι.upd (o:=.tup [.int num,.int 1,.int 1000000000]) xQ;let t3:=ι.upd (o:=.tup [.int dd,.int 0,.int 1000000000]) hp3;let t4:=ι.upd (o:=.lst [.ref p1,.ref p2,.ref p3]) Na;show(mh ([(life,1,1000000000),(num,1,1000000000),(dd,0,1000000000)]) (δ ([p1,p2,p3]) Δ ?_) (show 3<=9 by decide) (λy hy=>?_) (λH2 s2=>?_))
 ·show .cons (t4 _ _ (t3 _ _ (t2 _ _ Δ))) (.cons (t4 _ _ (t3 _ _ Δ)) (.cons (t4 _ _ Δ) .nil))
 ·simp only[Ι,Μ,ϖ] at hy
  rcases hy with rfl | rfl | rfl
  ·show⟨by show(1:Int)<=life;lk,by show(life:Int)<=1000000000;lk⟩
  ·show⟨by show(1:Int)<=num;lk,by show(num:Int)<=1000000000;lk⟩
  ·show⟨by show(0:Int)<=dd;lk,by show(dd:Int)<=1000000000;lk⟩
 let EC:=((ι.upd Gp).trans s1).trans ((ι.upd (o:=.tup [.int life,.int 1,.int 1000000000]) zJ).trans (t2.trans (t3.trans (t4.trans s2))));walk_at "ex";let l2:iV K H2 lt [.str (S key),wV wo]:=.inl (.inl (EC _ _ kz));show dN l2 rfl (dN l2 rfl (Nk wo rfl hky (by have:=hky.26;change key.4<=1000;lk) hwd (λw hw=>by have:=RP w hw;lk) (λH3 s3=>?_)));let IN:=EC.trans s3;let S3:=hS.same IN;obtain⟨Wp,W4⟩:=S3.pG;obtain⟨aa4,aa5⟩:=S3.snd.27;obtain⟨aiN,aiO⟩:=S3.Fq.27;let l3:iV K H3 lt [.str (S key),wV wo]:=.inl (.inl (IN _ _ kz));walk_at "ex";show(aL _ Wp _ W4 T.aa T.bu (δ _ (fj A0 t0) ⟨aa4,_,aa5,rfl,_,_,_,_,_,S3.snd,by rw[hL];rfl,?_⟩));walk_at "ex";show(aL _ Wp _ W4 T.aa T.gC (δ _ (Hz A0 t0) ⟨aiN,_,aiO,rfl,dN l3 rfl (ϧ _ _ S3.Fq S3.Cy (ϧ j x Wb hxn (λH4 s4=>?_)))⟩));let Uk:=IN.trans s4;let S4:=hS.same Uk;obtain⟨dx4,QA⟩:=S4.pG;obtain⟨aeH,aeI⟩:=S4.snd.27;walk_at "ex";show(aL _ dx4 _ QA T.aa T.bu (δ _ (fj A0 t0) ⟨aeH,_,aeI,rfl,?_⟩));show(Js _ _ _ _ _ S4.snd hL ?_);walk_at "ex";show(aL _ dx4 _ QA T.aa T.bu (δ _ (fj A0 t0) ⟨aeH,_,aeI,rfl,_,_,_,_,_,S4.snd,by rw[hL];rfl,aiM,?_⟩));walk_at "ex";show(δ _ rfl ?_);rw[Ψ ∅];walk_at "ex";let fin:Rz { nx:=λx H'=>Q V.bM H',rt:=Q } [!V.ref A0.st,!V.str (S n),!V.int life,!V.int num,!V.str (S O0),!V.ref lt,!V.int dd,!(V.int ((vi M.xs j x key:Nat))),!V.bM,none] H4:=by
  let hi':vi M.xs j x key=i:=by lk
  rw[hi'];let uU:i < A0.rs.4:=by rw[<-hS.kM];show(Α.mp hm).1
  let rJ:A0.rs[i]?=some A0.rs[i]:=by simp
  let M9:A0.ds[i]?=!(A0.ds[i]'(by rw[hS.46];show uU)):=by simp
  generalize A0.rs[i]=r at rJ;generalize A0.ds[i]'(by rw[hS.46];show uU)=d at M9;obtain⟨XX,qC⟩:=(S4.row i r d m rJ M9 hm).27;let hrr:fK K H4 A0.rl (A0.rs.map V.ref):=.inl (.inl S4.oW);let l4:iV K H4 lt [.str (S key),wV wo]:=.inl (.inl (Uk _ _ kz));walk_at "es";show(aL _ dx4 _ QA T.aa T.ju (δ _ (AS A0 t0) (dh (v:=.ref r) hrr (bf () (by rw[bG,Ξ,rJ];rfl)) (aL _ XX _ qC T.lO T.pr ?_))));show(δ _ rfl (dN l4 rfl (dN l4 rfl ?_)));rw[lZ];let hxl:=HC hS;let hx9:=hS.Cy.hi;show⟨"!",λp hp=>(fk _ (wR n num dd i pl key wo) Δ (bI 1 rfl) (AN hnm () () () () hky hwd RP) (λD H5 hD s5 eD=>⟨"!",λev tM=>⟨"!",λu hu=>⟨"!",λt ht=>?_⟩⟩⟩))⟩;let W3:=Uk.trans ((ι.upd hp).trans s5);let s6:=ι.upd (o:=.lst [.ref D]) tM;let s7:=ι.upd (o:=.tup [.int i,.int pl]) hu;let s8:=ι.upd (o:=.tup [.ref ev,.ref u]) ht;show hQ t ev _ [D] _ (W3.trans (s6.trans (s7.trans s8))) (ϸ W3 tM) (nX (ϸ Uk (ϸ (ι.upd hp) hD))) Δ (eO.one (e:=.put n num dd i pl key wo) (s8 _ _ (s7 _ _ Δ)) (s8 _ _ (s7 _ _ (s6 _ _ eD)))) (δ u rfl (s8 _ _ Δ))
 rcases hop with h0 | hop
 ·rw[Ψ (by rw[h0];simp)]
  show fin
 ·by_cases h0:dd=0
  ·rw[Ψ (by rw[h0];simp)]
   show fin
  ·rw[ε (by simp;lk)]
   let I4:=S4.36;obtain⟨EB,Dq⟩:=I4.21;show(aL _ dx4 _ QA T.aa T.az (δ _ (cN A0 t0) ⟨EB,_,Dq,rfl,_,_,_,_,I4.73,?_⟩));rw[hop];lia;rw[Ψ ∅];show fin
def sW:T.lD.O P w mg base 3 Kw:=by
 walk_at "h ok lD eP R p";(revert h;show Vd λxs hL ok h3 q=>?_)
 show(δ _ (Λ (Ϻ 1 eP (ap (aC ο)))
   (Λ (cQ ϡ rfl (aW ϵ) (jo rfl (bh (am (i:=2) eP.nd rfl (aP rfl)) (bh (am (i:=3) eP.nd rfl (aP rfl)) (bh (am (i:=4) eP.nd rfl (aP rfl)) jn)))) (Τ (ϣ (bx (K:=K) PySem.F.plainAttrs_list PySem.F.slot_list_extend PySem.F.type_list_extend DI aw (aC (ap (ϕ cO (bC (bP (kB (K:=K)) rfl T.rH rQ (aC fU)) (pv 4)))))))))
   (Τ (ϔ (ϥ T.BX (EA T) hr ϋ (aC aw)))))) ?_)
 lia;(revert hL;show ay λts e hT=>?_);let hlen:ts.4=xs.4:=by rw[hT.4,Η]
 show⟨"!",λu hu=>?_⟩;let s1:=ι.upd (o:=.lst [.str "shelves"]) hu;show di (.inl (.inl (s1 _ _ e))) (cy (λi σ H'=>ι H H'/\H' u=!.lst (tx (AQ xs i))/\∃v2 v3 v4,σ=[!V.ref p,!V.ref u,v2,v3,v4]) ⟨s1,Δ.trans (by rfl),(zR _ _ _ rfl)⟩ (λi σ H' _ h=>.inl (.inl (h.1 _ _ e))) ?_ ?_)
 ·rintro i y σ H' hy ⟨s',eu,v2,v3,v4,rfl⟩
  rw[Ξ] at hy;(show Ϗ (χ.mp hy) λt hti ϐ=>?_;subst ϐ);(show Ϗ (hT.get hti) λys h1 h2=>?_);rw[Ξ] at h1;(show Ϗ (χ.mp h1) λy Qv ϐ=>?_;subst ϐ);let hTt:iV K H' t y.v:=.inl (.inl (s' _ _ h2));let h9:=(ok.each y (Β Qv)).2.1;let hl3:=AR (xs:=xs) i;lia;show(fk _ _ rfl hTt rfl (cJ _ _ rfl (cJ _ _ rfl (fk _ _ rfl rfl (.inl ⟨rfl,(qq _ (.inl (.inl eu)))⟩) (mh _ rfl (kC () ()) "!" (λw hw=>?_))))));let s2:=ι.upd (o:=.lst [.str (S y.47),.str (S (dU y.42)),.str y.57]) hw;show(Jr u w _ _ rfl rfl (s2 _ _ eu) Δ ⟨ϊ (show(tx (AQ xs i)).4+3<=20 by unfold tx;rw[Η];lk) "!",⟨ι.wr (s'.trans s2) hu,?_,(zR _ _ _ rfl)⟩⟩);rw[OP Qv];show Δ
 ·rintro σ H' ⟨s',eu,v2,v3,v4,rfl⟩
  rw[Η,hlen] at eu;let hl3:=AR (xs:=xs) xs.4;let hl4:=Ho (λa ha=>(Ft ok xs.4 a ha).1);show(ac _ (.inl (.inl eu)) () (λH2 s2=>q _ _ (s'.trans s2) (aaf ok h3 _)))
def wf:T.ou.O P w mg base 7 (Kx (j9 a)):=by
 walk_at "h ok ou M3 R x R p";(revert h;show su λdx xs hx hL ok q=>?_)
 show(δ _ (Λ (bU ϵ (zx T.LB (sR T) (hr.mono "!") rfl T.Ly T.lK.b .nil ϋ (aC aw)) rfl)
   (Λ (bU ϵ (fM ["self","shelves"] ["self","shelves"] (Υ iK) (s!"c") (wz rfl T.v0 (aC (nJ (ϳ K ϵ) T.gn T.gK.m (rK T) (hr.mono "!") T.gK.b .nil ϋ))) (λC₁ s₁ H₁ f₁=>(qH T.aaU (yV T) (hr.mono "!") rfl T.aaT T.rB.b .nil ϋ))) rfl)
   (Λ (bU ϵ (qH T.Lz (sQ T) (hr.mono "!") rfl T.Lw T.lM.b .nil ϋ) rfl)
   (Λ (bU ϵ (qH T.Uc (we T) (hr.mono "!") rfl T.Ua T.ot.b .nil ϋ) rfl)
   (Λ (bU ϵ gb rfl)
   (Λ (bU ϵ (qH T.LA (sS T) (hr.mono "!") rfl T.Lx T.lN.b .nil ϋ) rfl)
   (Τ (bU ϵ π rfl)))))))) ?_)
 walk_at "e1";show λsh dxh Uo aeJ ndx=>(δ dxh Δ (ac xs (hL.same ((ι.upd aeJ).trans (ι.upd (by rw[ν (ό ndx)];show Uo)))) ok (λshl H1 aiQ c1 R1=>⟨rfl,?_⟩)))
 let s1:=iq Uo aeJ c1;(show cW (dq aiQ) λUp aiR _=>?_);obtain⟨anm,eo1⟩:=R1.27;(show Ϗ R1.33 λ_ el1 _=>?_)
 let f1:=(Fr.nil).adds [sh,shl] (pI.refl _) (by simp;show λz=>aiR z.17) (λb hb=>by
  simp only[Ι,Μ,ϖ] at hb;rcases hb with rfl | rfl
  ·show Uo
  ·show Up) s1.gh (λb hb=>by
  simp only[Ι,Μ,ϖ] at hb;rcases hb with rfl | rfl
  ·show⟨_,eo1⟩
  ·show⟨_,el1⟩)
 let nx:∀{b:Ν},H b=none->b∉[x]:=λhb z=>by rw[Ζ.mp z,hx] at hb;cases hb
 let FL:=s1 _ _ hx;show(dL _ dx _ FL T.aa T.gC "!" ?_);generalize UZ:upd H1 x _=H2;walk_at "ex";let c2:ϰ [x] H1 H2:=by rw[<-UZ];show ϰ.upd ∅ (λxs z=>by rw[FL] at z;cases z)
 let hx2:H2 x=!.ins a.eQ dx [("shelves",.ref sh)]:=by rw[<-UZ];show Δ
 let l2:pI H1 H2:=by rw[<-UZ];show pI.wr
 let L2:=s1.gh.trans l2;let R2:=R1.bO c2 (nx Uo) (nx Up);obtain⟨aiS,eo2⟩:=R2.obj;show(aL _ dx _ hx2 T.aa T.gC (δ _ rfl ⟨aiS,_,eo2,rfl,_,_,R2,by have:=ok.hi;lk,λH3 s3=>?_⟩));let h9:=oT (λy hy=>(ok.each y hy).2.1.2) xs.4;let h6:=ok.hi;show(mh _ rfl () () ?_);rw[bG];show Ff (ϊ (show aG xs xs.4<=54 by lk) "!") (λD i ys H'=>∃rs ds,kN a.j7 H3 H' D ys i rs ds) (λD hD=>(uY ([]) ([]) (kN.zero hD))) (λD i ys H' _ η=>Ri η λrs ds h=>⟨h.33,by rw[h.eq,Η,h.lr];show ξ _⟩) (λD i ys H' hD hi ⟨rs,ds,h⟩ Qe qe=>?_) (λD ys H4 hD η=>Ri η λrs ds h=>?_)
 ·lia
  show λr XX Ym hdr ndr=>(δ XX Δ (λd H5 hd nd c5 R5=>⟨rfl,?_⟩))
  (show cW (dq hd) λhd0 _ _=>?_);obtain⟨e5,h5⟩:=h.succ (iq Ym hdr c5) Ym hd0 nd R5;show qe _ _ e5 (uY _ _ h5)
 let s4:=s3.trans h.same;let hx4:=s4 _ _ hx2;let f4:=((f1.gh l2).gh s3.gh).adds (D::(rs++ds)) (L2.trans s3.gh) h.fr.nd h.fr.no h.same.gh h.fr.yes;let d0:=λb hb=>f4.no b (Φ _ hb);show(dL _ dx _ hx4 T.aa T.ju (show 1 < 1000 by decide) ?_);generalize hH5:upd H4 x _=H5;walk_at "ex";(show cW (Hn hx4 hH5) λc5 hx5 l5=>?_);let L5:=(L2.trans s4.gh).trans l5;show λsn Jm Yk W5 anr=>(δ Jm Δ (λl t p' H6 hl ht hp6 c6 R6=>⟨rfl,?_⟩))
 let s6:=iq Yk W5 c6;let f6:=(f4.gh l5).four L5 s6.gh (by simp;show⟨⟨R6.rl,R6.rt,R6.rp⟩,⟨R6.lt,R6.lp⟩,R6.tp⟩) Yk (dq hl).1 (dq ht).1 (dq hp6).1 (R6.obj.elim λ_ e=>⟨_,e⟩) (R6.gh.elim λ_ e=>⟨_,e.1⟩) (R6.QV.elim λ_ e=>⟨_,e.1⟩) (R6.UR.elim λ_ e=>⟨_,e.1⟩);let hx6:=s6 _ _ hx5;show(dL _ dx _ hx6 T.aa T.bu (show 2 < 1000 by decide) ?_);generalize hH7:upd H6 x _=H7;walk_at "ex";(show cW (Hn hx6 hH7) λc7 hx7 l7=>?_);let L7:=(L5.trans s6.gh).trans l7;show λde EB Dq aiU anu=>(δ EB Δ (λdl bz H8 Go UX c8 R8=>⟨rfl,?_⟩))
 let s8:=iq Dq aiU c8
 let f8:=(f6.gh l7).three L7 s8.gh (ό (dq Go).2.1) (ό (dq UX).2.1) (λz=>by
  (show Ϗ R8.Kn λ_ e _=>?_)
  rw[<-z,R8.33] at e;cases e) Dq (dq Go).1 (dq UX).1 (R8.obj.elim λ_ e=>⟨_,e⟩) ⟨_,R8.33⟩ (R8.Kn.elim λ_ e=>⟨_,e.1⟩)
 let hx8:=s8 _ _ hx7;show(dL _ dx _ hx8 T.aa T.az (show 3 < 1000 by decide) ?_);generalize hH9:upd H8 x _=H9;walk_at "ex";(show cW (Hn hx8 hH9) λc9 hx9 l9=>?_);let L9:=(L7.trans s8.gh).trans l9;show λgr hgr=>?_;let UK:ι H9 (upd H9 gr (.dK [])):=ι.upd hgr;let f10:=(f8.gh l9).add L9 hgr UK.gh ⟨_,Δ⟩;let e10:upd H9 gr (.dK []) gr=!.dK []:=Δ;generalize upd H9 gr (.dK [])=UL at UK f10 e10 ⊢;let aeL:=UK _ _ hx9;show(dL _ dx _ aeL T.aa T.yU (show 4 < 1000 by decide) ?_);generalize aiV:upd UL x _=VH;walk_at "ex";(show cW (Hn aeL aiV) λc11 aiW l11=>?_);let L11:=(L9.trans UK.gh).trans l11;show λrd dxe hrd aiX anx=>(δ dxe Δ (λra rb H12 hra hrb c12 R12=>⟨rfl,?_⟩))
 let W6:=iq hrd aiX c12;let f12:=(f10.gh l11).three L11 W6.gh R12.ra R12.rb R12.ab hrd (dq hra).1 (dq hrb).1 (R12.obj.elim λ_ e=>⟨_,e⟩) (R12.row.elim λ_ e=>⟨_,e.1⟩) (R12.pla.elim λ_ e=>⟨_,e.1⟩);let aeM:=W6 _ _ aiW;show(dL _ dx _ aeM T.aa T.xu (show 5 < 1000 by decide) ?_);generalize aiY:upd H12 x _=H13;walk_at "es";(show cW (Hn aeM aiY) λL13 aeN l13=>?_);show(dL _ dx _ aeN T.aa T.jv (show 6 < 1000 by decide) ?_);generalize aiZ:upd H13 x _=H14;(show cW (Hn aeN aiZ) λc14 ai0 l14=>?_);let L14:=((L11.trans W6.gh).trans l13).trans l14;let f14:=(f12.gh l13).gh l14;let g12:=L13.trans c14;let g8:=c9.trans ((ϰ.of_same UK).trans (c11.trans ((ϰ.of_same W6).trans g12)));let g6:=c7.trans ((ϰ.of_same s8).trans g8);let g4:=c5.trans ((ϰ.of_same s6).trans g6);let g2:=(ϰ.of_same s4).trans g4;let no:=λb hb=>nx (f14.no b hb);show q { c:=0,st:=x,bk:=0,bl:=0,sh:=sh,shl:=shl,rl:=D,sn:=sn,l:=l,t:=t,p:=p',de:=de,dl:=dl,bz:=bz,gr:=gr,rd:=rd,ra:=ra,rb:=rb,rs:=rs,ds:=ds } H14 rfl ((ϰ.of_same s1).trans (c2.trans g2)) (f14.perm (SY ({ c:=0,st:=x,bk:=0,bl:=0,sh:=sh,shl:=shl,rl:=D,sn:=sn,l:=l,t:=t,p:=p',de:=de,dl:=dl,bz:=bz,gr:=gr,rd:=rd,ra:=ra,rb:=rb,rs:=rs,ds:=ds }:CA))) ⟨⟨dx,ai0⟩,R2.bO g2 (nx Uo) (nx Up),ok,?_,λi r d h1 h2=>?_,h.lr,h.ld.trans h.lr.17,?_,?_,?_,?_⟩
 ·show g4.keep _ _ (by rw[h.33,h.eq]) (no _ (mi 11 rfl))
 ·let m1:=Β h1
  show(h.row i r d h1 h2).bO g4 (nx (d0 _ (ψ _ (Φ _ m1)))) (nx (d0 _ (ψ _ (Θ _ (Β h2)))))
 ·show R6.bO g6 (no _ (mi 7 rfl)) (no _ (mi 8 rfl)) (no _ (mi 9 rfl)) (no _ (mi 10 rfl)) (λb hb=>.inr λxs z=>by rw[Ζ.mp hb,hx6] at z;cases z)
 ·show(R8.bO g8 (no _ (mi 4 rfl)) (no _ (mi 5 rfl)) (no _ (mi 6 rfl)) (λ_ hu=>nomatch hu)).any
 ·show R12.bO g12 (no _ (mi 0 rfl)) (no _ (mi 1 rfl)) (no _ (mi 2 rfl))
 ·show(c11.trans ((ϰ.of_same W6).trans g12)).keep _ _ e10 (no _ (mi 3 rfl))
local macro_rules | `(tactic| walk_at "rd")=>rdM "Fv Fx CW CY Fy Fz HB"
def zb (T:Txt w K mg a):qv P w K mg base Jf 8 a.lC a.iM ["self","sender","life","turns"] (FB (j9 a) a.Ϡ):=by
 walk_at "X ok Uh Q8 8";(revert h;show mf λA0 d Z X n life=>yx λtu t ϐ hC ht h1=>CG λh2 h3 h4 h5 hB q=>?_;subst ϐ);show(δ _ (Τ (ϔ (bj ϵ T.ax T.fw (fI T) hr ϋ (aC (ϥ T.yl (Gb T) hr ϋ (ϕ (ϳ K ϵ) (ϕ aw (bC cO fU)))))))) ?_);obtain⟨Dr,Cw⟩:=hC.ce.pH;show(ϧ Dr _ Cw rfl (aL _ Dr _ Cw T.ax T.bL (δ _ (jd A0) ⟨t,A0,rfl,d,Z,X.M,X.m,ht▸hC.ask,h1,h2,h3,h4,hB,(HD (e:=.begin (X.m.M.ds.4+1) n (t+tu)) hC.ce (uu hC.nm () ()) (by have:=hC.ln;lk) ⟨hB,h4,h5,rfl⟩ ?_).mono λv H1 _ h=>h E0⟩)))
 intro u H1 H' s hu c d' Z' hn hz C;subst hu;show q H' d' Z' ((ϰ.of_same s).trans c) hn hz C
def Cn:T.ua.O P w mg base 8 (HE (j9 a) a.Ϡ):=by
 walk_at "x ok ua TH 6";(revert h;show mf λA0 d Z X n life=>qp λϐ hC q=>?_;subst ϐ);obtain⟨j,x,e,hB,hj,FL,hx,he,Sz,q⟩:=q;show(δ _ (Τ (ϔ (bj ϵ T.ax T.fw (fI T) hr ϋ (aC (ϥ T.B8 (IM T) hr ϋ (ϕ (ϳ K ϵ) (bC aw cO))))))) ?_);obtain⟨Dr,Cw⟩:=hC.ce.pH;show(ϧ Dr _ Cw rfl (aL _ Dr _ Cw T.ax T.bL (δ _ (jd A0) ⟨X.t,A0,rfl,d,Z,X.M,X.m,hC.ask,j,hB,hj,(HD (e:=.drop (j+1)) hC.ce (eZ ()) (by have:=hC.ln;lk) (zS j x e rfl hx (FL▸hB) he Sz rfl) ?_).mono λv H1 _ h=>h E0⟩)))
 intro u H1 H' s hu c d' Z' hn hz C;subst hu;show q H' d' Z' ((ϰ.of_same s).trans c) hn hz C
def zc:T.rF.O P w mg base 8 (FC (j9 a) a.Ϡ):=by
 walk_at "x ok rF Q9 6";(revert h;show mf λA0 d Z X n life=>qp λϐ hC q=>?_;subst ϐ);obtain⟨j,x,e,hB,hj,FL,hx,he,he2,q⟩:=q;show(δ _ (Τ (ϔ (bj ϵ T.ax T.fw (fI T) hr ϋ (aC (ϥ T.ym (Gc T) hr ϋ (ϕ (ϳ K ϵ) (bC aw cO))))))) ?_);obtain⟨Dr,Cw⟩:=hC.ce.pH;show(ϧ Dr _ Cw rfl (aL _ Dr _ Cw T.ax T.bL (δ _ (jd A0) ⟨X.t,A0,rfl,d,Z,X.M,X.m,hC.ask,j,e,hB,hj,he,he2,(HD (e:=.close (j+1)) hC.ce (eZ ()) (by have:=hC.ln;lk) (fk j x rfl hx (FL▸hB) rfl) ?_).mono λv H1 _ h=>h E0⟩)))
 intro u H1 H' s _ c d' Z' hn hz C;show q u H' d' Z' ((ϰ.of_same s).trans c) hn hz C
def rL:T.na.O P w mg base 8 (xZ (j9 a) a.Ϡ):=by
 walk_at "x ok na TF 6";(revert h;show mf λA0 d Z X n kk=>CG λϐ hC hn hkk hk9=>yz λWv ND hv q=>?_;subst ϐ);show(δ _ (Τ (ϔ (bj ϵ T.ax T.fw (fI T) hr ϋ (aC (ϥ T.B6 (IQ T) hr ϋ (bC (ϳ K ϵ) aw)))))) ?_);obtain⟨Dr,Cw⟩:=hC.pH;show(ϧ Dr _ Cw rfl (aL _ Dr _ Cw T.ax T.bL (δ _ (jd A0) ⟨X.t,A0,rfl,d,Z,X.M,X.m,kk,hC.st,hn,hkk,hk9,?_⟩)));rcases q with⟨hB,q⟩ | ⟨j,x,e,hB,hj,FL,hx,he,Sz,q⟩
 ·show .inl ⟨hB,(HD (e:=.cr n kk) hC (kD hn hk9) () ⟨ND,hv,rfl⟩ ?_).mono λv H1 _ h=>h E0⟩
  rintro u H1 H' s ⟨v,rfl,hv1⟩ c d' Z' hn hz C
  show q v H' d' Z' ((ϰ.of_same s).trans c) hn hz C (c.tup _ _ hv1)
 ·show .inr (ac j hB hj ((aap (es:=[.drop (j+1),.cr n kk]) hC ?_ (by show X.M.ls.4+2<=5000;lk) (aat X ⟨X.t,{ X.M with Ms:=mW X.48 e.1 },X.m.finish j x gR⟩ _) rfl (O2 (zS j x e rfl hx (FL▸hB) he Sz rfl) ⟨ND,hv,rfl⟩) ?_).mono λv H1 _ h=>h E0))
  ·intro e' DU
   simp only[Ι,Μ,ϖ] at DU;rcases DU with rfl | rfl
   ·show eZ ()
   ·show kD hn hk9
  ·rintro u H1 H' s ⟨v,rfl,hv1⟩ c d' Z' hn hz C
   show q v H' d' Z' ((ϰ.of_same s).trans c) hn hz C (c.tup _ _ hv1)
def rM:T.j8.O P w mg base 8 (HG (j9 a) a.Ϡ):=by
 walk_at "x ok j8 Ib 7";(revert h;show mf λA0 d Z X tu t=>Jq λXs ϐ hC ht h1=>CG λh2 h3 h4 Wv h0=>ke λiA q=>?_;subst ϐ);show(δ _ (Τ (ϔ (bj ϵ T.ax T.fw (fI T) hr ϋ (aC (ϥ T.B9 (IP T) hr ϋ (bC (ϳ K ϵ) aw)))))) ?_);obtain⟨Dr,Cw⟩:=hC.pH;let hov:∀i∈i8 X.m.M ((t+tu:Nat)) X.m.M.ds.4,∃j,i=(j:Int)+1/\j < 1000:=λi hi=>by
  (show Ϗ (μ.mp hi) λj hj ϐ=>?_;subst ϐ);have:=CC.mp (cT.mp hj).1;show(δ j rfl ())
 let lov:(kP X t tu).4<=X.m.M.ds.4+1:=by
  unfold kP i8;rw[ω,Η,Η];have:=cw (odd X.m.M ((t+tu:Nat))) (aU X.m.M.ds.4);rw[d5] at this;lk
 show(ϧ Dr _ Cw rfl (aL _ Dr _ Cw T.ax T.bL (δ _ (jd A0) ⟨t,A0,rfl,d,Z,X.M,X.m,ht▸hC.st,h1,h2,h3,h4,(aap hC ?_ () Xs h0 iA ?_).mono λv H1 _ h=>h E0⟩)))
 ·intro e' DU
  rcases Ι.mp DU with rfl | DU
  ·show wW ()
  ·(show Ϗ (μ.mp DU) λi hi ϐ=>?_;subst ϐ)
   (show Ϗ (hov i hi) λj ϐ hj=>?_;subst ϐ);show eZ ()
 ·intro u H1 H' s hu c d' Z' hn hz C
  subst hu;show q H' d' Z' ((ϰ.of_same s).trans c) hn hz C
def Dt (T:Txt w K mg a):qv P w K mg base Jf 8 a.pk a.iL ["self","sender","life","number","shelf","key","word","deed"] (AV (j9 a) a.Ϡ):=by
 walk_at "X ok W0 UV 17";(revert h;show mf λA0 d Z X X' n=>mf λO0 key wo life num dd=>Ni λj i pl x mr ϐ hC Wv hP iA q=>?_;subst ϐ);show(δ _ (Τ (ϔ (bj ϵ T.ax T.fw (fI T) hr ϋ (aC (ϥ T.Et (LM T) hr ϋ (ϕ (ϳ K ϵ) (ϕ aw (ϕ cO (ϕ fU (ϕ (pv 4) (bC (bi (bC (pv 5) (pv 6))) (pv 7)))))))))))) ?_);lia;obtain⟨Dr,Cw⟩:=hC.pH;show(ϧ Dr _ Cw rfl (aL _ Dr _ Cw T.ax T.bL (ac _ (jd A0) "!" (λp hp=>?_))));let sp:=ι.upd (o:=.tup [.str (S key),wV wo]) hp;show(cJ X.t A0 rfl (zT d Z X.M X.m key wo (Js j i pl x mr Δ (hP.same sp) ((HD (hC.same sp) ?_ () iA ?_).mono λv H1 _ h=>h E0))))
 ·let hm:=(Α.mp hP.mrx).1
  let q1:=hC.st.kM;let hxl:=HC hC.st;let hx9:=hC.st.Cy.hi;have:=hP.nu;have:=hP.dde;have:=hP.ple;show AN hP.ask.nm () () () () hP.ky hP.wd hP.wl
 ·rintro u H1 H' s ⟨v,rfl,hv1⟩ c d' Z' hn hz C
  show q v H' d' Z' ((ϰ.of_same (sp.trans s)).trans c) (λb hb=>(hn b hb).imp id λz=>ϸ sp z) hz C (c.tup _ _ hv1)
end
def walk {l:alz}{K:aox->ζ}(hn:l.most=some 63)(hdf:d.58=[])
  (hY:∀(w:dX) (h:a9),YP w h->(K w.40).In h)
  (F:∀(w:dX) (mg:Str->Option Ω) (fa:Ν) (h:a9),(K w.40).In h->h.Ns mainGlobals mg->mg d.47=!.ref fa->
   ∃fd:fF,(∀(s:ς) (u:Ω),Gq s fd ⟨[u],[]⟩ [("_law_script",u)])/\∀base:a9,(K w.40).In base->base.Ns mainGlobals mg->qv l.29 w (K w.40) mg base Jf 22 fa fd ["_law_script"] (Sq (K w.40))) :
  apT q loose XP YP l.76 d [] (λf vs=>PySem.call f vs):=
 L2.VB hn "!" hdf ⟨rfl,"!","!"⟩ hY F (λ_ _ a ns hl _ hS=>(fk a ns rfl hS hl (λ_=>rfl))) λ_ _ _ _ _ z=>z
section
variable {P:ah} {w:dX} {K:ζ} {mg:Str->Option Ω} {base:a9} {a:Adr} (T:Txt w K mg a)
local macro_rules | `(tactic| walk_at "rd")=>rdM ""
def Ge:T.yi.O P w mg base 1 FF:=by
 walk_at "h ok yi o9 T b";obtain⟨a,rfl,hl,q⟩:=h
 show⟨_,(Λ (Ϻ 1 o9 (bx PySem.F.plainAttrs_str PySem.F.slot_str_split PySem.F.type_str_split HI ϵ (aC ο)))
   (Λ (Ϻ 2 o9 (ap (aC (ϓ K hr aw π))))
   (Λ (cQ ϡ rfl (aW (dR (fN) aw (fo π) gy)) (am (i:=3) o9.nd rfl (aP rfl)) (Τ (aE (bc (bx PySem.F.plainAttrs_str PySem.F.slot_str_startswith PySem.F.type_str_startswith gT fU (aC ο)) (by intro _;rfl)) (Τ (ϣ (bx PySem.F.plainAttrs_list PySem.F.slot_list_append PySem.F.type_list_append bE cO (aC (av (aD) ο (dR (fN) fU (fo π) gy)))))) (Τ (aE (bc (bx PySem.F.plainAttrs_str PySem.F.slot_str_startswith PySem.F.type_str_startswith gT fU (aC ο)) (by intro _;rfl)) (Τ (ϣ (bx PySem.F.plainAttrs_list PySem.F.slot_list_append PySem.F.type_list_append bE cO (aC (av (aD) ο (dR (fN) fU (fo π) gy)))))) (Τ fX))))))
   (Τ (ϔ (bx PySem.F.plainAttrs_str PySem.F.slot_str_join PySem.F.type_str_join (Au) ο (aC cO))))))),?_⟩
 walk1
 let lg:=AC a
 show ⟨126,by decide +kernel,(),λl Ra=>?_⟩
 obtain⟨p0,us,e1,e2,e3⟩:=aei a
 let hlen:us.4<=1000000:=by have:=oZ 126 (gd a);rw[e1] at this;simp at this;lk
 let ai2:p0.4+(us.map (λu=>u.2.4)).72<=5000:=by
  have:=congrArg be e2;rw[Ρ,List.length_flatten,Ϥ] at this;let e4:(us.map (be ∘ jJ))=us.map (λu=>u.2.4):=rfl
  rw[e4] at this;lk
 rw[e1]
 let Z:4000000<=sizeLine:=by decide
 show dh (.inl (.inl Δ)) (v:=.str (S p0)) (bf "!" rfl) ⟨(),λp Gp=>?_⟩
 let Jh:p≠l:=λz=>by rw[z,Δ] at Gp;cases Gp
 let hlp:upd (upd H l (.lst (so (λp=>V.str (S p)) (p0::us.map ϝ)))) p (.lst [V.str (S p0)]) l=!(.lst (tx (p0::us.map ϝ))):=by rw[ν (ό Jh),Δ];rfl
 let hpp:upd (upd H l (.lst (so (λp=>V.str (S p)) (p0::us.map ϝ)))) p (.lst [V.str (S p0)]) p=!.lst [V.str (S p0)]:=Δ
 let s1:ι H (upd (upd H l (.lst (so (λp=>V.str (S p)) (p0::us.map ϝ)))) p (.lst [V.str (S p0)])):=(ι.upd Ra).trans (ι.upd Gp)
 let zJ:H p=none:=by rw[ν Jh] at Gp;show Gp
 generalize upd (upd H l (.lst (so (λp=>V.str (S p)) (p0::us.map ϝ)))) p (.lst [V.str (S p0)])=H1 at hlp hpp s1 ⊢
 show uk (.inl (.inl hlp)) λr Ym=>di (.inl (.inl Δ)) ?_
 rw[show oP (tx (p0::us.map ϝ)) (some 1) none=tx (us.map ϝ) from kl _ 1]
 let nrp:r≠p:=λz=>by rw[z,hpp] at Ym;cases Ym
 show cy (xs:=tx (us.map ϝ)) (λi σ H'=>ι H H'/\H' r=!.lst (tx (us.map ϝ))/\H' p=!(.lst (tx (p0::(us.take i).map jJ)))/\∃v,σ=[!V.str (S (gd a)),!V.ref l,!V.ref p,v]) ⟨s1.trans (ι.upd Ym),Δ,by rw[ν (ό nrp),hpp];rfl,none,rfl⟩ (λi σ H' _ h=>.inl (.inl h.2.1)) ?_ ?_
 ·rintro i x σ H' hx ⟨VI,hr',NW,v,rfl⟩
  unfold tx at hx
  rw[Ξ,Ξ] at hx
  obtain⟨_,h0,rfl⟩:=χ.mp hx
  obtain⟨u,hu,rfl⟩:=χ.mp h0
  let mu:=Β hu
  let hi:i < us.4:=(Α.mp hu).1
  let lu:u.2.4<=5000:=by
   have:=uq (μ.mpr ⟨u,mu,rfl⟩:u.2.4∈us.map (λu=>u.2.4));lk
  let hll:(tx (p0::(us.take i).map jJ)).4 < sizeLine:=by unfold tx;simp;lk
  let key:ι H (upd H' p (.lst (tx (p0::(us.take i).map jJ)++[V.str (S u.2)])))/\upd H' p (.lst (tx (p0::(us.take i).map jJ)++[V.str (S u.2)])) r=!.lst (tx (us.map ϝ))/\upd H' p (.lst (tx (p0::(us.take i).map jJ)++[V.str (S u.2)])) p=!(.lst (tx (p0::(us.take (i+1)).map jJ))):=⟨VI.wr zJ,by rw[ν nrp];show hr',by rw[Δ,cz hu];simp[tx]⟩
  walk1
  rw[show Κ "w"=S [119] by decide +kernel,show Κ "s"=S [115] by decide +kernel,iH,iH]
  obtain⟨k,rfl | rfl⟩:=e3 u mu
  ·dsimp only at lu hll key⊢;rw[ε (show decide ((119::k)[0]?=some 119)=true by simp)];show ⟨.inl ⟨_,.inl (.inl NW)⟩,.inr ⟨_,rfl,by simp at lu⊢;lk,?_⟩⟩;rw[show sw (119::k) (some 1) none=k from kl _ 1,show Κ "~"=S [126] by decide +kernel];dsimp only;rw[vc];show ⟨by simp at lu⊢;lk,_,NW,hll,key⟩
  ·dsimp only at lu hll key⊢;rw[Ψ (show ¬decide ((115::k)[0]?=some 119)=true by simp),ε (show decide ((115::k)[0]?=some 115)=true by simp)];show ⟨.inl ⟨_,.inl (.inl NW)⟩,.inr ⟨_,rfl,by simp at lu⊢;lk,?_⟩⟩;rw[show sw (115::k) (some 1) none=k from kl _ 1,show Κ ";"=S [59] by decide +kernel];dsimp only;rw[vc];show ⟨by simp at lu⊢;lk,_,NW,hll,key⟩
 ·rintro σ H' ⟨VI,hr',NW,v,rfl⟩
  rw[show(tx (us.map ϝ)).4=us.4 by simp[tx],ϴ] at NW
  walk1
  show ⟨[],by decide +kernel,_,.inl (.inl NW),?_,?_⟩
  ·have:=ai2;simp only[ϒ,cH,aF,Nat.mul_zero,Ϥ] at this⊢;change p0.4+(us.map (λu=>u.2.4)).72+0<=_;lk
  ·rw[NV,List.flatten_cons,<-e2]
   show q _ VI
def QB:T.Iy.O P w mg base 2 O8:=by
 walk_at "h ok Iy abO T t";obtain⟨l,rfl,SD,hl,ht,ha,q⟩:=h
 show⟨_,(Τ (ϔ (fM ["text"] ["text"] (Υ w6) (s!"c") (aW (bx PySem.F.plainAttrs_str PySem.F.slot_str_split PySem.F.type_str_split HI ϵ (aC ο))) (λC₁ s₁ H₁ f₁=>(ϥ T.yi (Ge T) hr ϋ (aC ϵ)))))),?_⟩
 walk1
 show ⟨59,by decide +kernel,ht,λD0 hD0=>di (.inl (.inl Δ)) ?_⟩
 rw[qM (λz=>SD (L8.mp z)) (λp hp=>by obtain⟨x,_,rfl⟩:=μ.mp hp;show MK x)]
 let Z:4000000<=sizeLine:=by decide
 let sm:=ι.upd (o:=HO.lst ((l.map gd).map λp=>V.str (S p))) hD0
 let h0:upd H D0 (HO.lst ((l.map gd).map λp=>V.str (S p))) D0=!(.lst ((l.map gd).map λp=>V.str (S p))):=Δ
 generalize upd H D0 (HO.lst ((l.map gd).map λp=>V.str (S p)))=H1 at sm h0 ⊢
 show qL (by rw[Η,Η];lk) (λD i ys H'=>H1 D=none/\ι H1 H'/\H' D=!.lst ys/\ys=tx (l.take i)) (λD hD=>⟨hD,ι.upd hD,Δ,rfl⟩) (λD i ys H' _ h=>⟨h.2.2.1,by rw[h.2.2.2];simp[tx];lk,.inl (.inl (h.2.1 _ _ h0))⟩) ?_ ?_
 ·rintro D i ys H' x hD hx ⟨_,s',e',rfl⟩ Qe qe
  rw[Ξ,Ξ] at hx
  obtain⟨_,h2,rfl⟩:=χ.mp hx
  obtain⟨c,hc,rfl⟩:=χ.mp h2
  walk1
  show ⟨c,rfl,ha c (Β hc),λkh UH=>qe _ _ (UH _ _ e') ⟨hD,ι.wr (s'.trans UH) hD,Δ,by rw[cz hc];simp[tx]⟩⟩
 ·rintro D ys H' hD ⟨_,s',e',rfl⟩
  rw[Η,Η,ϴ] at e'
  show q D H' (ϸ sm hD) (sm.trans s') e'
def LN:T.El.O P w mg base 3 O9:=by
 walk_at "h ok El K1 K n T t";obtain⟨b,rfl,g,q⟩:=h
 show⟨_,(Λ (Ϻ 2 K1 (dR (fN) aw (fo (dD T.F7)) gy))
   (Λ (aE (Ϯ (kI (hU hr)) aw (ϥ T.xq (Ci T) hr ϋ (bC ϵ cO)) (aq _)) (Τ fX) ϭ)
   (Τ (ϔ cO)))),?_⟩
 walk1;show .inr ⟨_,rfl,?_,?_⟩
 ·have:=g.hd;have:=g.l;have:40000<=sizeLine:=by decide
  show(XU n b++b).4<=_;rw[Ρ];lk
 ·rw[show sw (tI n b) (some 18) none=b from g.cut];show ⟨n,rfl,b,rfl,g,λH' s=>?_⟩;rw[V2];show⟨_,rfl,?_⟩;rw[Ψ ∅];show q H' s
def Co:T.tY.O P w mg base 4 Pa:=by
 walk_at "h ok tY Bb K n T t";obtain⟨b,rfl,hn,g,q⟩:=h
 show⟨_,(Λ (Ϻ 2 Bb (ϥ T.El (LN T) hr ϋ (bC ϵ aw)))
   (Λ (aE (PW.pt (pw_and (iB (bc (bx PySem.F.plainAttrs_str PySem.F.slot_str_startswith PySem.F.type_str_startswith gT cO (aC ο)) (by intro _;rfl))) (pw_and1 (iB (bc (bx PySem.F.plainAttrs_str PySem.F.slot_str_startswith PySem.F.type_str_startswith gT cO (aC ο)) (by intro _;rfl)))))) (Τ fX) ϭ)
   (Τ (ϔ cO)))),?_⟩
 walk1;show⟨b,rfl,⟨hn,g.1,()⟩,λH' s=>?_⟩;walk1;obtain⟨c,r,rfl,hc⟩:=g.2.2;rw[show Κ "+"=S [43] by decide +kernel,show Κ "."=S [46] by decide +kernel,iH,iH];rcases hc with rfl | rfl
 ·rw[Ψ ∅];show q H' s
 ·rw[ε ∅,Ψ ∅];show q H' s
def Cp:T.tZ.O P w mg base 5 Tg:=by
 walk_at "h ok tZ kQ R p";obtain⟨ss,hp,hl,hs,q⟩:=h
 show⟨_,(Λ (Ϻ 1 kQ (ap eR))
   (Λ (cQ ϡ rfl (oR rfl T.km (aC ϵ)) (jo (n:=2) rfl (bh (am (i:=2) kQ.nd rfl (aP rfl)) (bh (am (i:=3) kQ.nd rfl (aP rfl)) jn))) (Τ (Wx (Τ (ϣ (bx PySem.F.plainAttrs_list PySem.F.slot_list_append PySem.F.type_list_append bE aw (aC (ϥ T.tY (Co T) hr ϋ (bC cO fU)))))))))
   (Τ (ϔ aw)))),?_⟩
 walk1
 show ⟨"!",λD hD=>⟨⟨_,.inl (.inl (ι.upd hD _ _ hp))⟩,wJ (xs:=tx (vj 0 ss)) (λi σ H'=>ι H H'/\H' D=!.lst (tx (ss.take i))/\∃v1 v2,σ=[!.ref p,!.ref D,v1,v2]) ⟨ι.upd hD,Δ,none,none,rfl⟩ (λi σ H' _ h=>.inl (.inl (h.1 _ _ hp))) ?_ ?_⟩⟩
 ·rintro i x t σ H' hx ht ⟨s',e',v1,v2,rfl⟩
  unfold tx at hx;rw[Ξ] at hx;obtain⟨y,hy,rfl⟩:=χ.mp hx
  let hi:i < ss.4:=by have:=(Α.mp hy).1;rwa[jq] at this
  let hb:=Ε hi;generalize ss[i]'hi=b at hb
  rw[ML 0 ss i b hb] at hy;cases hy;show ⟨t,_,rfl,.inl (.inl Δ),rfl,_,_,rfl,_,_,rfl,rfl,?_⟩;walk1;let st:=ι.upd (o:=.tup [V.int (i:Nat),.str (S (tI i b))]) ht
  show⟨.inl ⟨_,.inl (.inl (st _ _ e'))⟩,b,rfl,(),hs b (Β hb),λH2 s2=>⟨_,s2 _ _ (st _ _ e'),υ (show(tx (ss.take i)).4<=10000 by unfold tx;simp;lk) "!",ι.wr (s'.trans (st.trans s2)) hD,by rw[Δ,cz hb];simp[tx]⟩⟩
 ·rintro σ H' ⟨s',e',v1,v2,rfl⟩
  walk1;rw[show(tx (vj 0 ss)).4=ss.4 by simp[tx,jq],ϴ] at e';show q D H' hD s' e'
def LO:T.Em.O P w mg base 6 Pb:=by
 walk_at "h ok Em ie R p";obtain⟨ss,hp,hl,hs,hla,q⟩:=h
 show⟨_,(Λ (Ϻ 1 ie (ap eR))
   (Λ (Ϻ 2 ie (ap eR))
   (Λ (Ϻ 3 ie π)
   (Λ (cQ ϡ rfl (oR rfl T.km (aC (ϥ T.tZ (Cp T) hr ϋ (aC ϵ)))) (jo (n:=2) rfl (bh (am (i:=4) ie.nd rfl (aP rfl)) (bh (am (i:=5) ie.nd rfl (aP rfl)) jn))) (Λ (ϣ (bx PySem.F.plainAttrs_list PySem.F.slot_list_append PySem.F.type_list_append bE cO (aC (dR (fN) (pv 5) (fo π) gy))))
   (Τ (aE (bc (bx PySem.F.plainAttrs_str PySem.F.slot_str_startswith PySem.F.type_str_startswith gT (pv 5) (aC ο)) (by intro _;rfl)) (Λ (ϣ (bx PySem.F.plainAttrs_list PySem.F.slot_list_append PySem.F.type_list_append bE aw (aC cO)))
   (Λ (Ϻ 2 ie (ap eR))
   (Τ (Ϻ 3 ie (av (aD) (pv 4) π))))) ϭ))))
   (Τ (ϔ (bi (bC aw fU)))))))),?_⟩
 walk1
 show ⟨"!",λA hA=>⟨"!",λc0 hc0=>?_⟩⟩
 let ncA:c0≠A:=λz=>by rw[z,Δ] at hc0;cases hc0
 let hc:H c0=none:=by rw[ν ncA] at hc0;show hc0
 let s0:ι H (upd (upd H A (.lst [])) c0 (.lst [])):=(ι.upd hA).trans (ι.upd hc0)
 let a0:upd (upd H A (.lst [])) c0 (.lst []) A=!.lst []:=by rw[ν (ό ncA),Δ]
 let b0:upd (upd H A (.lst [])) c0 (.lst []) c0=!.lst []:=Δ
 generalize upd (upd H A (.lst [])) c0 (.lst [])=H0 at s0 a0 b0 ⊢
 show ⟨ss,s0 _ _ hp,hl,hs,λG H1 hG s1 eG=>?_⟩;walk1;show⟨⟨_,.inl (.inl eG)⟩,?_⟩
 let nG:∀{b o},H0 b=!o->b≠G:=λh z=>by rw[z,hG] at h;cases h
 show wJ (xs:=tx ss) (λi σ H'=>ι H H'/\H' G=!.lst (tx ss)/\∃As fu c cur m v4 v5,σ=[!.ref p,!.ref A,!.ref c,!.int m,v4,v5]/\H' A=!.lst (As.map V.ref)/\H' c=!.lst (tx cur)/\H c=none/\c≠A/\c≠G/\c∉As/\A∉As/\(∀a∈As,H a=none)/\j0 H' As fu/\As.4<=i/\cur.4<=i/\A≠G/\fu.30++cur=(ss.take i).map (yv 1)/\(i=0->cur=[])/\∀r,0 < i->ss[i-1]?=!(46::r)->cur=[]) ⟨s0.trans s1,eG,[],[],c0,[],0,none,none,rfl,s1 _ _ a0,s1 _ _ b0,hc,ncA,nG b0,∅,∅,∅,(.nil),∅,∅,nG a0,rfl,λ_=>rfl,λ_ h=>absurd h ()⟩ (λi σ H' _ h=>.inl (.inl h.2.1)) ?_ ?_
 ·rintro i x t σ H' hx ht ⟨s',eG',As,fu,c,cur,m,v4,v5,rfl,eA,ec,hcn,cA,cG,cn,An,hN,tA,lA,lc,nAG,fl,_,_⟩
  unfold tx at hx;rw[Ξ] at hx;obtain⟨b,hb,rfl⟩:=χ.mp hx
  let hi:i < ss.4:=(Α.mp hb).1;obtain⟨g1,g2,d,r,rfl,g4⟩:=hs b (Β hb)
  show ⟨t,_,rfl,.inl (.inl Δ),rfl,_,_,rfl,_,_,rfl,rfl,?_⟩;let st:=ι.upd (o:=.tup [V.int (i:Nat),.str (S (d::r))]) ht
  let eA1:=st _ _ eA;let ec1:=st _ _ ec;let eG1:=st _ _ eG';let tA1:j0 _ As fu:=tA.bO (B:=[]) (ϰ.of_same st) (λ_ _=>by simp);let s1':=s'.trans st
  generalize upd H' t (.tup [V.int (i:Nat),.str (S (d::r))])=H2 at eA1 ec1 eG1 tA1 s1' ⊢
  walk1;show ⟨.inl ⟨_,.inl (.inl ec1)⟩,.inr ⟨_,rfl,ϊ g2 "!",?_⟩⟩;rw[show sw (d::r) (some 1) none=r from kl _ 1,show Κ "."=S [46] by decide +kernel,iH]
  show ⟨_,ec1,υ (show(tx cur).4<=10000 by simp[tx];lk) "!",?_⟩
  let s3:ι H (upd H2 c (.lst (tx cur++[V.str (S r)]))):=s1'.wr hcn
  let c3:upd H2 c (.lst (tx cur++[V.str (S r)])) c=!.lst (tx (cur++[r])):=by rw[Δ];simp[tx]
  let A3:upd H2 c (.lst (tx cur++[V.str (S r)])) A=!.lst (As.map V.ref):=(ν (ό cA)).trans eA1
  let G3:upd H2 c (.lst (tx cur++[V.str (S r)])) G=!.lst (tx ss):=(ν (ό cG)).trans eG1
  let t3:j0 (upd H2 c (.lst (tx cur++[V.str (S r)]))) As fu:=tA1.bO (B:=[c]) (ϰ.upd ∅ (gY ec1)) (λa ha z=>cn (Ζ.mp z▸ha))
  let f3:fu.30++(cur++[r])=(ss.take (i+1)).map (yv 1):=by rw[cz hb,Ϣ,<-fl];simp
  generalize upd H2 c (.lst (tx cur++[V.str (S r)]))=H3 at s3 c3 A3 G3 t3 ⊢
  rcases g4 with rfl | rfl
  ·rw[Ψ ∅]
   show⟨s3,G3,As,A3,fu,cur++[r],c3,hcn,cA,cG,cn,An,hN,t3,(),by simp;lk,nAG,f3,λz=>z.38,λr' _ h=>by rw[Nat.add_sub_cancel,hb] at h;simp at h⟩
  ·rw[ε ∅];show ⟨.inl ⟨_,.inl (.inl A3)⟩,_,A3,υ (show(As.map V.ref).4<=10000 by simp;lk) "!","!",λp2 xQ=>?_⟩
   let s4:ι H (upd H3 A (.lst (As.map V.ref++[V.ref c]))):=s3.wr hA
   let A4:upd H3 A (.lst (As.map V.ref++[V.ref c])) A=!.lst ((As++[c]).map V.ref):=by rw[Δ];simp
   let G4:upd H3 A (.lst (As.map V.ref++[V.ref c])) G=!.lst (tx ss):=(ν (ό nAG)).trans G3
   let t4:j0 (upd H3 A (.lst (As.map V.ref++[V.ref c]))) (As++[c]) (fu++[cur++[r]]):=(t3.snoc c3).bO (B:=[A]) (ϰ.upd ∅ (gY A3)) (λa ha z=>by
    rcases Ο.mp ha with ha | ha
    ·show An (Ζ.mp z▸ha)
    ·show cA ((Ζ.mp ha).symm.trans (Ζ.mp z)))
   generalize upd H3 A (.lst (As.map V.ref++[V.ref c]))=H4 at s4 A4 G4 t4 xQ ⊢
   let sp:=ι.upd (o:=.lst []) xQ
   let tn:∀a∈As++[c],a≠p2:=λa ha z=>by obtain⟨l,hl⟩:=t4.has a ha;rw[z,xQ] at hl;cases hl
   show⟨s4.trans sp,sp _ _ G4,As++[c],sp _ _ A4,fu++[cur++[r]],[],Δ,ϸ s4 xQ,ό (aj A4 xQ),ό (aj G4 xQ),λz=>tn _ z rfl,λz=>(Ο.mp z).elim An (λz=>cA (Ζ.mp z).17),λa ha=>(Ο.mp ha).elim (hN a) (λz=>(Ζ.mp z)▸hcn),t4.bO (B:=[]) (ϰ.of_same sp) (λ_ _=>by simp),by simp;lk,∅,nAG,by simpa using f3,λ_=>rfl,λ_ _ _=>rfl⟩
 ·rintro σ H' ⟨s',eG',As,fu,c,cur,m,v4,v5,rfl,eA,ec,hcn,cA,cG,cn,An,hN,tA,lA,lc,_,fl,h0,Yn⟩
  rw[show(tx ss).4=ss.4 by simp[tx]] at fl h0 Yn
  let ai6:cur=[]:=by
   rcases Nat.eq_zero_or_pos ss.4 with z | z
   ·show h0 z
   ·obtain⟨r,hr⟩:=hla _ (List.getLast?_eq_getElem? ▸ Ε ())
    show Yn r z (by rw[<-hr];show Ε ())
  subst ai6;rw[cV,ϴ] at fl;walk1
  show ⟨"!",λT hT=>?_⟩
  let sT:=ι.upd (o:=.tup [V.ref A,.int m]) hT
  show q T A As fu m _ (s'.trans sT) hA hN Δ (sT _ _ eA) (tA.bO (B:=[]) (ϰ.of_same sT) (λ_ _=>by simp)) fl
def LP:T.En.O P w mg base 1 KO:=by
 walk_at "h ok En aaK T t";obtain⟨o,rfl,hl,q⟩:=h
 show⟨_,(Τ (ϔ (qG (Ϯ (cq (hU hr)) ϵ ο (aq _)) uh (dR (fN) ϵ (fo π) gy)))),?_⟩
 walk1;rw[show Κ "-"=S [45] by decide +kernel];cases o with
 | none=>rw[show S (tK none)=S [45] from rfl,ε rfl];show q
 | some w0=>rw[Ψ (λz=>by have:=nO z;simp[tK] at this)];show .inr ⟨_,rfl,ϊ hl "!",by rw[show sw (tK (!w0)) (some 1) none=w0 from kl _ 1];show q⟩
def IR:T.BY.O P w mg base 1 AI:=qv.never
def IS:T.BZ.O P w mg base 2 HK:=by
 walk_at "h ok BZ Ya S p T t";obtain⟨v,hp,hl,q⟩:=h
 show⟨_,(Λ (aE (Ϯ (qJ (tG hr)) ϵ (wK T.M8) (by rfl)) (Τ (ϔ aw)) ϭ)
   (Λ (aE (Ϯ (cq (hU hr)) ϵ ο (aq _)) (Τ (ϔ (ϥ T.En (LP T) hr ϋ (aC aw)))) ϭ)
   (Λ (aE (Ϯ (cq (hU hr)) ϵ ο (aq _)) (Τ (ϔ (ϥ T.BY (IR T) hr ϋ (aC aw)))) ϭ)
   (Τ (ϔ (bP O7 rfl T.Ui boot_int (aC aw))))))),?_⟩
 walk1;intro p1 zJ;show At (.inr (zJ H)) rfl rfl (δ _ rfl ?_);rw[show JP (V.str p) [V.str "sender",V.str "key",V.str "group",V.str "shelf",V.str "taker",V.str "reader"]=decide (p∈qR) from Hj p qR];rcases hp with⟨h1,rfl⟩ | ⟨rfl,o,rfl,rfl⟩ | ⟨h1,h2,h3,n,rfl,h4,rfl⟩
 ·rw[ε (ϱ h1)];show q
 ·rw[Ψ (s!"d"),ε rfl];show⟨o,rfl,hl,q⟩
 ·rw[Ψ (by simpa using h1),Ψ h2,Ψ h3];show⟨n,h4,rfl,q⟩
def IT:T.B5.O P w mg base 3 HL:=by
 walk_at "h ok B5 ya T t";obtain⟨e,rfl,ok,q⟩:=h
 show⟨_,(Λ (Ϻ 1 ya (ϥ T.Iy (QB T) hr ϋ (aC ϵ)))
   (Λ (Ϻ 2 ya (ϓ K hr aw π))
   (Τ (ϔ (ϥ T.eI (dW T) hr ϋ (bC cO (G7 ["body","texts","name"] ["body","texts","name"] (Υ qZ) ["part","text"] (by show⟨rfl,s!"d",s!"d",s!"d",s!"d",s!"d",s!"d"⟩) (MD rfl T.Uj (bC (Fk T.F9 cO (λ_ _=>rfl)) (dR (fN) aw (fo π) gy))) (λC₁ s₁ H₁ f₁=>(jo (n:=2) rfl (bh (am (i:=0) (show gu (α:=Str) ["part","text","body","texts","name"] by decide +kernel) rfl (aP rfl) (uc rfl)) (bh (am (i:=1) (show gu (α:=Str) ["part","text","body","texts","name"] by decide +kernel) rfl (aP rfl) (uc rfl)) jn)))) (λC₁ s₁ H₁ f₁=>(ϥ T.BZ (IS T) hr ϋ (bC ϵ aw)))))))))),?_⟩
 obtain⟨hm,hT⟩:(e.nm,V.ref (e.ad a.cc a.cM a.bK a.bJ a.b9 a.b6))∈[(Κ "hail",V.ref a.cc),("put",V.ref a.cM),("begin",V.ref a.bK),("close",V.ref a.bJ),("drop",V.ref a.b9),("turn",V.ref a.b6)]/\∀H,iV K H (e.ad a.cc a.cM a.bK a.bJ a.b9 a.b6) ((e.ps.map (·.1)).map V.str):=by
  cases e
  ·show⟨bI 0 rfl,T.ni⟩
  ·show⟨bI 1 rfl,T.pB⟩
  ·show⟨bI 2 rfl,T.lS⟩
  ·show⟨bI 3 rfl,T.lR⟩
  ·show⟨bI 4 rfl,T.nh⟩
  ·show⟨bI 5 rfl,T.ng⟩
 let Sz:=gJ.inL a.cc a.cM a.bK a.bJ a.b9 a.b6 e
 let nn:e.nm.cps.toList.4<=8/\∀c∈e.nm.6,c < 128:=by
  let hn:=Sz;generalize e.nm=n at hn⊢;generalize e.ps.map (·.1)=l at hn;generalize e.ad _ _ _ _ _ _=pa at hn;rcases Wq hn with h | h | h | h | h | h<;>cases h<;>decide +kernel
 let hb:UQ (KH e):=SW ok nn.1 nn.2
 let hlen:=ok.26
 generalize e.ad a.cc a.cM a.bK a.bJ a.b9 a.b6=pa at hm hT Sz
 walk1;show⟨e.nm.6::e.ps.map (λ(x:Part)=>x.2.2),rfl,∅,by simp;lk,ϊ hb.2 "!",λx hx=>?_,λD H1 hD s1 eD=>?_⟩
 ·rcases Ι.mp hx with rfl | hx
  ·lk
  ·obtain⟨z,hz,rfl⟩:=μ.mp hx
   have:=(ok.part z hz).2.1;lk
 show dh (.inl (.inl eD)) (v:=V.str e.nm) (bf "!" (congrArg (λx=>!V.str x) (Ap e.nm).17)) ⟨_,hm,rfl,uk (.inl (.inl eD)) λp hp=>⟨pa,rfl,p,rfl,⟨_,hT _⟩,⟨_,.inl (.inl Δ)⟩,?_⟩⟩
 let sp:=s1.trans (ι.upd (o:=.lst (oP (tx (e.nm.6::e.ps.map (λ(x:Part)=>x.2.2))) (some 1) none)) hp)
 let ep:upd H1 p (.lst (oP (tx (e.nm.6::e.ps.map (λ(x:Part)=>x.2.2))) (some 1) none)) p=!(.lst (tx (e.ps.map (λ(x:Part)=>x.2.2)))):=Δ.trans (congrArg (λx=>!HO.lst x) (kl _ 1))
 generalize upd H1 p (.lst (oP (tx (e.nm.6::e.ps.map (λ(x:Part)=>x.2.2))) (some 1) none))=H2 at sp ep ⊢
 show HJ (vs:=e.ps.map (λ(x:Part)=>x.2.1)) hT (.inl (.inl ep)) (by simp[tx]) (by simp[tx]) (by simp[tx];lk) ?_ ?_ ?_
 ·intro t x y H' o R ht ho r
  obtain⟨o1,o2,rfl⟩:∃o1 o2,o=[o1,o2]:=by
   match o,ho with
   | [o1,o2],_=>show⟨o1,o2,rfl⟩
  show⟨t,_,rfl,.inl (.inl ht),rfl,_,_,rfl,_,_,rfl,rfl,r⟩
 ·intro i x y v H' hx hy hv s' Qe qe
  unfold tx at hy;simp only[Ξ] at hx hy hv;cases hz:e.ps[i]? with
  | none=>rw[hz] at hx;cases hx
  | some z=>
   rw[hz] at hx hy hv;cases hx;cases hy;cases hv
   obtain⟨o1,o2,_⟩:=ok.part z (Β hz)
   show⟨_,o1,by show z.2.2.4<=1000;lk,qe _ (ι.refl _)⟩
 ·intro D2 H3 Jg s2 e2
  walk1;show⟨pa,e.ps,e2,Sz,ok,λD3 H4 hD3 s3 e3=>q D3 H4 (ϸ (sp.trans s2) hD3) (sp.trans (s2.trans s3)) e3⟩
def IU:T.FZ.O P w mg base 1 Th:=by
 walk_at "h ok FZ aen R D I i I pl";obtain⟨kvs,i0,p0,hD,h1,h2,q⟩:=h
 show⟨_,(Τ (ϔ (jL (mv (cq (hU hr)) (ϓ K hr ϵ ο) aw (aq _)) (mS (mv (cq (hU hr)) (ϓ K hr ϵ ο) cO (aq _)))))),?_⟩
 walk1;show ϙ (dg hD h1) ?_;rw[rV];show⟨_,rfl,?_⟩
 by_cases e:i0=i
 ·rw[ε (ϱ e)];show ϙ (dg hD h2) ?_;rw[rV,show decide (p0=pl)=decide (i0=i/\p0=pl) by simp[e]];show q
 ·rw[Ψ (by simpa using e),show false=decide (i0=i/\p0=pl) by simp[e]];show q
def QC:T.IB.O P w mg base 2 Pc:=by
 walk_at "h ok IB Pp R D I i I pl";obtain⟨Ds,es,hD,q1,q2⟩:=h
 show⟨_,(Λ (cQ ϡ rfl (aW ϵ) (am (i:=3) Pp.nd rfl (aP rfl)) (Τ (aE (PW.pt (pw_and (Ϯ (cq (hU hr)) (ϓ K hr fU ο) ο (aq _)) (pw_and1 (bc (ϥ T.FZ (IU T) hr ϋ (ϕ fU (bC aw cO))) (by intro _;rfl))))) (Τ (ϔ fU)) ϭ)))
   (Τ (ϔ uh))),?_⟩
 walk1;let hl:=hD.26
 show di (.inl (.inl hD.33)) (cy (λk σ H'=>H'=H/\(∀(j':Nat) e',j' < k->es[j']?=!e'->MM i pl e'=false)/\∃v,σ=[!.ref D,!.int i,!.int pl,v]) ⟨rfl,λ_ _ z=>absurd z (Va _),none,rfl⟩ (λk σ H' _ h=>.inl (.inl (h.1▸hD.33))) ?_ ?_)
 ·rintro k x σ H' hx ⟨rfl,hb,v,rfl⟩
  rw[Ξ] at hx;obtain⟨E,hE,rfl⟩:=χ.mp hx
  let hk:=(Α.mp hE).1
  let he:es[k]?=!es[k]'():=Ε ();generalize es[k]'()=e at he
  let ed:=hD.at' k E e hE he
  let nx:MM i pl e=false->(∀(j':Nat) e',j' < k+1->es[j']?=!e'->MM i pl e'=false):=λz j' e' hj h=>by
   rcases Jb j' k with g | g
   ·show hb j' e' g h
   ·have:j'=k:=by lk
    subst this;rw[he] at h;cases h;show z
  walk1;show ϙ (dg ed (HM _ _)) ?_;rw[vd];show⟨_,rfl,?_⟩
  let no:¬decide (e.nm=Κ "put")=true->MM i pl e=false:=λz=>by cases e<;>first | rfl | show absurd (ϱ rfl) z
  by_cases c:decide (e.nm=Κ "put")=true
  ·cases e with
   | put n kk dd i0 p0 key wo=>rw[ε c];show⟨_,_,_,ed,rfl,rfl,?_⟩;walk1;show E3 (λh=>q1 k _ E he (ϱ h) hb hE) (λh=>nx (ae h))
   | _=>show absurd c (by show ¬decide (Κ _=Κ "put")=true;decide +kernel)
  ·rw[Ψ c];show⟨rfl,nx (no c)⟩
 ·rintro σ H' ⟨rfl,hb,v,rfl⟩
  walk1;show q2 λe he=>by
   obtain⟨j,hj⟩:=ϛ he
   have:=(Α.mp hj).1;show hb j e (by rw[Η];lk) hj
def xD:T.qg.O P w mg base 1 wX:=by
 walk_at "h ok qg w9 R D";obtain⟨n,kk,dd,i,pl,key,wo,hD,q⟩:=h
 show⟨_,(Λ (Ϻ 1 w9 (ϓ K hr ϵ ο))
   (Λ (aE (Ϯ (cq (hU hr)) aw ο (aq _)) (Τ (ϔ (bi (ϕ ο (ϕ (ϓ K hr ϵ ο) (bC (ϓ K hr ϵ ο) (ϓ K hr ϵ ο))))))) ϭ) gx)),?_⟩
 walk1;show ϙ (dg hD rfl) ?_;rw[vd];show⟨_,rfl,?_⟩;rw[ε (ϱ rfl)];show ϙ (dg hD rfl) (ϙ (dg hD rfl) (ϙ (dg hD rfl) ⟨"!",λp hp=>q p hp⟩))
def Gf:T.yk.O P w mg base 7 FG:=by
 walk_at "h ok yk vC R p";obtain⟨ss,es,hp,L,q⟩:=h
 show⟨_,(Λ (Ϻ 1 vC (ap eR))
   (Λ (cQ ϡ rfl (aW (ϓ K hr (ϥ T.Em (LO T) hr ϋ (aC ϵ)) π)) (am (i:=2) vC.nd rfl (aP rfl)) (Τ (ϣ (bx PySem.F.plainAttrs_list PySem.F.slot_list_extend PySem.F.type_list_extend DI aw (aC cO)))))
   (Τ (ϔ (fM ["lines","bodies","act"] ["lines","bodies","act"] (Υ pe) (s!"c") (aW (dR (fN) aw (fo π) gy)) (λC₁ s₁ H₁ f₁=>(ϥ T.B5 (IT T) hr ϋ (aC ϵ)))))))),?_⟩
 walk1;let Z:10000<=sizeLine:=by decide
 let hn:=L.n
 show ⟨"!",λB hB=>⟨ss,ι.upd hB _ _ hp,(),L.sg,L.ls,λT0 A As fu m H1 s1 nA nAs eT eA tA fl=>dN (.inl (.inl eT)) rfl (di (.inl (.inl eA)) ?_)⟩⟩
 let s01:=(ι.upd (o:=.lst []) hB).trans s1
 let eB:H1 B=!.lst []:=s1 _ _ Δ
 let nB:∀{a},upd H B (.lst []) a=none->a≠B:=λh z=>by rw[z,Δ] at h;cases h
 let hlen:fu.flatten.4<=5000:=by rw[fl,Η];show hn
 show cy (λi σ H'=>ι H H'/\H' A=!.lst (As.map V.ref)/\j0 H' As fu/\H' B=!.lst (tx (fu.take i).30)/\∃v,σ=[!.ref p,!.ref B,v]) ⟨s01,eA,tA,eB,none,rfl⟩ (λi σ H' _ h=>.inl (.inl h.2.1)) ?_ ?_
 ·rintro i x σ H' hx ⟨s',eA',tA',eB',v,rfl⟩
  rw[Ξ] at hx;obtain⟨a0,ha,rfl⟩:=χ.mp hx
  obtain⟨act,h1,h2⟩:=tA'.get ha
  let e1:(fu.take (i+1)).30=(fu.take i).30++act:=by rw[cz h1];simp
  let l1:(fu.take i).flatten.4+act.4<=5000:=by
   have:=congrArg be (show fu.30=(fu.take (i+1)).30++(fu.drop (i+1)).30 by rw[<-List.flatten_append,Jc])
   rw[Ρ,e1,Ρ] at this;lk
  walk1;show⟨.inl ⟨_,.inl (.inl eB')⟩,B,a0,_,_,rfl,rfl,eB',h2,ϊ (show (tx (fu.take i).30).4+(tx act).4<=5000 by unfold tx;rw[Η,Η];show l1) "!",s'.wr hB,(ν (nB nA)).trans eA',tA'.bO (B:=[B]) (ϰ.upd ∅ (gY eB')) (λa ha z=>nB (nAs a ha) (Ζ.mp z)),by rw[Δ,e1];simp[tx]⟩
 ·rintro σ H' ⟨s',eA',tA',eB',v,rfl⟩
  rw[Η,Paired.length tA',ϴ] at eB' 
  walk1;show uk (.inl (.inl eB')) λq0 hq0=>di (.inl (.inl Δ)) ?_
  let ev:oP (tx fu.30) (some 1) none=tx (es.map KH):=by
   show (kl _ 1).trans ?_;rw[fl,<-L.ev];simp[tx]
  rw[ev];let s2:=s'.trans (ι.upd (o:=.lst (tx (es.map KH))) hq0)
  let e2:upd H' q0 (.lst (tx (es.map KH))) q0=!.lst (tx (es.map KH)):=Δ
  generalize upd H' q0 (.lst (tx (es.map KH)))=H2 at s2 e2 ⊢
  let le:es.4<=5000:=by have:=congrArg be L.ev;simp at this;lk
  show qL (by simp[tx];lk) (λD i ys H3=>H2 D=none/\ι H2 H3/\H3 D=!.lst ys/\∃Ds,ys=Ds.map V.ref/\Ds.4=i/\∀(k:Nat) E e,Ds[k]?=!E->es[k]?=!e->H3 E=!.dK (nT e.nm e.ps)) (λD hD=>⟨hD,ι.upd hD,Δ,[],rfl,rfl,λk E e z=>by simp at z⟩) (λD i ys H3 _ h=>⟨h.2.2.1,by obtain⟨_,_,_,Ds,rfl,h,_⟩:=h;simp[h],.inl (.inl (h.2.1 _ _ e2))⟩) ?_ ?_
  ·rintro D i ys H3 x hD hx ⟨_,s3,e3,Ds,rfl,hl,hs⟩ Qe qe
   unfold tx at hx;rw[Ξ,Ξ] at hx
   cases he:es[i]? with
   | none=>rw[he] at hx;cases hx
   | some e=>
    rw[he] at hx;cases hx
    walk1;show⟨e,rfl,L.ok e (Β he),λE H4 hE s4 eE=>qe _ _ (s4 _ _ e3) ⟨hD,ι.wr (s3.trans s4) hD,Δ,Ds++[E],∅,by simp[hl],λk E' e' h1 h2=>?_⟩⟩
    let up:∀{b o},H4 b=!o->b≠D->upd H4 D (.lst (Ds.map V.ref++[.ref E])) b=!o:=λh n=>(ν n).trans h
    rcases Jb k Ds.4 with g | g
    ·rw[ϟ g] at h1
     let h5:=hs k E' e' h1 h2;show up (s4 _ _ h5) (λz=>by rw[z,e3] at h5;cases h5)
    ·rw[Ϙ g] at h1
     have:=(Α.mp h1).1;let k0:k=i:=by simp at this;lk
     subst k0;rw[he] at h2;cases h2;rw[hl,qA] at h1;cases h1
     show up eE (λz=>by rw[z,e3] at hE;cases hE)
  ·rintro D ys H3 hD ⟨_,s3,e3,Ds,rfl,hl,hs⟩
   let l2:Ds.4=es.4:=by rw[hl];simp[tx]
   show q D Ds H3 (ϸ s2 hD) (s2.trans s3) ⟨e3,l2,hs⟩
def LQ:T.Ep.O P w mg base 2 KP:=by
 walk_at "h ok Ep K2 R D R Dp B st";obtain⟨e,n0,kk0,dd,i,pl,aej,wo0,hD,hp,q1,q2⟩:=h
 show⟨_,(Λ (Ϻ 3 K2 (ϓ K hr ϵ ο))
   (Λ (aE (Ϯ (qJ (tG hr)) fU (bi (ϕ ο (ϕ ο (ϕ ο (ϕ ο (bC ο ο)))))) (by rfl)) (Τ (ϔ (qG (bc (ϥ T.FZ (IU T) hr ϋ (ϕ ϵ (bC (ϓ K hr aw ο) (ϓ K hr aw ο)))) (by intro _;rfl)) (ϥ T.qg (xD T) hr ϋ (aC ϵ)) uh))) ϭ)
   (Λ (aE (PW.pt (pw_and (Ϯ (qJ (tG hr)) fU (bi (bC ο ο)) (by rfl)) (pw_and1 (Ϯ (cq (hU hr)) (ϓ K hr ϵ ο) (ϓ K hr aw ο) (aq _))))) (Τ (ϔ (qG (Ϯ (cq (hU hr)) fU ο (aq _)) (bi (aC ο)) (bi (aC ο))))) ϭ)
   (Λ (aE (PW.pt (pw_and (Ϯ (cq (hU hr)) fU ο (aq _)) (pw_and (bc cO (by intro _;rfl)) (pw_and (Ϯ (cq (hU hr)) (ϓ K hr ϵ ο) (ϓ K hr aw ο) (aq _)) (pw_and1 (Ϯ Aq (ϓ K hr ϵ ο) (ϓ K hr aw ο) (aq _))))))) (Τ (ϔ (bi (aC ο)))) ϭ)
   (Τ (ϔ uh)))))),?_⟩
 walk1;show ϙ (dg hD (HM _ _)) ⟨"!",λp1 zJ=>At (.inr (.inl (.inl Δ))) rfl rfl ⟨_,rfl,?_⟩⟩
 let s1:=ι.upd (o:=HO.tup [V.str "put",V.str "lend",V.str "back",V.str "answer",V.str "aside",V.str "away"]) zJ
 let D1:=s1 _ _ hD;let P1:=s1 _ _ hp
 generalize upd H p1 (HO.tup [V.str "put",V.str "lend",V.str "back",V.str "answer",V.str "aside",V.str "away"])=H1 at s1 D1 P1 ⊢
 by_cases cp:∃n kk d r p key wo,e=.put n kk d r p key wo
 ·obtain⟨n,kk,d,r,p,key,wo,rfl⟩:=cp
  rw[ε (show _=true by show JP (V.str (Κ "put")) _=true;decide +kernel)]
  show ϙ (dg P1 rfl) (ϙ (dg P1 rfl) ⟨_,_,_,D1,rfl,rfl,?_⟩);walk1;show E3 (λh=>⟨n,kk,d,r,p,key,wo,D1,λT hT=>q2 _ (ε h) T _ (s1.trans (ι.upd hT)) (ϸ s1 hT) Δ⟩) (λh=>q1 (Ψ h) _ s1)
 let n1:¬JP (V.str e.nm) [V.str "put",V.str "lend",V.str "back",V.str "answer",V.str "aside",V.str "away"]=true:=by
  cases e with
  | put n kk d r p key wo=>show absurd ⟨_,_,_,_,_,_,_,rfl⟩ cp
  | _=>show ¬JP (V.str (Κ _)) _=true;decide +kernel
 rw[Ψ n1];show⟨"!",λp2 xQ=>At (.inr (.inl (.inl Δ))) rfl rfl ⟨_,rfl,?_⟩⟩
 let s2:=s1.trans (ι.upd (o:=HO.tup [V.str "close",V.str "drop"]) xQ)
 let D2:=ι.upd (o:=HO.tup [V.str "close",V.str "drop"]) xQ _ _ D1;let P2:=ι.upd (o:=HO.tup [V.str "close",V.str "drop"]) xQ _ _ P1
 generalize upd H1 p2 (HO.tup [V.str "close",V.str "drop"])=H2 at s2 D2 P2 ⊢
 let cut:¬decide (e.nm=Κ "cut")=true:=by cases e<;>(change ¬decide (Κ _=Κ "cut")=true;decide +kernel)
 by_cases cd:∃d,e=.close d\/e=.drop d
 ·obtain⟨d,cd⟩:=cd
  let i1:JP (V.str e.nm) [V.str "close",V.str "drop"]=true:=by rcases cd with rfl | rfl<;>(change JP (V.str (Κ _)) _=true;decide +kernel)
  let dv:a8 (nT e.nm e.ps) (.inr "deed")=!(.int (d:Int)):=by rcases cd with rfl | rfl<;>rfl
  rw[ε i1];show ϙ (dg D2 dv) (ϙ (dg P2 rfl) ?_);rw[rV];show⟨_,rfl,?_⟩
  by_cases c:(d:Int)=dd
  ·rw[ε (ϱ c),vd];show⟨_,rfl,?_⟩;rcases cd with rfl | rfl
   ·rw[ε (show decide ((gJ.close d).nm=Κ "close")=true from ϱ rfl)];show⟨"!",λT hT=>q2 _ (ε c) T _ (s2.trans (ι.upd hT)) (ϸ s2 hT) Δ⟩
   ·rw[Ψ (show ¬decide ((gJ.drop d).nm=Κ "close")=true by show ¬decide (Κ "drop"=Κ "close")=true;decide +kernel)];show⟨"!",λT hT=>q2 _ (ε c) T _ (s2.trans (ι.upd hT)) (ϸ s2 hT) Δ⟩
  ·rw[Ψ (by simpa using c),vd];show⟨_,rfl,?_⟩;rw[Ψ cut];show q1 (by rcases cd with rfl | rfl<;>show Ψ c) _ s2
 ·let i2:¬JP (V.str e.nm) [V.str "close",V.str "drop"]=true:=by
   cases e with
   | close d=>show absurd ⟨d,.inl rfl⟩ cd
   | drop d=>show absurd ⟨d,.inr rfl⟩ cd
   | _=>show ¬JP (V.str (Κ _)) _=true;decide +kernel
  rw[Ψ i2,vd];show⟨_,rfl,?_⟩;rw[Ψ cut];show q1 ?_ _ s2
  cases e with
  | put n kk d r p key wo=>show absurd ⟨_,_,_,_,_,_,_,rfl⟩ cp
  | close d=>show absurd ⟨d,.inl rfl⟩ cd
  | drop d=>show absurd ⟨d,.inr rfl⟩ cd
  | _=>rfl
def Nb:T.LC.O P w mg base 8 WA:=by
 walk_at "h ok LC pi R p I i I pl";obtain⟨ss,es,hp,L,q⟩:=h
 show⟨_,(Λ (Ϻ 3 pi (ϥ T.yk (Gf T) hr ϋ (aC ϵ)))
   (Λ (Ϻ 4 pi (ϥ T.IB (QC T) hr ϋ (ϕ fU (bC aw cO))))
   (Λ (aE (zZ (Jx (pv 4))) (Τ (ϔ (ap eR))) ϭ)
   (Λ (Ϻ 5 pi (ap eR))
   (Λ (Ϻ 6 pi qF)
   (Λ (cQ ϡ rfl (aW fU) (am (i:=7) pi.nd rfl (aP rfl)) (Λ (Ϻ 8 pi (ϥ T.Ep (LQ T) hr ϋ (ϕ (pv 7) (bC (pv 4) (pv 6)))))
   (Τ (aE (zZ (EO (pv 8))) (Λ (ϣ (bx PySem.F.plainAttrs_list PySem.F.slot_list_append PySem.F.type_list_append bE (pv 5) (aC (pv 8))))
   (Τ (Ϻ 6 pi (jL (pv 6) (mS (mv (wH (tG hr)) (ϓ K hr (pv 8) π) (bi (ϕ ο (bC ο ο))) (by rfl))))))) ϭ))))
   (Τ (ϔ (pv 5))))))))),?_⟩
 walk1;show ⟨ss,es,hp,L,λD Ds H1 hD s1 hE=>?_⟩;walk1;show⟨Ds,es,hE,λj e E he hP hb hEj=>?_,λno=>?_⟩
 ·cases e with
  | put n kk dd i0 p0 key wo=>
   obtain⟨rfl,rfl⟩:=of_decide_eq_true hP
   let et:x6 es i0 p0=es.filterMap (told i0 p0 (dd:Int)):=by
    unfold x6;rw[List.find?_eq_some_iff_getElem.mpr ⟨hP,j,(Α.mp he).1,(Α.mp he).2,λk hk=>by
     have:=hb k _ hk (Ε (gL hk (Α.mp he).1));simpa using this⟩]
   rw[et] at q
   walk1;show ⟨"!",λC hC=>?_⟩
   let hl:=hE.26
   let lst:=hE.33
   let EE:=hE.at' j E _ hEj he
   show di (.inl (.inl (ι.upd hC _ _ lst))) (cy (λk σ H'=>ι H1 H'/\(∃ts,H' C=!.lst (ts.map V.ref)/\eV H' ts ((es.take k).filterMap (told i0 p0 (dd:Int))))/\∃b v7 v8,σ=[!.ref p,!.int i0,!.int p0,!.ref D,!.ref E,!.ref C,!.bl b,v7,v8]) ⟨ι.upd hC,⟨[],Δ,.nil⟩,true,none,none,rfl⟩ (λk σ H' _ h=>.inl (.inl (h.1 _ _ lst))) ?_ ?_)
   ·rintro k x σ H' hx ⟨s',⟨ts,eC,tC⟩,b,v7,v8,rfl⟩
    rw[Ξ] at hx;obtain⟨Ek,hk,rfl⟩:=χ.mp hx
    let ik:=(Α.mp hk).1
    let hek:es[k]?=!es[k]'():=Ε ();generalize es[k]'()=ek at hek
    let ed:=s' _ _ (hE.at' k Ek ek hk hek)
    let tS:∀{H2},ι H' H2->eV H2 ts ((es.take k).filterMap (told i0 p0 (dd:Int))):=λs=>tC.bO (A:=[]) (ϰ.of_same s)
    let fS:(es.take (k+1)).filterMap (told i0 p0 (dd:Int))=(es.take k).filterMap (told i0 p0 (dd:Int))++[ek].filterMap (told i0 p0 (dd:Int)):=by rw[cz hek,jm]
    walk1;show⟨ek,n,kk,dd,i0,p0,key,wo,ed,s' _ _ EE,λh0 H2 s2=>?_,λt ht T0 H2 s2 hT eT=>?_⟩
    ·walk1;show⟨s'.trans s2,ts,s2 _ _ eC,by rw[fS,nF h0,List.filterMap_nil,cV];show tS s2⟩
    walk1
    let lts:ts.4<=5000:=by
     have:=tC.length;have:=List.length_filterMap_le (told i0 p0 (dd:Int)) (es.take k);rw[af] at this;have:=L.26;lk
    show⟨.inl ⟨_,.inl (.inl (s2 _ _ eC))⟩,_,s2 _ _ eC,υ (show(ts.map V.ref).4<=5000 by simpa using lts) "!",?_⟩
    let s3:ι H1 (upd H2 C (.lst (ts.map V.ref++[V.ref T0]))):=(s'.trans s2).wr hC
    let p3:bb (upd H2 C (.lst (ts.map V.ref++[V.ref T0]))) C ((es.take (k+1)).filterMap (told i0 p0 (dd:Int))):=by rw[fS,nH ht];show bb.push (s2 _ _ eC) (tS s2) eT
    let T3:upd H2 C (.lst (ts.map V.ref++[V.ref T0])) T0=!.tup t:=(ν (λz=>by rw[z,s2 _ _ eC] at eT;cases eT)).trans eT
    generalize upd H2 C (.lst (ts.map V.ref++[V.ref T0]))=H3 at s3 p3 T3 ⊢
    obtain⟨x,r,rfl⟩:=WB ht
    show E3 (λ_=>?_) (λ_=>⟨s3,p3⟩)
    show dN (.inl (.inl T3)) (v:=.str x) (bf "!" rfl) ⟨"!",λp9 hp9=>.inl ⟨_,_,rfl,.inr (.inl (.inl Δ)),rfl,rfl,s3.trans (ι.upd hp9),p3.same (ι.upd hp9),_,rfl⟩⟩
   ·rintro σ H' ⟨s',⟨ts,eC,tC⟩,b,v7,v8,rfl⟩
    rw[Η,hl,ϴ] at tC
    walk1;show q C H' (ϸ s1 hC) (s1.trans s') ⟨ts,eC,tC⟩
  | _=>cases hP
 ·walk1;show⟨"!",λp0 Gp=>q p0 _ (ϸ s1 Gp) (s1.trans (ι.upd Gp)) ?_⟩;unfold x6;rw[uX.mpr (λx hx=>by simpa using no x hx)];show⟨[],Δ,.nil⟩
def LR:T.Ev.O P w mg base 3 Pe:=by
 walk_at "h ok Ev Bp I c"
 show⟨_,(Λ (Jy (i:=1) Bp.nd rfl (uc rfl) (ϓ K hr (ap (ϕ ο (ϕ ο (bC ο ο)))) (av fm (ϥ T.bQ (bA T) hr ϋ (bC ϵ π)) π)))
   (Λ (Jy (i:=2) Bp.nd rfl (uc rfl) (av fm (ϥ T.bQ (bA T) hr ϋ (bC ϵ π)) (av (aD) (Ϲ (bF) (by rfl) T.fA cY (aC aw)) π)))
   (Τ (ϔ (fM ["_law_cell","_law_base","_law_at"] ["_law_cell","_law_base","_law_at"] (Υ uD) (s!"c") (aW ο) (λC₁ s₁ H₁ f₁=>(av (aD) (av (aD) (dR (fN) cO gy (fo fU)) ϵ) (dR (fN) cO (fo fU) gy)))))))),?_⟩
 walk1
 obtain⟨b,hb,mb⟩:∃b,[V.str (Κ "box"),V.str (Κ "a1"),V.str (Κ ""),V.str (Κ "zz9")][(ef c 1%4).9]?=!V.str (S b)/\b∈[[98,111,120],[97,49],[],[122,122,57]]:=by
  let h0:(ef c 1%4).9 < 4:=by lk
  generalize (ef c 1%4).9=j at h0
  match j,h0 with
  | 0,_=>show⟨[98,111,120],rfl,"!"⟩
  | 1,_=>show⟨[97,49],rfl,"!"⟩
  | 2,_=>show⟨[],rfl,"!"⟩
  | 3,_=>show⟨[122,122,57],rfl,"!"⟩
 let lb:b.4<=3:=(by decide:∀b∈[[98,111,120],[97,49],[],[122,122,57]],b.4<=3) b mb
 show⟨"!",λp hp=>dh (.inl (.inl Δ)) (bf () hb) ?_⟩;rw[ZM];show⟨b,rfl,ϊ lb "!",?_⟩;rw[qI];show⟨_,rfl,(),?_⟩
 obtain⟨j,hj⟩:∃j:Nat,ef c 2%((b.4:Int)+1)=(j:Int):=⟨(ef c 2%((b.4:Int)+1)).9,by have:=kx (ef c 2) (show (b.4:Int)+1≠0 by lk);lk⟩
 let lj:j<=b.4:=by have:=iz (ef c 2) (show 0 < (b.4:Int)+1 by lk);lk
 rw[hj,show Κ "abcdefgh"=S [97,98,99,100,101,102,103,104] by decide +kernel];let s1:=ι.upd (o:=.lst [V.str (Κ "box"),V.str (Κ "a1"),V.str (Κ ""),V.str (Κ "zz9")]) hp
 show rX "!" (λx=>V.str (S (b.take j++[x]++b.drop j))) (λx H' hx s Qe qe=>?_) (λD H' hD s eD=>?_)
 ·let Z:1000<=sizeLine:=by decide
  walk1;show .inr ⟨b,rfl,(),?_⟩;rw[show sw b none (!(j:Int))=b.take j from Wz b j];dsimp only;rw[vc];show⟨by rw[af,ϯ];lk,.inr ⟨b,rfl,(),?_⟩⟩;rw[show sw b (!(j:Int)) none=b.drop j from kl b j];dsimp only;rw[vc];show⟨by rw[Ρ,af,ϯ,gG];lk,qe H' (ι.refl _)⟩
 ·obtain⟨a0,a1,an⟩:=(by unfold dj Fm;decide +kernel:∀b∈[[98,111,120],[97,49],[],[122,122,57]],∀j∈[0,1,2,3],dj (b.take j++[97]++b.drop j)/\dj (b.take j++[98]++b.drop j)/\b.take j++[97]++b.drop j≠b.take j++[98]++b.drop j) b mb j (by simp;lk)
  show h _ _ _ D H' a0 a1 an (ϸ s1 hD) (s1.trans s) eD
def Gg:T.yn.O P w mg base 3 HN:=by
 walk_at "h ok yn FO I c R p";obtain⟨n0,n1,rest,hp,o0,o1,ne,q⟩:=h
 show⟨_,(Λ (Ϻ 2 FO (ap (bC (bi (ϕ (ϓ K hr aw π) (bC (av (aD) π (av fm (ϥ T.bQ (bA T) hr ϋ (bC ϵ π)) π)) ο))) (bi (ϕ (ϓ K hr aw π) (bC (av (aD) π (av fm (ϥ T.bQ (bA T) hr ϋ (bC ϵ π)) π)) ο))))))
   (Λ (aE (Ϯ (cq (hU hr)) (av fm (ϥ T.bQ (bA T) hr ϋ (bC ϵ π)) π) π (aq _)) (Τ (ϔ (ap (bC (ϓ K hr cO π) (ϓ K hr cO π))))) ϭ)
   (Τ (ϔ cO)))),?_⟩
 walk1
 let ok:∀a b:Int,∃i j:Nat,1+a%3=(i:Int)/\1+b%3=(j:Int)/\(1<=i/\i<=9)/\1<=j/\j<=9:=λa b=>⟨(1+a%3).9,(1+b%3).9,(),(),(),()⟩
 obtain⟨i,j,ei,ej,hi,hj⟩:=ok (ef c 3) (ef c 4)
 rw[ei,ej]
 let mk:∀{n:-Nat}{r:Nat}{z:Str},dj n->(1<=r/\r<=9)->(z=Κ "table"\/z=Κ "stream")->Mz ⟨n,r,z⟩:=λo h z=>⟨⟨o.1,o.2.1,jy.mpr o.2.2⟩,h,z⟩
 let k0:=mk o0 hi (.inl rfl);let k1:=mk o1 hj (.inr rfl)
 show dh (.inl (.inl hp)) (v:=.str (S n0)) (bf "!" rfl) ⟨"!",λt0 ht0=>?_⟩
 let s0:=ι.upd (o:=.tup [V.str (S n0),V.int (i:Int),V.str (Κ "table")]) ht0
 show dh (.inl (.inl (s0 _ _ hp))) (v:=.str (S n1)) (bf "!" rfl) ⟨"!",λt1 SQ=>⟨"!",λl0 Ra=>?_⟩⟩
 let s1:=ι.upd (o:=.tup [V.str (S n1),V.int (j:Int),V.str (Κ "stream")]) SQ;let s2:=ι.upd (o:=.lst [V.ref t0,V.ref t1]) Ra
 let e0:=(s1.trans s2) _ _ (show upd H t0 (.tup [V.str (S n0),V.int (i:Int),V.str (Κ "table")]) t0=!(.tup [V.str (S n0),V.int (i:Int),V.str (Κ "table")]) from Δ);let e1:=s2 _ _ (show upd (upd H t0 (.tup [V.str (S n0),V.int (i:Int),V.str (Κ "table")])) t1 (.tup [V.str (S n1),V.int (j:Int),V.str (Κ "stream")]) t1=!(.tup [V.str (S n1),V.int (j:Int),V.str (Κ "stream")]) from Δ)
 let el:upd (upd (upd H t0 (.tup [V.str (S n0),V.int (i:Int),V.str (Κ "table")])) t1 (.tup [V.str (S n1),V.int (j:Int),V.str (Κ "stream")])) l0 (.lst [V.ref t0,V.ref t1]) l0=!.lst [V.ref t0,V.ref t1]:=Δ
 let hl:=ϸ (s0.trans s1) Ra
 let sA:=s0.trans (s1.trans s2)
 generalize upd (upd (upd H t0 (.tup [V.str (S n0),V.int (i:Int),V.str (Κ "table")])) t1 (.tup [V.str (S n1),V.int (j:Int),V.str (Κ "stream")])) l0 (.lst [V.ref t0,V.ref t1])=H1 at e0 e1 el sA ⊢
 show E3 (λ_=>?_) (λ_=>?_)
 ·show dh (.inl (.inl el)) (v:=.ref t1) (bf "!" rfl) (dh (.inl (.inl el)) (v:=.ref t0) (bf "!" rfl) ⟨"!",λl2 CN=>?_⟩)
  let s3:=ι.upd (o:=.lst [V.ref t1,V.ref t0]) CN
  show q [⟨n1,j,"stream"⟩,⟨n0,i,"table"⟩] l2 _ ⟨fi (Ϝ _),by show 2<=6;decide,λx hx=>by rcases Ι.mp hx with rfl | hx;show k1;rw[Ζ.mp hx];show k0,by simp;show ό ne⟩ rfl (ϸ sA CN) (sA.trans s3) ⟨[t1,t0],Δ,.cons (s3 _ _ e1) (.cons (s3 _ _ e0) .nil)⟩
 ·show q [⟨n0,i,"table"⟩,⟨n1,j,"stream"⟩] l0 _ ⟨fi (Ϝ _),by show 2<=6;decide,λx hx=>by rcases Ι.mp hx with rfl | hx;show k0;rw[Ζ.mp hx];show k1,by simp;show ne⟩ rfl hl sA ⟨[t0,t1],el,.cons e0 (.cons e1 .nil)⟩
def LS:T.Ew.O P w mg base 2 Ti:=by
 walk_at "h ok Ew Br R F R D";obtain⟨rows,hF,hD,hl,Ym,q⟩:=h
 show⟨_,(Λ (aE (PW.pt (pw_or (iB (bc (Ϲ (bt) (by rfl) T.cF dy (bC ϵ (kg (v:=.ty "list") rfl T.iS ij rfl))) (by intro _;rfl))) (pw_or1 (Ϯ (kI (hU hr)) (Ϲ (bF) (by rfl) T.fA cY (aC ϵ)) (Ϲ (bF) (by rfl) T.fA cY (aC aw)) (aq _))))) (Τ (ϔ qF)) ϭ)
   (Λ (cQ ϡ rfl (wz rfl T.v0 (aC (Ϲ (bF) (by rfl) T.fA cY (aC aw)))) (am (i:=2) Br.nd rfl (aP rfl)) (Λ (aE (PW.pt (pw_or (iB (bc (Ϲ (bt) (by rfl) T.cF dy (bC (ϓ K hr ϵ cO) (kg (v:=.ty "tuple") rfl T.IG aoF rfl))) (by intro _;rfl))) (pw_or1 (Ϯ (kI (hU hr)) (ϓ K hr ϵ cO) (ϓ K hr aw cO) (aq _))))) (Τ (ϔ qF)) ϭ)
   (Τ (cQ ϡ rfl (aW (ϓ K hr ϵ cO)) (am (i:=3) Br.nd rfl (aP rfl)) (Τ (aE (bc (Ϲ (bt) (by rfl) T.cF dy (bC fU (kg (v:=.ty "bool") rfl T.M6 apZ rfl))) (by intro _;rfl)) (Τ (ϔ qF)) ϭ))))))
   (Τ (ϔ qF)))),?_⟩
 walk1;obtain⟨tf,eF,tF⟩:=hF;obtain⟨td,eD,tD⟩:=hD
 let lf:=tF.4;let ld:=tD.4
 let Z:4000<=sizeLine:=by decide
 rw[u9 eF];show⟨_,rfl,?_⟩;rw[Ψ "!"];show iD (.inl (.inl eF)) (iD (.inl (.inl eD)) ?_);rw[Η,Η,lf,ld,V1];show⟨_,rfl,?_⟩;rw[Ψ ∅];show iD (.inl (.inl eD)) ⟨_,rfl,(),by rw[Η];lk,?_⟩
 show Ar (λi σ H'=>H'=H/\∃v2 v3,σ=[!.ref F,!.ref D,v2,v3]) ⟨rfl,none,none,rfl⟩ ?_ ?_
 ·rintro i σ H' hi ⟨rfl,v2,v3,rfl⟩
  let hi:i < rows.4:=by simp at hi;lk
  let gf:tf[i]?=!tf[i]'():=Ε ();let gd:td[i]?=!td[i]'():=Ε ()
  generalize tf[i]'()=a1 at gf;generalize td[i]'()=a2 at gd
  obtain⟨xs,hx,e1⟩:=tF.get gf;obtain⟨ys,hy,e2⟩:=tD.get gd;rw[hx] at hy;cases hy
  obtain⟨pl,lx⟩:=Ym xs (Β hx)
  let i1:NF (tf.map V.ref) (i:Int)=!.ref a1:=u5 (by rw[Ξ,gf];rfl)
  let i2:NF (td.map V.ref) (i:Int)=!.ref a2:=u5 (by rw[Ξ,gd];rfl)
  rw[abn];walk1;show dh (.inl (.inl eF)) i1 ?_;rw[tH e1];show⟨true,rfl,?_⟩;rw[Ψ "!"];show dh (.inl (.inl eF)) i1 (dh (.inl (.inl eD)) i2 (aay e1 e2 pl ⟨_,rfl,?_⟩));rw[Ψ "!"];show dh (.inl (.inl eF)) i1 (Sk (.inl (.inl e1)) (Pd (λj σ H2=>H2=H'/\∃v3,σ=[!.ref F,!.ref D,!(.int (i:Int)),v3]) ⟨rfl,v3,rfl⟩ (λ_ _ _ _ h=>.inl (.inl (h.1▸e1))) ?_ ?_))
  ·rintro j x σ H2 hx ⟨rfl,v3,rfl⟩
   walk1;rcases pl x (Β hx) with ⟨z,rfl,_⟩ | ⟨z,rfl⟩
   ·rw[E8];show⟨false,rfl,?_⟩;rw[Ψ "!"]
   ·rw[E5];show⟨false,rfl,?_⟩;rw[Ψ "!"]
  ·rintro σ H2 ⟨rfl,v3,rfl⟩
   show⟨rfl,_,_,rfl⟩
 ·rintro σ H' ⟨rfl,v2,v3,rfl⟩
  walk1;show q H' (ι.refl _)
def LU:T.Ey.O P w mg base 4 Pf:=by
 walk_at "h ok Ey uE I c"
 show⟨_,(Λ (Ϻ 1 uE (ϥ T.Ev (LR T) hr ϋ (aC ϵ)))
   (Λ (Ϻ 2 uE (zB (eS (ϓ K hr aw π) π (eS (ϓ K hr aw π) π zA)) rfl rfl ∅ "!"))
   (Λ (Ϻ 3 uE (zB (eS ο aw (eS ο (ϥ T.yn (Gg T) hr ϋ (bC ϵ aw)) (eS ο π (eS ο Tf (eS ο (ap eR) (eS ο gb zA)))))) rfl rfl ∅ "!"))
   (Λ (ϣ (bx PySem.F.plainAttrs_dict PySem.F.slot_dict_update PySem.F.type_dict_update O6 fU (aC (zB (eS ο gb (eS ο (bP (AW) rfl T.M7 ap0 (aC cO)) (eS ο (bP (AW) rfl T.M7 ap0 (aC cO)) (eS ο gb zA)))) rfl rfl ∅ "!"))))
   (Τ (ϔ fU)))))),?_⟩
 show SH λRz hRz=>?_;walk1;intro n0 n1 rest nl H1 o0 o1 ne hnl s1 Yo p2 xQ
 let sA:=ι.upd (o:=.dK []) xQ
 show dh (.inl (.inl (sA _ _ Yo))) (v:=.str (S n0)) (bf "!" rfl) (dh (.inl (.inl (sA _ _ Yo))) (v:=.str (S n1)) (bf "!" rfl) ⟨Δ,[(.inr (S n0),.int 0),(.inr (S n1),.int 0)],rfl,by show 2<=15;decide,?_⟩)
 let em:jO [] [((.inr (S n0):Key),V.int 0),(.inr (S n1),V.int 0)]=[(.inr (S n0),.int 0),(.inr (S n1),.int 0)]:=by
  change putK (putK [] _ _) _ _=_;rw[show putK [] ((.inr (S n0):Key)) (V.int 0)=[(.inr (S n0),V.int 0)] from rfl,nV (by simp;show λz=>ne z.17)];rfl
 rw[em];let sB:ι H1 (upd (upd H1 p2 (.dK [])) p2 (.dK [((.inr (S n0):Key),V.int 0),(.inr (S n1),V.int 0)])):=sA.wr xQ
 let e2:upd (upd H1 p2 (.dK [])) p2 (.dK [((.inr (S n0):Key),V.int 0),(.inr (S n1),V.int 0)]) p2=!.dK [(.inr (S n0),.int 0),(.inr (S n1),.int 0)]:=Δ
 generalize upd (upd H1 p2 (.dK [])) p2 (.dK [((.inr (S n0):Key),V.int 0),(.inr (S n1),V.int 0)])=H2 at sB e2 ⊢
 let aeQ:=sB _ _ Yo
 let f2:=((Fr.nil (H:=H)).add (pI.refl H) hnl s1.gh ⟨_,Yo⟩).gh sB.gh
 let sC:=s1.trans sB
 rw[hRz];show Ay λRy hRy=>?_;walk1;intro kd hkd;let k1:=ι.upd (o:=.dK []) hkd;let f3:=f2.add sC.gh hkd k1.gh ⟨_,Δ⟩
 show⟨n0,n1,rest,k1 _ _ aeQ,o0,o1,ne,λxs sl H3 ox x2 hsl s3 eT=>?_⟩
 let f4:=f3.add (sC.trans k1).gh hsl s3.gh (by obtain⟨ts,e,_⟩:=eT;show⟨_,e⟩)
 let sD:=(sC.trans k1).trans s3;let ek:=s3 _ _ (show upd H2 kd (.dK []) kd=!.dK [] from Δ);let en4:=(k1.trans s3) _ _ aeQ;let e24:=(k1.trans s3) _ _ e2
 intro td htd;let k2:=ι.upd (o:=.dT []) htd;let f5:=f4.add sD.gh htd k2.gh ⟨_,Δ⟩;let W7:upd H3 td (.dT []) td=!.dT []:=Δ
 let W8:=eT.same k2;let U0:=k2 _ _ ek;let W9:=k2 _ _ en4;let e25:=k2 _ _ e24;let sE:=sD.trans k2
 generalize upd H3 td (.dT [])=H4 at k2 f5 W7 W8 U0 W9 e25 sE ⊢
 show⟨"!",λod hod=>?_⟩;let k3:=ι.upd (o:=.lst []) hod;let f6:=f5.add sE.gh hod k3.gh ⟨_,Δ⟩;let eod:upd H4 od (.lst []) od=!.lst []:=Δ
 let W7:=k3 _ _ W7;let W8:=W8.same k3;let U0:=k3 _ _ U0;let W9:=k3 _ _ W9;let e25:=k3 _ _ e25;let sE:=sE.trans k3
 generalize upd H4 od (.lst [])=H5 at k3 f6 W7 W8 U0 W9 e25 sE eod ⊢
 intro ed hed;let k4:=ι.upd (o:=.dK []) hed;let f7:=f6.add sE.gh hed k4.gh ⟨_,Δ⟩;let eed:upd H5 ed (.dK []) ed=!.dK []:=Δ
 let W7:=k4 _ _ W7;let W8:=W8.same k4;let U0:=k4 _ _ U0;let W9:=k4 _ _ W9;let e25:=k4 _ _ e25;let sE:=sE.trans k4;let eod:=k4 _ _ eod
 generalize upd H5 ed (.dK [])=H6 at k4 f7 W7 W8 U0 W9 e25 sE eod eed ⊢
 show⟨U0,[(.inr "names",.ref nl),(.inr "shelves",.ref sl),(.inr "turn",.int 0),(.inr "tales",.ref td),(.inr "order",.ref od),(.inr "ends",.ref ed)],rfl,by show 6<=15;decide,?_⟩
 let nd7:=f7.nd
 let nk:∀{a o},H6 a=!o->o≠HO.dK []->a≠kd:=λh n z=>n (by rw[z,U0] at h;show (ϲ h).17)
 let c7:ϰ [kd] H6 (upd H6 kd (.dK [(.inr "names",.ref nl),(.inr "shelves",.ref sl),(.inr "turn",.int 0),(.inr "tales",.ref td),(.inr "order",.ref od),(.inr "ends",.ref ed)])):=ϰ.upd ∅ (d9 U0)
 let kp:∀{a o},H6 a=!o->a≠kd->upd H6 kd (.dK [(.inr "names",.ref nl),(.inr "shelves",.ref sl),(.inr "turn",.int 0),(.inr "tales",.ref td),(.inr "order",.ref od),(.inr "ends",.ref ed)]) a=!o:=λh n=>(ν n).trans h
 let n7:=kp W9 (nk W9 (by intro z;cases z));let t7:=kp W7 (nk W7 (by intro z;cases z));let o7:=kp eod (nk eod (by intro z;cases z));let d7:=kp e25 (nk e25 (by intro z;cases z));let x7:=kp eed (λz=>by subst z;simp at nd7)
 let T7:=bb.bO W8 c7 (λz=>by obtain⟨ts,e,_⟩:=W8;show nk e (by intro z;cases z) (Ζ.mp z))
 let hk:=f7.no kd ∅
 let s7:=sE.wr (o:=.dK [(.inr "names",.ref nl),(.inr "shelves",.ref sl),(.inr "turn",.int 0),(.inr "tales",.ref td),(.inr "order",.ref od),(.inr "ends",.ref ed)]) hk
 let f8:=f7.gh (pI.wr (b:=kd) (o:=.dK [(.inr "names",.ref nl),(.inr "shelves",.ref sl),(.inr "turn",.int 0),(.inr "tales",.ref td),(.inr "order",.ref od),(.inr "ends",.ref ed)]))
 let k7:upd H6 kd (.dK [(.inr "names",.ref nl),(.inr "shelves",.ref sl),(.inr "turn",.int 0),(.inr "tales",.ref td),(.inr "order",.ref od),(.inr "ends",.ref ed)]) kd=!.dK [(.inr "names",.ref nl),(.inr "shelves",.ref sl),(.inr "turn",.int 0),(.inr "tales",.ref td),(.inr "order",.ref od),(.inr "ends",.ref ed)]:=Δ
 rw[show jO [] [((.inr "names":Key),V.ref nl),(.inr "shelves",.ref sl),(.inr "turn",.int 0),(.inr "tales",.ref td),(.inr "order",.ref od),(.inr "ends",.ref ed)]=[(.inr "names",.ref nl),(.inr "shelves",.ref sl),(.inr "turn",.int 0),(.inr "tales",.ref td),(.inr "order",.ref od),(.inr "ends",.ref ed)] from rfl]
 generalize upd H6 kd (.dK [(.inr "names",.ref nl),(.inr "shelves",.ref sl),(.inr "turn",.int 0),(.inr "tales",.ref td),(.inr "order",.ref od),(.inr "ends",.ref ed)])=H7 at c7 kp n7 t7 o7 d7 x7 T7 s7 f8 k7 ⊢
 rw[hRy];walk1;show⟨.inr (.inr (.inl (.inl ⟨_,k7⟩))),λq hq ld hld=>?_⟩
 let a1:=ι.upd (o:=.dK []) hq;let f9:=f8.add s7.gh hq a1.gh ⟨_,Δ⟩;let eq1:upd H7 q (.dK []) q=!.dK []:=Δ
 generalize upd H7 q (.dK [])=H8 at a1 f9 eq1 hld ⊢
 let a2:=ι.upd (o:=.dK []) hld;let f10:=f9.add (s7.trans a1).gh hld a2.gh ⟨_,Δ⟩;let el:upd H8 ld (.dK []) ld=!.dK []:=Δ;let a12:=a1.trans a2;let eq2:=a2 _ _ eq1
 generalize upd H8 ld (.dK [])=H9 at a2 f10 el a12 eq2 ⊢
 show⟨p2,_,rfl,a12 _ _ d7,λla hla=>?_⟩
 let a3:=ι.upd (o:=.dK [(.inr (S n0),.int 0),(.inr (S n1),.int 0)]) hla;let f11:=f10.add (s7.trans a12).gh hla a3.gh ⟨_,Δ⟩;let ea:upd H9 la (.dK [(.inr (S n0),.int 0),(.inr (S n1),.int 0)]) la=!.dK [(.inr (S n0),.int 0),(.inr (S n1),.int 0)]:=Δ;let a13:=a12.trans a3;let eq3:=a3 _ _ eq2;let el:=a3 _ _ el
 generalize upd H9 la (.dK [(.inr (S n0),.int 0),(.inr (S n1),.int 0)])=UL at a3 f11 ea a13 eq3 el ⊢
 show⟨p2,_,rfl,a13 _ _ d7,λdd Yl=>?_⟩
 let a4:=ι.upd (o:=.dK [(.inr (S n0),.int 0),(.inr (S n1),.int 0)]) Yl;let f12:=f11.add (s7.trans a13).gh Yl a4.gh ⟨_,Δ⟩;let eb:upd UL dd (.dK [(.inr (S n0),.int 0),(.inr (S n1),.int 0)]) dd=!.dK [(.inr (S n0),.int 0),(.inr (S n1),.int 0)]:=Δ;let a14:=a13.trans a4;let eq4:=a4 _ _ eq3;let el:=a4 _ _ el;let ea:=a4 _ _ ea
 generalize upd UL dd (.dK [(.inr (S n0),.int 0),(.inr (S n1),.int 0)])=VH at a4 f12 eb a14 eq4 el ea ⊢
 intro sd hsd
 let a5:=ι.upd (o:=.dK []) hsd;let f13:=f12.add (s7.trans a14).gh hsd a5.gh ⟨_,Δ⟩;let es:upd VH sd (.dK []) sd=!.dK []:=Δ;let Xa:=a14.trans a5;let eq5:=a5 _ _ eq4;let el:=a5 _ _ el;let ea:=a5 _ _ ea;let eb:=a5 _ _ eb
 generalize upd VH sd (.dK [])=H12 at a5 f13 es Xa eq5 el ea eb ⊢
 let aeR:=f13.nd;simp only[Ϛ,Ι,yr,Μ,ϖ,not_false_eq_true,and_true,gw] at aeR
 obtain⟨⟨m1,m2,m3,m4,m5,m6,m7,m8,m9,m10⟩,⟨m11,m12,m13,LV,m15,m16,m17,m18,m19⟩,⟨m21,m22,m23,m24,m25,m26,m27,m28⟩,⟨m31,m32,m33,m34,m35,m36,m37⟩,⟨m41,m42,m43,m44,m45,m46⟩,_,_,_,_,_⟩:=aeR
 show⟨eq5,[(.inr "lives",.ref ld),(.inr "last",.ref la),(.inr "deeds",.ref dd),(.inr "spots",.ref sd)],rfl,by show 4<=15;decide,?_⟩
 rw[show jO [] [((.inr "lives":Key),V.ref ld),(.inr "last",.ref la),(.inr "deeds",.ref dd),(.inr "spots",.ref sd)]=[(.inr "lives",.ref ld),(.inr "last",.ref la),(.inr "deeds",.ref dd),(.inr "spots",.ref sd)] from rfl]
 let nq:∀{a o},H7 a=!o->a≠q:=λh z=>by rw[z,hq] at h;cases h
 show⟨kd,q,_,_,rfl,rfl,nq k7,(ν (nq k7)).trans (Xa _ _ k7),Δ,by show 10<=sizeLine;decide,?_⟩
 let fin:∀{a o},H12 a=!o->a≠q->a≠kd->upd (upd H12 q (.dK [(.inr "lives",.ref ld),(.inr "last",.ref la),(.inr "deeds",.ref dd),(.inr "spots",.ref sd)])) kd (.dK (jO [((.inr "names":Key),V.ref nl),(.inr "shelves",.ref sl),(.inr "turn",.int 0),(.inr "tales",.ref td),(.inr "order",.ref od),(.inr "ends",.ref ed)] [((.inr "lives":Key),V.ref ld),(.inr "last",.ref la),(.inr "deeds",.ref dd),(.inr "spots",.ref sd)])) a=!o:=λh x y=>(ν y).trans ((ν x).trans h)
 let f14:=(f13.gh ((pI.wr (b:=q) (o:=.dK [(.inr "lives",.ref ld),(.inr "last",.ref la),(.inr "deeds",.ref dd),(.inr "spots",.ref sd)])).trans (pI.wr (b:=kd) (o:=.dK (jO [((.inr "names":Key),V.ref nl),(.inr "shelves",.ref sl),(.inr "turn",.int 0),(.inr "tales",.ref td),(.inr "order",.ref od),(.inr "ends",.ref ed)] [((.inr "lives":Key),V.ref ld),(.inr "last",.ref la),(.inr "deeds",.ref dd),(.inr "spots",.ref sd)]))))).perm (L':=q::KB.all ⟨kd,nl,sl,td,od,ed,ld,la,dd,sd⟩) (kr.mpr λz=>by simp only[KB.all,im,iY];lk)
 show h ⟨kd,nl,sl,td,od,ed,ld,la,dd,sd⟩ ⟨n0,n1,rest,xs⟩ _ (((s7.trans Xa).wr (ϸ s7 hq)).wr hk) ⟨(Ϛ.mp f14.nd).2,λb hb=>f14.no b (ψ _ hb),λb hb=>f14.yes b (ψ _ hb)⟩ ⟨o0,o1,ne,ox,x2⟩ λc hc=>?_
 let hc:c∈[(kd,Cl.o (.dK (sI ⟨kd,nl,sl,td,od,ed,ld,la,dd,sd⟩ 0))),(nl,.o (.lst (.str (S n0)::.str (S n1)::rest))),(sl,.t (xs.map l6.v)),(td,.o (.dT [])),(od,.t []),(ed,.o (.dK [])),(ld,.o (.dK [])),(la,.o (.dK [(.inr (S n0),.int 0),(.inr (S n1),.int 0)])),(dd,.o (.dK [(.inr (S n0),.int 0),(.inr (S n1),.int 0)])),(sd,.o (.dK []))]:=hc
 simp only[Ι,Μ,ϖ] at hc
 rcases hc with rfl | rfl | rfl | rfl | rfl | rfl | rfl | rfl | rfl | rfl
 ·show Δ
 ·show fin (Xa _ _ n7) (nq n7) (by intro z;subst z;simp at nd7)
 ·show bb.bO (bb.bO (T7.same Xa) (ϰ.upd (A:=[q]) ∅ (d9 eq5)) ?_) (ϰ.upd (A:=[kd]) ∅ (d9 ((ν (nq k7)).trans (Xa _ _ k7)))) ?_
  ·simp;show λz=>by obtain⟨ts,e,_⟩:=T7;show nq e z
  ·simp;intro z;subst z;simp at nd7
 ·show fin (Xa _ _ t7) (nq t7) (by intro z;subst z;simp at nd7)
 ·show⟨[],fin (Xa _ _ o7) (nq o7) (by intro z;subst z;simp at nd7),.nil⟩
 ·show fin (Xa _ _ x7) (nq x7) (by intro z;subst z;simp at nd7)
 ·show fin el m31 m36
 ·show fin ea m22 m27
 ·show fin eb m13 m18
 ·show fin es m4 m9
def pC:T.oy.O P w mg base 1 Pg:=by
 walk_at "h ok oy Bt R kd I dn R et";obtain⟨k,CD,A,d,Z,X,r,N,m,ts,ss,z,rfl,o,hN,hm,hw,het,q⟩:=h
 show⟨_,(Λ (aE (Ϯ (qJ (tG hr)) aw (ϓ K hr ϵ ο) (by rfl)) (Λ (ϣ (GT (ϓ K hr ϵ ο) aw ⟨rfl,rfl,rfl,rfl⟩))
   (Τ (cQ ϡ rfl (aW (ϓ K hr (ϓ K hr ϵ ο) aw)) (am (i:=3) Bt.nd rfl (aP rfl)) (Τ (ϣ (bx PySem.F.plainAttrs_list PySem.F.slot_list_append PySem.F.type_list_append bE (ϓ K hr (ϓ K hr ϵ ο) fU) (aC cO))))))) ϭ)
   (Τ (cQ ϡ rfl (aW (dR (fN) (ϓ K hr ϵ ο) gy (fo π))) (am (i:=4) Bt.nd rfl (aP rfl)) (Τ (aE (Ϯ (cq (hU hr)) (ϓ K hr (ϓ K hr ϵ ο) (pv 4)) aw (aq _)) (Τ (fZ π (fY (ϓ K hr ϵ ο) (pv 4) (dS (tG hr))))) ϭ))))),?_⟩
 let Z9:1000<=sizeLine:=by decide
 let ndd:r.dd∈(bD r N m ts ss).map ϝ:=μ.mpr ⟨_,Β (i:=8) rfl,rfl⟩
 let gk:∀{H' m1}{x:String}{v:V},l8 k CD H' A d Z X (bD r N m1 ts ss)->a8 (sI r m1.t) (.inr (Κ x))=!v->bH H' r.kd (.str (Κ x)) (!v):=λ{H' m1 x v} o1 e=>e▸bH.k (k:=.inr (Κ x)) (o1.get (i:=0) rfl)
 show Ay λRz hRz=>?_
 let fin:∀H1 v3 m1,m1.b0=m.b0->m1.b1=m.b1->{m1 with b0:=if m.b0=dn then 0 else m.b0,b1:=if m.b1=dn then 0 else m.b1}=iw m dn z->l8 k CD H1 A d Z X (bD r N m1 ts ss)->ϰ ((bD r N m ts ss).map ϝ) H H1->
   Rz {nx:=λ_ H'=>Q .bM H',rt:=Q} [!.ref r.kd,!.int dn,!.ref et,v3,none] H1:=by
  intro H1 v3 m1 e0 e1 em o1 c1
  rw[hRz];walk1
  let wr:∀{H' m2}(x y:Int),l8 k CD H' A d Z X (bD r N m2 ts ss)->l8 k CD (upd H' r.dd (.dK (D2 N x y))) A d Z X (bD r N {m2 with b0:=x,b1:=y} ts ss)/\ϰ [r.dd] H' (upd H' r.dd (.dK (D2 N x y))):=λx y o2=>have c:=ϰ.upd (A:=[r.dd]) ∅ (d9 (o2.get (i:=8) rfl));⟨o2.set (i:=8) (C':=.o (.dK (D2 N x y))) rfl c Δ,c⟩
  show ϙ (gk o1 (x:="names") rfl) (uk (.inl (.inl (o1.get (i:=1) rfl))) λp hp=>?_)
  let ec:oP (.str (S N.n0)::.str (S N.n1)::N.36) none (some 2)=[.str (S N.n0),.str (S N.n1)]:=by unfold oP;rw[show HT.oO (V.str (S N.n0)::.str (S N.n1)::N.36).length (V.str (S N.n0)::.str (S N.n1)::N.36).length (some 2)=2 from (HT.rR _ _ 2).trans (fL (Vb 2 N.rest.4))];rfl
  rw[ec]
  let s1:=ι.upd (o:=.lst [V.str (S N.n0),.str (S N.n1)]) hp
  let ep:upd H1 p (.lst [V.str (S N.n0),.str (S N.n1)]) p=!.lst [V.str (S N.n0),.str (S N.n1)]:=Δ
  let o2:=o1.same s1
  let c2:=c1.trans (ϰ.of_same s1)
  let np:p≠r.dd:=λz=>by let h8:H1 r.dd=!.dK (D2 N m1.b0 m1.b1):=o1.get (i:=8) rfl;rw[←z,hp] at h8;cases h8
  generalize upd H1 p (.lst [V.str (S N.n0),.str (S N.n1)])=H2 at s1 ep o2 c2 ⊢
  show di (.inl (.inl ep)) (cy (λi σ H'=>H' p=!.lst [V.str (S N.n0),.str (S N.n1)]/\l8 k CD H' A d Z X (bD r N {m1 with b0:=[m.b0].getD i (if m.b0=dn then 0 else m.b0),b1:=[m.b1,m.b1].getD i (if m.b1=dn then 0 else m.b1)} ts ss)/\ϰ ((bD r N m ts ss).map ϝ) H H'/\∃v4,σ=[!.ref r.kd,!.int dn,!.ref et,v3,v4]) ⟨ep,?_,c2,none,rfl⟩ (λi σ H' _ h=>.inl (.inl h.1)) ?_ ?_)
  ·rw[←e0,←e1];show o2
  ·rintro i x σ H' hx ⟨ep,o3,c3,v4,rfl⟩
   let fn:∀x' y' {m2},l8 k CD H' A d Z X (bD r N m2 ts ss)->upd H' r.dd (.dK (D2 N x' y')) p=!.lst [V.str (S N.n0),V.str (S N.n1)]/\l8 k CD (upd H' r.dd (.dK (D2 N x' y'))) A d Z X (bD r N {m2 with b0:=x',b1:=y'} ts ss)/\ϰ ((bD r N m ts ss).map ϝ) H (upd H' r.dd (.dK (D2 N x' y'))):=λx' y' _ o4=>⟨(ν np).trans ep,(wr x' y' o4).1,c3.trans ((wr x' y' o4).2.mono (λb hb=>Ζ.mp hb▸ndd))⟩
   match i,hx with
   | 0,hx=>
    cases hx
    walk1
    show ϙ (gk o3 (x:="deeds") rfl) (ϙ (D2.g0▸bH.k (k:=.inr (S N.n0)) (o3.get (i:=8) rfl)) ?_)
    change l8 k CD H' A d Z X (bD r N {m1 with b0:=m.b0,b1:=m.b1} ts ss) at o3
    change J0 K (.int m.b0) (.int dn) H' _
    rw[rV]
    show⟨_,rfl,?_⟩
    by_cases e:m.b0=dn
    ·rw[ε (ϱ e)]
     show ϙ (gk o3 (x:="deeds") rfl) (dG (jN.k (k:=.inr (S N.n0)) (o3.get (i:=8) rfl) (by show 2 < sizeLine;lk)) ?_)
     rw[D2.p0 hN.ne]
     have:=fn 0 m.b1 o3
     change _/\l8 k CD _ A d Z X (bD r N {m1 with b0:=if m.b0=dn then 0 else m.b0,b1:=m.b1} ts ss)/\_
     rw[ε e];show this
    ·rw[Ψ (by simpa using e)]
     change _/\l8 k CD _ A d Z X (bD r N {m1 with b0:=if m.b0=dn then 0 else m.b0,b1:=m.b1} ts ss)/\_
     rw[Ψ e];show⟨ep,o3,c3⟩
   | 1,hx=>
    cases hx
    walk1
    show ϙ (gk o3 (x:="deeds") rfl) (ϙ (D2.g1 hN.ne▸bH.k (k:=.inr (S N.n1)) (o3.get (i:=8) rfl)) ?_)
    change l8 k CD H' A d Z X (bD r N {m1 with b0:=if m.b0=dn then 0 else m.b0,b1:=m.b1} ts ss) at o3
    change J0 K (.int m.b1) (.int dn) H' _
    rw[rV]
    show⟨_,rfl,?_⟩
    by_cases e:m.b1=dn
    ·rw[ε (ϱ e)]
     show ϙ (gk o3 (x:="deeds") rfl) (dG (jN.k (k:=.inr (S N.n1)) (o3.get (i:=8) rfl) (by show 2 < sizeLine;lk)) ?_)
     rw[D2.p1 hN.ne]
     have:=fn (if m.b0=dn then 0 else m.b0) 0 o3
     change _/\l8 k CD _ A d Z X (bD r N {m1 with b0:=if m.b0=dn then 0 else m.b0,b1:=if m.b1=dn then 0 else m.b1} ts ss)/\_
     rw[ε e];show this
    ·rw[Ψ (by simpa using e)]
     change _/\l8 k CD _ A d Z X (bD r N {m1 with b0:=if m.b0=dn then 0 else m.b0,b1:=if m.b1=dn then 0 else m.b1} ts ss)/\_
     rw[Ψ e];show⟨ep,o3,c3⟩
  ·rintro σ H' ⟨_,o3,c3,v4,rfl⟩
   show q H' ?_ c3
   rw[←em];show o3
 walk1
 show ϙ (gk o (x:="ends") rfl) (Sh (bH.k (k:=.inl dn) (o.get (i:=5) rfl)) ⟨_,rfl,?_⟩)
 by_cases hd:dn∈m.ed.map ϝ
 ·obtain⟨y,hy⟩:=aaD hd
  rw[hy,ε (show(!V.int y).11=true from rfl)]
  show ϙ (gk o (x:="ends") rfl) ⟨_,rfl,show IsD H r.ed from .inl ⟨_,.inl (o.get (i:=5) rfl)⟩,_,o.get (i:=5) rfl,.inl dn,rfl,⟨_,hy⟩,?_⟩
  rw[To]
  let cA:=ϰ.upd (A:=[r.ed]) (o:=.dK (uV (m.ed.filter λx=>decide (x.1≠dn)))) ∅ (d9 (o.get (i:=5) rfl))
  let o1:l8 k CD _ A d Z X (bD r N {m with ed:=m.ed.filter λx=>decide (x.1≠dn)} ts ss):=o.set (i:=5) (C':=.o (.dK (uV (m.ed.filter λx=>decide (x.1≠dn))))) rfl cA Δ
  let c1:=cA.mono (B:=(bD r N m ts ss).map ϝ) (λb hb=>Ζ.mp hb▸μ.mpr ⟨_,Β (i:=5) rfl,rfl⟩)
  let et1:upd H r.ed (.dK (uV (m.ed.filter λx=>decide (x.1≠dn)))) et=!.tup [.str z]:=c1.tup _ _ het
  generalize upd H r.ed (.dK (uV (m.ed.filter λx=>decide (x.1≠dn))))=H1 at c1 o1 et1 cA ⊢
  clear cA
  obtain⟨⟨_,yy⟩,hx,rfl⟩:=μ.mp hd
  obtain⟨j,ej,hj⟩:=hm.ed _ hx
  dsimp only at ej
  subst ej
  let hs:ss[j]?=!(ss[j]'(by have:=hm.ls;lk)):=Ε (by have:=hm.ls;lk)
  generalize ss[j]'(by have:=hm.ls;lk)=s at hs
  let hl:m.sp[j]?=!m.sp[j]'hj:=Ε hj
  generalize m.sp[j]'hj=l at hl
  obtain⟨nl,il⟩:=hm.sp j l hl
  show ϙ (gk o1 (x:="spots") rfl) (ϙ (MQ hs▸bH.k (k:=.inl ((j:Int)+1)) (o1.get (i:=9) rfl)) ?_)
  obtain⟨tr,es,tS⟩:=o1.get (KU (r:=r) (N:=N) (m:={m with ed:=m.ed.filter λx=>decide (x.1≠(j:Int)+1)}) hm.lt hl hs)
  let ltr:=tS.4;rw[Η] at ltr
  show di (.inl (.inl es)) (cy (λi σ H'=>H' s=!.lst (tr.map V.ref)/\eV H' tr (l.map mV)/\l8 k CD H' A d Z X (bD r N {m with ed:=m.ed.filter λx=>decide (x.1≠(j:Int)+1),W:=jP z (l.take i) m.W} ts ss)/\ϰ ((bD r N m ts ss).map ϝ) H H'/\H' et=!.tup [.str z]/\∃v3,σ=[!.ref r.kd,!(.int ((j:Int)+1)),!.ref et,v3,none]) ⟨es,tS,by rw[show jP z (l.take 0) m.W=m.W by unfold jP;simp];show o1,c1,et1,none,rfl⟩ (λi σ H' _ h=>.inl (.inl h.1)) ?_ ?_)
  ·rintro i x σ H' hx ⟨es,tS,o2,c2,et2,v3,rfl⟩
   rw[Ξ] at hx;obtain⟨tu,htu,rfl⟩:=χ.mp hx
   obtain⟨xs,hxs,etu⟩:=tS.get htu
   rw[Ξ] at hxs;obtain⟨sp,oN,rfl⟩:=χ.mp hxs
   obtain⟨w0,hw0,esp⟩:=μ.mp (il sp (Β oN))
   obtain⟨p,hp⟩:=ϛ hw0
   obtain⟨g1,g2⟩:=Tl (z:=z) hm.QY nl oN hp esp
   let ha:ts[p]?=!(ts[p]'(by have:=hm.lt;have:=(Α.mp hp).1;lk)):=Ε _
   generalize ts[p]'_=a at ha
   walk1
   let hW:=hw _ hw0
   let eM:∀{l1},(bD r N {m with ed:=m.ed.filter λx=>decide (x.1≠(j:Int)+1),W:=jP z l1 m.W} ts ss)[10+(m.W.4+j)]?=!(s,.t (l.map mV)):=λ{l1}=>by
    have:=KU (r:=r) (N:=N) (m:={m with ed:=m.ed.filter λx=>decide (x.1≠(j:Int)+1),W:=jP z l1 m.W}) (by rw[hm.lt];show mC.symm) hl hs
    rwa[show(jP z l1 m.W).4=m.W.4 from mC] at this
   let eA:=Tj (r:=r) (N:=N) (m:={m with ed:=m.ed.filter λx=>decide (x.1≠(j:Int)+1),W:=jP z (l.take i) m.W}) (ss:=ss) g1 ha
   obtain⟨VD,eL,tL⟩:=o2.get eA
   let ltl:=tL.4
   let ne:s≠a:=λy=>by
    subst y
    have:=r6 o2.nd (a:=s) (i:=10+p) (j:=10+(m.W.4+j)) (by rw[Ξ,eA];rfl) (by rw[Ξ,eM];rfl)
    have:=(Α.mp hp).1
    lk
   subst esp
   show ϙ (gk o2 (x:="tales") rfl) (ϙ ((MP hm hp ha)▸(aaE (z:=z) (l:=l.take i) (W:=m.W) (ts:=ts))▸bH.t (k:=w0.1.85) (o2.get (i:=3) rfl) etu) ?_)
   walk1
   show⟨.inl ⟨_,.inl (.inl eL)⟩,_,eL,by rw[Η,ltl];show υ (ϊ (Nat.le_add_right _ _) hW) "!",?_⟩
   let cB:ϰ [a] H' (upd H' a (.lst (VD.map V.ref++[V.ref et]))):=ϰ.upd ∅ (gY eL)
   let o3:=o2.set eA (C':=.t (w0.2++[[.str z]])) cB (bb.push eL tL et2)
   rw[aaA g1 ha] at o3
   show⟨(ν ne).trans es,tS.bO cB,?_,c2.trans (cB.mono (λb hb=>?_)),cB.tup _ _ et2⟩
   ·rw[g2];show o3
   ·rw[Ζ.mp hb,←vx (m':={m with ed:=m.ed.filter λx=>decide (x.1≠(j:Int)+1),W:=jP z (l.take i) m.W}) (m:=m) mC rfl]
    show μ.mpr ⟨_,Β eA,rfl⟩
  ·rintro σ H' ⟨es,tS,o2,c2,et2,v3,rfl⟩
   show fin H' v3 {m with ed:=m.ed.filter λx=>decide (x.1≠(j:Int)+1),W:=jP z l m.W} rfl rfl ?_ ?_ c2
   ·unfold iw;rw[ε hd,show ((j:Int)+1).9-1=j by lk,Ϩ,hl];rfl
   ·rw[Η,ltr,ϴ] at o2;show o2
 ·rw[WF hd,Ψ (show¬(none:Option V).11=true by decide)]
  show fin H none m rfl rfl ?_ o (ϰ.refl H)
  unfold iw;rw[AX hd,Ψ hd]
def LW:T.Ex.O P w mg base 9 (Ph (j9 a) a.Ϡ):=by
 walk_at "h ok Ex K' R c R kd T n K tu";obtain⟨A0,d,Z,X,r,N,m,ts,ss,bs,Es,s,rfl,rfl,h,hs,hn,hb,t1,t9,q⟩:=h
 show⟨_,(Λ (Ϻ 4 K' (zw ϵ T.ax T.Cb (zb T) (hr.mono "!") T.Cc .nil ϋ (ϕ cO (bC (ϓ K hr (ϓ K hr aw ο) cO) fU))))
   (Λ (fZ (pv 4) (fY (ϓ K hr aw ο) cO (dS (tG hr))))
   (Λ (fZ (av (aD) (ϓ K hr aw ο) fU) (fY (ϓ K hr aw ο) (pv 4) (dS (tG hr))))
   (Τ (fZ (ap eR) (fY (ϓ K hr aw ο) (pv 4) (dS (tG hr)))))))),?_⟩
 show Ay λRz hRz=>?_
 walk1
 let sd:=h.pu.sd hn h.80
 obtain⟨dx,hc⟩:=h.44
 let o:=h.ob.om
 let hB:X.m.M.B (S n)=none:=by
  have:=sd.fb
  cases e:X.m.M.B (S n) with
  | none=>rfl
  | some v=>
   rw[e,hb] at this
   obtain⟨i,_,h1,_⟩:=h.pu.inv.op.a _ _ e
   let this:v=0:=this
   lk
 obtain⟨life,el⟩:∃life:Nat,(if N.n0=n then m.l0 else m.l1)=(life:Int):=⟨(if N.n0=n then m.l0 else m.l1).9,by have:=sd.lb;lk⟩
 obtain⟨t,et,emt,lt4⟩:=h.pu.tt
 let on:=h.nk.on hn
 let lb:=sd.lb
 let fl:=sd.fl
 rw[el] at lb fl
 let ll:=h.li.len ()
 let Go:=h.95
 let hdz:=h.pu.dz
 show⟨dx,_,hc,rfl,ϙ (o.gk (x:="lives") rfl) (ϙ (D2.gg hn h.80▸bH.k (k:=.inr (S n)) (o.get (i:=6) rfl)) ?_)⟩
 rw[el]
 show⟨A0,d,Z,X,n,life,tu,t,rfl,⟨h.74,on,(),(),fl,()⟩,et,t1,(),(),(),(),hB,λH2 d' Z' c2 hd hz C2=>?_⟩
 let o2:=o.pH (X':=⟨X.t,{ X.M with ls:=qT X.25 [.begin (X.m.M.ds.4+1) n (t+tu)] },X.m.begin (S n) ((t+tu:Nat):Int)⟩) c2 hd hz C2
 rw[hRz];walk1
 show ϙ (o2.gk (x:="deeds") rfl) (dG (jN.k (k:=.inr (S n)) (o2.get (i:=8) rfl) (by show 2 < sizeLine;decide)) ?_)
 rw[D2.pp hn h.80]
 let c3:=ϰ.upd (A:=[r.dd]) (o:=.dK (D2 N (if N.n0=n then ((X.m.M.ds.4:Int)+1) else m.b0) (if N.n1=n then ((X.m.M.ds.4:Int)+1) else m.b1))) ∅ (d9 (o2.get (i:=8) rfl))
 let o3:Om _ _ _ _ _ _ _ _ _ _ (bD r N {m with b0:=if N.n0=n then ((X.m.M.ds.4:Int)+1) else m.b0,b1:=if N.n1=n then ((X.m.M.ds.4:Int)+1) else m.b1} ts ss):=o2.set (i:=8) (C':=.o (.dK (D2 N (if N.n0=n then ((X.m.M.ds.4:Int)+1) else m.b0) (if N.n1=n then ((X.m.M.ds.4:Int)+1) else m.b1)))) rfl c3 Δ
 clear c3;revert o3;generalize upd H2 r.dd _=H3;intro o3
 show ϙ (o3.gk (x:="turn") rfl) ?_
 change DP K (.int m.t) (.int (tu:Int)) _ _
 rw[qI]
 show ϙ (o3.gk (x:="ends") rfl) (dG (jN.k (k:=.inl ((X.m.M.ds.4:Int)+1)) (o3.get (i:=5) rfl) ?_) ?_)
 ·show(uV m.ed).4 < _
  unfold uV;rw[Η,h.pu.ed];show υ (ϊ zH Go) (υ hs "!")
 let hnk:((X.m.M.ds.4:Int)+1)∉m.ed.map ϝ:=λz=>by
  rw[h.pu.ed] at z
  obtain⟨y,hy,e⟩:=μ.mp z
  obtain⟨j,x,hj,_,e2⟩:=wY hy
  have:=(Α.mp hj).1
  rw[e2] at e
  let e:((0+j:Nat):Int)+1=(X.m.M.ds.4:Int)+1:=e
  lk
 let esn:=Ts (v:=m.t+(tu:Int)) hnk
 rw[show putK (uV m.ed) (.inl ((X.m.M.ds.4:Int)+1)) (.int (m.t+(tu:Int)))=_ from esn]
 let c4:=ϰ.upd (A:=[r.ed]) (o:=.dK (uV (m.ed++[((X.m.M.ds.4:Int)+1,m.t+(tu:Int))]))) ∅ (d9 (o3.get (i:=5) rfl))
 let o4:Om _ _ _ _ _ _ _ _ _ _ (bD r N {m with b0:=if N.n0=n then ((X.m.M.ds.4:Int)+1) else m.b0,b1:=if N.n1=n then ((X.m.M.ds.4:Int)+1) else m.b1,ed:=m.ed++[((X.m.M.ds.4:Int)+1,m.t+(tu:Int))]} ts ss):=o3.set (i:=5) (C':=.o (.dK (uV (m.ed++[((X.m.M.ds.4:Int)+1,m.t+(tu:Int))])))) rfl c4 Δ
 clear c4;revert o4;generalize upd H3 r.ed _=H4;intro o4
 show⟨"!",λp hp=>?_⟩
 let o5:=o4.new (C:=.t []) (ι.upd (o:=.lst []) hp) hp ⟨[],Δ,.nil⟩
 revert o5;generalize upd H4 p (.lst [])=H5;intro o5
 let esl:ss.4=X.m.M.ds.4:=h.ls.trans h.pu.sp
 show ϙ (dg (o5.get (i:=1) rfl) rfl) (dG (jN.k (k:=.inl ((X.m.M.ds.4:Int)+1)) (o5.get (i:=10) rfl) ?_) ?_)
 ·show(KQ ss).4 < _
  unfold KQ;rw[gM,d5,Ja,esl];show υ Go (υ hs "!")
 rw[show putK (KQ ss) (.inl ((X.m.M.ds.4:Int)+1)) (.ref p)=_ from esl▸Tt]
 let c6:=ϰ.upd (A:=[r.sd]) (o:=.dK (KQ (ss++[p]))) ∅ (d9 (o5.get (i:=10) rfl))
 let o6:=(o5.set (i:=10) (C':=.o (.dK (KQ (ss++[p])))) rfl c6 Δ).aie h.ls
 show q _ _ _ _ _ _ _ _ _ ⟨o6.ob,h.nk,?_,h.li.wr (es:=[.begin (X.m.M.ds.4+1) n (t+tu)]) rfl () ∅ ∅ (λe he=>by rw[Ζ.mp he];show uu on () ()),h.lt,by show(ss++[p]).4=(m.sp++[[]]).4;rw[Ρ,Ρ,h.ls];rfl⟩ o6.kp
 have:=(h.pu.begin (e:=((t+tu:Nat):Int)) (z:=n) rfl hB).lsn (L:=qT X.25 [.begin (X.m.M.ds.4+1) n (t+tu)])
 rw[show m.t+(tu:Int)=((t+tu:Nat):Int) by lk]
 show this
def Uq:T.M5.O P w mg base 18 (WM (j9 a) a.Ϡ):=by
 walk_at "h ok M5 oj R c R kd T n I cl";obtain⟨A0,d,Z,X,r,N,m,ts,ss,bs,Es,s,rfl,rfl,h,hs,hn,q⟩:=h
 show⟨_,(Λ (Ϻ 4 oj (av (aD) (ϓ K hr (ϓ K hr aw ο) cO) π))
   (Λ (fZ (pv 4) (fY (ϓ K hr aw ο) cO (dS (tG hr))))
   (Λ (Ϻ 5 oj (av rY (ϓ K hr (ϓ K hr aw ο) cO) (av fm (ϥ T.bQ (bA T) hr ϋ (bC fU π)) π)))
   (Λ (Ϻ 6 oj (ϓ K hr (ϓ K hr (ϓ K hr aw ο) (av fm (ϥ T.bQ (bA T) hr ϋ (bC fU π)) π)) π))
   (Λ (Ϻ 7 oj (ϓ K hr (ap (ϕ ο (ϕ ο (ϕ ο (bC ο ο))))) (av fm (ϥ T.bQ (bA T) hr ϋ (bC fU π)) π)))
   (Λ (Ϻ 8 oj (ϓ K hr (ap (ϕ uh (ϕ ο (bC ο (bP (kB (K:=K)) rfl T.rH rQ (aC (ϥ T.bQ (bA T) hr ϋ (bC fU π)))))))) (av fm (ϥ T.bQ (bA T) hr ϋ (bC fU π)) π)))
   (Λ (Ϻ 9 oj (zw ϵ T.ax T.F0 (Dt T) (hr.mono "!") T.F1 .nil ϋ (ϕ cO (ϕ (ϓ K hr (ϓ K hr aw ο) cO) (ϕ (pv 4) (ϕ (pv 6) (ϕ (pv 7) (bC (pv 8) (pv 5)))))))))
   (Λ (fZ (ap (aC (bi (ϕ ο (ϕ cO (bC (pv 4) (pv 5))))))) (fY (ϓ K hr aw ο) (pv 9) (dS (tG hr))))
   (Λ (ϣ (bx PySem.F.plainAttrs_list PySem.F.slot_list_append PySem.F.type_list_append bE (ϓ K hr aw ο) (aC (pv 9))))
   (Τ (aE (Ϯ Aq (pv 5) π (aq _)) (Τ (ϣ (bx PySem.F.plainAttrs_list PySem.F.slot_list_append PySem.F.type_list_append bE (ϓ K hr (ϓ K hr aw ο) (pv 5)) (aC (pv 9))))) ϭ))))))))))),?_⟩
 show SH λRz hRz=>?_
 walk1
 let sd:=h.pu.sd hn h.80
 obtain⟨dx,hc⟩:=h.44
 let o:=h.ob.om
 let ne:=h.80
 let on:=h.nk.on hn
 let ll:=h.li.len ()
 obtain⟨num,en⟩:∃num:Nat,(if N.n0=n then m.a0 else m.a1)=(num:Int):=⟨(if N.n0=n then m.a0 else m.a1).9,by have:=sd.ab;lk⟩
 obtain⟨life,el⟩:∃life:Nat,(if N.n0=n then m.l0 else m.l1)=(life:Int):=⟨(if N.n0=n then m.l0 else m.l1).9,by have:=sd.lb;lk⟩
 let lb:=sd.lb;let ab:=sd.ab;let fl:=sd.fl;let fa:=sd.fa
 rw[el] at lb fl;rw[en] at ab fa
 let ea:∀{H1 x Q'},bH H1 r.la (.str (S n)) (!x)->Q' x H1->u8 K (.ref r.la) (.str (S n)) H1 Q':=λg q=>ϙ g q
 show ϙ (o.gk (x:="last") rfl) (ϙ (D2.gg hn ne▸bH.k (k:=.inr (S n)) (o.get (i:=7) rfl)) ?_)
 rw[en,qI]
 show ϙ (o.gk (x:="last") rfl) (dG (jN.k (k:=.inr (S n)) (o.get (i:=7) rfl) (by show 2 < sizeLine;decide)) ?_)
 rw[D2.pp hn ne]
 let e0:(if N.n0=n then (num:Int)+1 else m.a0)=if N.n0=n then m.a0+1 else m.a0:=by
  by_cases c:N.n0=n
  ·rw[ε c] at en;rw[ε c,ε c,en]
  ·rw[Ψ c,Ψ c]
 let e1:(if N.n1=n then (num:Int)+1 else m.a1)=if N.n1=n then m.a1+1 else m.a1:=by
  by_cases c:N.n1=n
  ·rw[Ψ (λz=>ne (z.trans c.17))] at en;rw[ε c,ε c,en]
  ·rw[Ψ c,Ψ c]
 rw[e0,e1]
 let c1:=ϰ.upd (A:=[r.la]) (o:=.dK (D2 N (if N.n0=n then m.a0+1 else m.a0) (if N.n1=n then m.a1+1 else m.a1))) ∅ (d9 (o.get (i:=7) rfl))
 let o1:Om _ _ _ _ _ _ _ _ _ _ (bD r N {m with a0:=if N.n0=n then m.a0+1 else m.a0,a1:=if N.n1=n then m.a1+1 else m.a1} ts ss):=o.set (i:=7) (C':=.o (.dK (D2 N (if N.n0=n then m.a0+1 else m.a0) (if N.n1=n then m.a1+1 else m.a1)))) rfl c1 Δ
 clear c1;revert o1;generalize upd H r.la _=H1;intro o1
 rw[hRz];clear hRz;show adJ λRz hRz=>?_
 walk1
 show ϙ (o1.gk (x:="deeds") rfl) (ϙ (D2.gg hn ne▸bH.k (k:=.inr (S n)) (o1.get (i:=8) rfl)) ?_)
 obtain⟨dd,edd,Yl⟩:=h.pu.aif hn ne (c:=ef cl 3 % 2) ()
 show⟨.inr (by constructor<;>lk),?_⟩
 dsimp only
 rw[edd]
 obtain⟨j,ej⟩:∃j:Nat,ef cl 4 % 2=(j:Int):=⟨(ef cl 4 % 2).9,()⟩
 let hj:j < 2:=by lk
 rw[ej]
 obtain⟨key,ek,kok⟩:∃key,[V.str (Κ "a"),V.str (Κ "b"),V.str (Κ "~;"),V.str (Κ "box 1"),V.str (Κ "A")][(ef cl 5 % 5).9]?=!V.str (S key)/\keyOk key:=by
  let h0:(ef cl 5 % 5).9 < 5:=by lk
  generalize (ef cl 5 % 5).9=j at h0
  match j,h0 with
  | 0,_=>show⟨[97],rfl,by unfold keyOk Fm;decide +kernel⟩
  | 1,_=>show⟨[98],rfl,by unfold keyOk Fm;decide +kernel⟩
  | 2,_=>show⟨[126,59],rfl,by unfold keyOk Fm;decide +kernel⟩
  | 3,_=>show⟨[98,111,120,32,49],rfl,by unfold keyOk Fm;decide +kernel⟩
  | 4,_=>show⟨[65],rfl,by unfold keyOk Fm;decide +kernel⟩
 obtain⟨wo,ew,wok,wl⟩:∃wo,[V.bM,V.str (Κ ""),V.str (Κ "=;~w"),V.str (S (dU (ef cl 6)))][(ef cl 7 % 4).9]?=!wV wo/\wT wo/\∀w,wo=!w->w.4<=200:=by
  let h0:(ef cl 7 % 4).9 < 4:=by lk
  generalize (ef cl 7 % 4).9=j at h0
  match j,h0 with
  | 0,_=>show⟨none,rfl,λ_ z=>(by cases z),λ_ z=>(by cases z)⟩
  | 1,_=>show⟨some [],rfl,λw z=>(by cases z;unfold Fm;decide +kernel),λ_ z=>(by cases z;decide)⟩
  | 2,_=>show⟨some [61,59,126,119],rfl,λw z=>(by cases z;unfold Fm;decide +kernel),λ_ z=>(by cases z;decide)⟩
  | 3,_=>show⟨!dU (ef cl 6),rfl,(Td cl).1,λ_ z=>(by cases z;show ϊ (Td cl).2.1 "!")⟩
 obtain⟨x,hx,Cy,mr,CZ⟩:=h.pu.row h.nk hj key
 generalize hi:vi X.M.xs j x key=i at CZ
 let hL:la X i=!mr.24:=congrArg (Jp eX.last) CZ
 let lbL:=h.pu.lb i _ hL
 obtain⟨pl,epl⟩:∃pl:Nat,mr.24=(pl:Int):=⟨mr.last.9,()⟩
 obtain⟨Xn,esl,tS⟩:=o1.get (i:=2) rfl
 let iA:=tS.4;rw[Η,h.nk.x2] at iA
 let gst:Xn[j]?=!Xn[j]'():=Ε _
 generalize Xn[j]'_=sa at gst
 obtain⟨xv,hxv,esa⟩:=tS.get gst
 rw[Ξ,hx] at hxv;cases hxv
 show ϙ (o1.gk (x:="shelves") rfl) (dh (v:=.ref sa) (.inl (.inl esl)) (u5 (by rw[Ξ,gst];rfl)) (dN (v:=.str (S x.47)) (.inl (.inl esa)) (bf "!" rfl) ⟨"!",λp1 zJ=>dh (.inl (.inl Δ)) (bf () ek) ⟨kC (by have:=ael cl 6;lk) (by have:=ael cl 6;lk),"!",λp2 xQ=>dh (.inl (.inl Δ)) (bf () ew) ?_⟩⟩))
 let o2:=(o1.same (ι.upd (o:=.lst [V.str (Κ "a"),V.str (Κ "b"),V.str (Κ "~;"),V.str (Κ "box 1"),V.str (Κ "A")]) zJ)).same (ι.upd (o:=.lst [V.bM,V.str (Κ ""),V.str (Κ "=;~w"),V.str (S (dU (ef cl 6)))]) xQ)
 revert o2;generalize upd (upd H1 p1 _) p2 _=H2;intro o2
 rw[hRz];clear hRz;show Ay λRz hRz=>?_
 walk1
 obtain⟨ME,hc2⟩:=o2.44
 show⟨ME,_,hc2,rfl,ϙ (o2.gk (x:="lives") rfl) (ϙ (D2.gg hn ne▸bH.k (k:=.inr (S n)) (o2.get (i:=6) rfl)) ?_)⟩
 change AV _ _ [_,_,.int (if N.n0=n then m.l0 else m.l1),.int ((num+1:Nat):Int),_,_,_,_] _ _ _
 rw[el]
 let RP:=h.pu.wl;let Go:=h.95;let ND:=h.pu.sz
 let dds:dd<=s:=by
  rcases Yl with e | ⟨j,_,y,e,_,hy,_,_⟩
  ·lk
  ·have:=(Α.mp hy).1;lk
 let UJ:∃mm:DM,(dd=0/\mm=X.m\/∃j e x,dd=j+1/\X.15[j]?=!x/\x.2.2=aH/\X.54[j]?=!e/\mm=X.m.hold j e ((i:Int),mr.24))/\i9 (.put n (num+1) dd i pl key wo) X ⟨X.t,X.M.put i mr (key,wo,(dd:Int)) (S n) ((num+1:Nat):Int),mm⟩:=by
  let h5:((num+1:Nat):Int)=X.M.S.T (S n)+1:=by rw[fa];rfl
  let is:(X.M.S.L (S n)).11=true:=by rw[fl];rfl
  rcases Yl with e | ⟨j,xe,y,e,hB,hy,ho,he⟩
  ·subst e
   show⟨X.m,.inl ⟨rfl,rfl⟩,mr,CZ,(),(),is,h5,.inl ⟨rfl,rfl⟩⟩
  ·show⟨_,.inr ⟨j,xe,y,e,hy,ho,he,rfl⟩,mr,CZ,(),(),is,h5,.inr ⟨j,xe,e,he,by have:=(h.pu.e1 xe (Β he)).1;lk,rfl⟩⟩
 obtain⟨mm,UJ,Um⟩:=UJ
 let rl:i < 60:=by
  have:=(Α.mp CZ).1
  have:=h.pu.rw
  have:=oT (xs:=N.xs) (λx hx=>(h.nk.ox.each x hx).2.1.2) 2
  lk
 show⟨A0,d,_,X,_,n,x.47,key,wo,life,num+1,dd,j,i,pl,x,mr,rfl,o2.74,(),⟨⟨o2.ob.ce.st,on,(),(),fl⟩,⟨Cy.1.1,Cy.1.2.1,jy.mp Cy.1.2.2⟩,kok,wok,wl,(),(),?_,by rw[h.pu.xs];show hx,rfl,by rw[fa];rfl,by rw[hi],CZ,epl,()⟩,Um,λv H3 d' Z' c3 hd' hz C3 ev=>?_⟩
 ·rcases Yl with e | ⟨j,_,_,_,e,_⟩
  ·show .inl e
  ·show .inr e
 let o3:=o2.pH (X':=⟨X.t,{ (X.M.put i mr (key,wo,(dd:Int)) (S n) ((num+1:Nat):Int)) with ls:=qT X.25 [.put n (num+1) dd i pl key wo] },mm⟩) c3 hd' hz C3
 rw[hRz];clear hRz
 walk1
 generalize hw:(⟨n,num+1,dd,i,pl⟩:Wt)=w
 let aje:[V.str (Κ "put"),V.str (S n),V.int ((num:Int)+1),V.int (dd:Int)]=w.67:=by subst hw;rfl
 let ajf:[V.int (i:Int),V.int (pl:Int)]=w.key.map kV:=by subst hw;rfl
 let hLw:la X w.i=!(w.pl:Int):=by subst hw;show hL.trans (congrArg some epl)
 let fr:=h.pu.fresh hLw
 rw[aje]
 show⟨"!",λp hp=>⟨"!",λL hL'=>?_⟩⟩
 let s4:=ι.upd (o:=.tup w.67) hp
 let o4:=o3.same s4
 let e4:upd H3 p (.tup w.67) p=!.tup w.67:=Δ
 let ev4:=s4 _ _ ev
 revert o4 e4 ev4 hL';generalize upd H3 p (.tup w.67)=H4;intro hL' o4 e4 ev4
 let npL:p≠L:=λz=>by rw[z,hL'] at e4;cases e4
 let s5:=ι.upd (o:=.lst [V.ref p]) hL'
 let o5:=o4.new (C:=.t [w.67]) s5 hL' ⟨[p],Δ,.cons ((ν npL).trans e4) .nil⟩
 let ev5:=s5 _ _ ev4
 revert o5 ev5;clear s5;generalize upd H4 L (.lst [V.ref p])=H5;intro o5 ev5
 show ϙ (dg (o5.get (i:=1) rfl) rfl) (dG (jN.t (k:=w.85) (o5.get (i:=4) rfl) (by rw[←ajf];show ev5) ?_) ?_)
 ·show(CB m.W ts).4 < _
  unfold CB;rw[gM,h.lt,Ja];show υ RP (υ hs "!")
 rw[show putK (CB m.W ts) w.85 (.ref L)=_ from Tu (w:=(w,[w.67])) h.lt fr]
 let c6:ϰ [r.td] H5 (upd H5 r.td (.dT (CB (m.W++[(w,[w.67])]) (ts++[L])))):=ϰ.upd ∅ (λxs z=>by
  let e:H5 r.td=!.dT (CB m.W ts):=o5.get (i:=4) rfl
  rw[e] at z;cases z)
 let o6:=o5.set (i:=4) (C':=.o (.dT (CB (m.W++[(w,[w.67])]) (ts++[L])))) rfl c6 Δ
 let ev6:=c6.tup _ _ ev5
 revert o6 ev6;clear c6;generalize upd H5 r.td _=H6;intro o6 ev6
 obtain⟨os,eo,tO⟩:=o6.get (i:=5) rfl
 let lo:=tO.4;rw[Η] at lo
 show ϙ (dg (o6.get (i:=1) rfl) rfl) ?_
 walk1
 show⟨.inl ⟨_,.inl (.inl eo)⟩,_,eo,by rw[Η,lo];show υ RP (υ hs "!"),?_⟩
 let c7:ϰ [r.od] H6 (upd H6 r.od (.lst (os.map V.ref++[V.ref v]))):=ϰ.upd ∅ (gY eo)
 let evw:H6 v=!.tup (mV w.sp):=by rw[ev6];subst hw;rfl
 let o7:=Om.aig (m:={m with a0:=if N.n0=n then m.a0+1 else m.a0,a1:=if N.n1=n then m.a1+1 else m.a1}) (w:=(w,[w.67])) (o6.set (i:=5) (C':=.t ((m.W++[(w,[w.67])]).map λw=>mV w.1.sp)) rfl c7 (by rw[Ϣ];show bb.push eo tO evw)) h.lt
 let ev7:=c7.tup _ _ evw
 revert o7 ev7;clear c7;generalize upd H6 r.od _=H7;intro o7 ev7
 let edw:w.dd=dd:=by subst hw;rfl
 let fin:∀H8 sp8,Om H d (bD r N m ts ss) (j9 a) a.Ϡ H8 A0 d' (L::Z') ⟨X.t,{ (X.M.put i mr (key,wo,(dd:Int)) (S n) ((num+1:Nat):Int)) with ls:=qT X.25 [.put n (num+1) dd i pl key wo] },mm⟩ (bD r N {m with a0:=if N.n0=n then m.a0+1 else m.a0,a1:=if N.n1=n then m.a1+1 else m.a1,W:=m.W++[(w,[w.67])],sp:=sp8} (ts++[L]) ss)->sp8=tN w m.sp->Q .bM H8:=by
  rintro H8 _ o8 rfl
  let pu:=(h.pu.put (w:=w) (lt:=(key,wo,(dd:Int))) (mm:=mm) (key:=key) (wo:=wo) (mr:=mr) () (by subst hw;show hn) h.nk (by subst hw;show CZ) (by subst hw;show epl) (by subst hw;rw[fa];rfl) (by subst hw;show UJ)).lsn (L:=qT X.25 [.put n (num+1) dd i pl key wo])
  let ok:nU (gJ.nm (.put n (num+1) dd i pl key wo)) (gJ.ps (.put n (num+1) dd i pl key wo)):=AN on () () () () kok wok wl
  let li:=h.li.wr (X':=⟨X.t,{ (X.M.put i mr (key,wo,(dd:Int)) (S n) ((num+1:Nat):Int)) with ls:=qT X.25 [.put n (num+1) dd i pl key wo] },mm⟩) (es:=[.put n (num+1) dd i pl key wo]) rfl () ∅ ∅ (λe he=>by rw[Ζ.mp he];show ok)
  show q _ _ _ _ _ _ _ _ _ ⟨o8.ob,h.nk,?_,li,?_,?_⟩ o8.kp
  ·subst hw;show pu
  ·show(ts++[L]).4=(m.W++[_]).4
   rw[Ρ,Ρ,h.lt];rfl
  ·change ss.4=(tN w m.sp).4
   rw[Ef];show h.ls
 by_cases dp:0<dd
 ·rw[ε ()]
  obtain⟨j2,_,y,ej2,_,hy,_,_⟩:=Yl.resolve_left ()
  let jl:j2 < m.sp.4:=by rw[h.pu.sp];show (Α.mp hy).1
  let hl:m.sp[j2]?=!m.sp[j2]'jl:=Ε jl
  generalize m.sp[j2]'jl=l at hl
  let hsa:ss[j2]?=!(ss[j2]'(by rw[h.ls];show jl)):=Ε _
  generalize ss[j2]'_=sa at hsa
  let lt2:(ts++[L]).4=(m.W++[(w,[w.67])]).4:=by rw[Ρ,Ρ,h.lt];rfl
  let gS:=KU (r:=r) (N:=N) (m:={m with a0:=if N.n0=n then m.a0+1 else m.a0,a1:=if N.n1=n then m.a1+1 else m.a1,W:=m.W++[(w,[w.67])]}) lt2 hl hsa
  obtain⟨us,eu,tU⟩:=o7.get gS
  let lu:=tU.4;rw[Η] at lu
  let ll2:l.4<=s:=by
   obtain⟨nd,il⟩:=h.pu.Tq j2 l hl
   have:=Tv nd il
   rw[Η] at this;lk
  show ϙ (o7.gk (x:="spots") rfl) (ϙ (v:=.ref sa) (by have:=bH.k (k:=.inl ((j2:Int)+1)) (o7.get (i:=9) rfl);rw[MQ hsa] at this;rw[ej2];show this) ?_)
  walk1
  show⟨.inl ⟨_,.inl (.inl eu)⟩,_,eu,by rw[Η,lu];show υ ll2 (υ hs "!"),?_⟩
  let c8:ϰ [sa] H7 (upd H7 sa (.lst (us.map V.ref++[V.ref v]))):=ϰ.upd ∅ (gY eu)
  let o8:=o7.set gS (C':=.t ((l++[w.sp]).map mV)) c8 (by rw[Ϣ];show bb.push eu tU ev7)
  rw[aaB (m:={m with a0:=if N.n0=n then m.a0+1 else m.a0,a1:=if N.n1=n then m.a1+1 else m.a1,W:=m.W++[(w,[w.67])]}) lt2 hl hsa] at o8
  show fin _ _ o8 (by unfold tN;rw[edw,ej2];dsimp only;rw[Ϩ,hl];rfl)
 ·rw[Ψ ()]
  show fin _ _ o7 (by unfold tN;rw[edw,show dd=0 by lk])
def QD:T.IF.O P w mg base 20 (Tw (j9 a) a.Ϡ):=by
 walk_at "h ok IF si R c R kd I cl";obtain⟨A0,d,Z,X,r,N,m,ts,ss,bs,Es,s,rfl,rfl,h,hs,q⟩:=h
 show⟨_,(Λ (Ϻ 3 si (av fm (ϥ T.bQ (bA T) hr ϋ (bC cO π)) π))
   (Λ (Ϻ 4 si (ϓ K hr (ϓ K hr aw ο) (av fm (ϥ T.bQ (bA T) hr ϋ (bC cO π)) π)))
   (Λ (Ϻ 5 si (ϓ K hr (ϓ K hr aw ο) (pv 4)))
   (Τ (aE (Ϯ E9 fU π (aq _)) (Τ (ϣ (ϥ T.M5 (Uq T) hr ϋ (ϕ ϵ (ϕ aw (bC (pv 4) cO)))))) (Τ (aE (PW.pt (pw_and (Ϯ (cq (hU hr)) fU π (aq _)) (pw_and1 (Ϯ (cq (hU hr)) (av fm (ϥ T.bQ (bA T) hr ϋ (bC cO π)) π) π (aq _))))) (Λ (ϣ (ϥ T.oy (pC T) hr ϋ (ϕ aw (bC (pv 5) (bi (aC ο))))))
   (Τ (fZ (ϓ K hr (bj ϵ T.ax T.na (rL T) hr ϋ (aC (pv 4))) π) (fY (ϓ K hr aw ο) (pv 4) (dS (tG hr)))))) (Τ (aE (Ϯ (cq (hU hr)) fU π (aq _)) (Λ (fZ (bj ϵ T.ax T.j8 (rM T) hr ϋ (aC (av (aD) π (av fm (ϥ T.bQ (bA T) hr ϋ (bC cO π)) π)))) (fY aw ο (dS (tG hr))))
   (Τ (cQ ϡ rfl (aW (bP (KL) rfl T.iS ij (aC (ϓ K hr aw ο)))) (am (i:=6) si.nd rfl (aP rfl)) (Τ (aE (Ϯ mU (ϓ K hr (ϓ K hr aw ο) (pv 6)) (ϓ K hr aw ο) (aq _)) (Τ (ϣ (ϥ T.oy (pC T) hr ϋ (ϕ aw (bC (pv 6) (bi (aC ο))))))) ϭ))))) (Τ (aE (Ϯ (cq (hU hr)) (pv 5) π (aq _)) (Τ (ϣ (ϥ T.Ex (LW T) hr ϋ (ϕ ϵ (ϕ aw (bC (pv 4) (av (aD) π (av fm (ϥ T.bQ (bA T) hr ϋ (bC cO π)) π)))))))) (Τ (aE (Ϯ (cq (hU hr)) fU π (aq _)) (Λ (ϣ (bj ϵ T.ax T.ua (Cn T) hr ϋ (bC (pv 4) (ϓ K hr (ϓ K hr aw ο) (pv 4)))))
   (Τ (ϣ (ϥ T.oy (pC T) hr ϋ (ϕ aw (bC (pv 5) (bi (aC ο)))))))) (Λ (ϣ (bj ϵ T.ax T.rF (zc T) hr ϋ (bC (pv 4) (ϓ K hr (ϓ K hr aw ο) (pv 4)))))
   (Τ (ϣ (ϥ T.oy (pC T) hr ϋ (ϕ aw (bC (pv 5) (bi (aC ο))))))))))))))))))))),?_⟩
 walk1
 let o:=h.ob.om
 let ne:=h.80
 let B1:=vf cl 2
 obtain⟨n,en,hn⟩:∃n,(V.str (S N.n0)::.str (S N.n1)::N.36)[(ef cl 2 % 2).9]?=!V.str (S n)/\(n=N.n0\/n=N.n1):=by
  let h0:(ef cl 2 % 2).9 < 2:=by lk
  generalize (ef cl 2 % 2).9=j at h0
  match j,h0 with
  | 0,_=>show⟨_,rfl,.inl rfl⟩
  | 1,_=>show⟨_,rfl,.inr rfl⟩
 let sd:=h.pu.sd hn ne
 let on:=h.nk.on hn
 let ll:=h.li.len ()
 obtain⟨life,el⟩:∃life:Nat,(if N.n0=n then m.l0 else m.l1)=(life:Int):=⟨(if N.n0=n then m.l0 else m.l1).9,by have:=sd.lb;lk⟩
 let lb:=sd.lb;let fl:=sd.fl;let fb:=sd.fb
 rw[el] at lb fl
 let Go:=h.95;let ND:=h.pu.sz
 obtain⟨QE,hMw⟩:=h.pu.mk8 () h.lt h.ls
 show ϙ (o.gk (x:="names") rfl) (dh (.inl (.inl (o.get (i:=1) rfl))) (bf () en) (ϙ (o.gk (x:="deeds") rfl) (ϙ (D2.gg hn ne▸bH.k (k:=.inr (S n)) (o.get (i:=8) rfl)) ?_)))
 generalize hb:(if N.n0=n then m.b0 else m.b1)=dn at fb
 let cas:(dn=0/\X.m.M.B (S n)=none)\/∃(j:Nat) (e:Int) (xe:-jH×-wU),dn=(j:Int)+1/\X.m.M.B (S n)=!((j:Int)+1)/\X.15[j]?=!(S n,e,aH)/\X.54[j]?=!xe:=by
  cases k:X.m.M.B (S n) with
  | none=>rw[k] at fb;show .inl ⟨fb.17,rfl⟩
  | some v=>
   rw[k] at fb
   obtain⟨j,e,h1,h2⟩:=h.pu.inv.op.a _ _ k
   obtain⟨xe,he⟩:=h.pu.inv.O3 h2
   show .inr ⟨j,e,xe,by rw[←fb];show h1,by rw[h1],h2,he⟩
 show E3 (λ_=>⟨A0,d,Z,X,r,N,m,ts,ss,bs,Es,s,rfl,rfl,h,hs,hn,q⟩) (λ_=>Pi (E3 (λ_=>?_) (λ_=>?_)) (λ_ _=>?_))
 ·obtain⟨tu,etu⟩:∃tu:Nat,1+ef cl 3 % 4=(tu:Int):=⟨(1+ef cl 3 % 4).9,by have:=vf cl 3;lk⟩
  rw[etu]
  let htu:1<=tu/\tu<=4:=by have:=vf cl 3;lk
  obtain⟨t,et,emt,lt4⟩:=h.pu.tt
  obtain⟨dx,hc⟩:=h.44
  show⟨dx,_,hc,rfl,A0,d,Z,X,tu,t,HH X (t+tu),rfl,h.74,et,htu.1,(),(),(),(),rfl,KJ h.pu.inv t tu,λH2 d' Z' c2 hd hz C2=>?_⟩
  generalize hX2:HH X (t+tu) (kP X t tu).4=X2 at C2
  rw[O5] at hX2
  let o2:=o.pH (X':=⟨X2.t,{ X2.M with ls:=qT X.25 (kP X t tu) },X2.m⟩) c2 hd hz C2
  show dG (jN.k (k:=.inr "turn") (o2.get (i:=0) rfl) (by show 10 < sizeLine;decide)) ?_
  rw[show putK (sI r m.t) (.inr "turn") (.int ((t+tu:Nat):Int))=_ from aaI]
  let c3:=ϰ.upd (A:=[r.kd]) (o:=.dK (sI r ((t+tu:Nat):Int))) ∅ (d9 (o2.get (i:=0) rfl))
  let o3:Om _ _ _ _ _ _ _ _ _ _ (bD r N {m with t:=((t+tu:Nat):Int)} ts ss):=o2.set (i:=0) (C':=.o (.dK (sI r ((t+tu:Nat):Int)))) rfl c3 Δ
  clear c3;revert o3;generalize upd H2 r.kd _=H3;intro o3
  show ϙ (o3.gk (x:="ends") rfl) ⟨_,_,rfl,o3.get (i:=5) rfl,λl hl=>?_⟩
  let o4:=o3.same (ι.upd (o:=.lst ((uV m.ed).map λkv=>kV kv.1)) hl)
  let Wf:upd H3 l (.lst ((uV m.ed).map λkv=>kV kv.1)) l=!(.lst ((uV m.ed).map λkv=>kV kv.1)):=Δ
  let nl:l∉(bD r N m ts ss).map ϝ:=λz=>by
   rw[←vx (m:=m) (m':={m with t:=((t+tu:Nat):Int)}) rfl rfl] at z
   obtain⟨c,hc,e⟩:=μ.mp z
   obtain⟨_,e2⟩:=(o3.ob.kp c hc).77
   rw[e,hl] at e2;cases e2
  revert o4 Wf;generalize upd H3 l _=H4;intro o4 Wf
  generalize hm0:({m with t:=((t+tu:Nat):Int)}:KR)=m0 at o3 o4
  let hk0:US m0 ts ss/\∀w∈m0.W,w.2.4+m0.ed.4<=200:=by subst hm0;show⟨⟨QE.lt,QE.ls,QE.wl,QE.sl,QE.QY,QE.sp,QE.ed,QE.nde,QE.el⟩,hMw⟩
  let ht0:m0.t=((t+tu:Nat):Int):=by subst hm0;rfl
  let WH:m0.ed=m.ed:=by subst hm0;rfl
  show di (.inl (.inl Wf)) (cy (λi σ H'=>H' l=!(.lst ((uV m.ed).map λkv=>kV kv.1))/\Om H d (bD r N m ts ss) (j9 a) a.Ϡ H' A0 d' Z' ⟨X2.t,{ X2.M with ls:=qT X.25 (kP X t tu) },X2.m⟩ (bD r N (vy ((m.ed.take i).filter λy=>decide (y.2<=((t+tu:Nat):Int))) m0) ts ss)/\US (vy ((m.ed.take i).filter λy=>decide (y.2<=((t+tu:Nat):Int))) m0) ts ss/\(∀w∈(vy ((m.ed.take i).filter λy=>decide (y.2<=((t+tu:Nat):Int))) m0).W,w.2.4+(vy ((m.ed.take i).filter λy=>decide (y.2<=((t+tu:Nat):Int))) m0).ed.4<=200)/\∃v6,σ=[!.ref A0.c,!.ref r.kd,!.int cl,!.int (ef cl 1 % 8),!.str (S n),!.int dn,v6]) ⟨Wf,o4,hk0.1,hk0.2,none,rfl⟩ (λi σ H' _ h=>.inl (.inl h.1)) ?_ ?_)
  ·rintro i x σ H' hx ⟨el5,o5,k5,w5,v6,rfl⟩
   unfold uV at hx
   rw[Ϥ,Ξ] at hx
   obtain⟨y,hy,rfl⟩:=χ.mp hx
   obtain⟨yd,ye⟩:=y
   change Mg 6 (.int yd) _ _ _
   let fS:(m.ed.take (i+1)).filter (λy=>decide (y.2<=((t+tu:Nat):Int)))=(m.ed.take i).filter (λy=>decide (y.2<=((t+tu:Nat):Int)))++[(yd,ye)].filter (λy=>decide (y.2<=((t+tu:Nat):Int))):=by rw[cz hy,ir]
   let nin:yd∉((m.ed.take i).filter (λy=>decide (y.2<=((t+tu:Nat):Int)))).map ϝ:=λz=>by
    obtain⟨u,hu,eu⟩:=μ.mp z
    obtain⟨k,hk⟩:=ϛ (cT.mp hu).1
    let k1:=(Α.mp hk).1
    rw[af] at k1
    rw[nz ()] at hk
    have:=KS (x:=yd) QE.nde (i:=k) (k:=i) (by rw[Ξ,hk,←eu];rfl) (by rw[Ξ,hy];rfl)
    lk
   let yin:=MV (y:=(yd,ye)) (L:=(m.ed.take i).filter (λy=>decide (y.2<=((t+tu:Nat):Int)))) (m:=m0) (by rw[WH];show Β hy) nin
   let ft:(vy ((m.ed.take i).filter (λy=>decide (y.2<=((t+tu:Nat):Int)))) m0).t=((t+tu:Nat):Int):=Tx.trans ht0
   generalize hmi:vy ((m.ed.take i).filter (λy=>decide (y.2<=((t+tu:Nat):Int)))) m0=mi at *
   walk1
   show ϙ (o5.gk (x:="ends") rfl) (ϙ (by have:=bH.k (k:=.inl yd) (o5.get (i:=5) rfl);rw[WE k5.nde yin] at this;show this) (ϙ (o5.gk (x:="turn") rfl) ?_))
   rw[ft]
   change rLe (.int ye) (.int ((t+tu:Nat):Int)) _ _
   rw[ZL]
   show⟨_,rfl,?_⟩
   by_cases c:ye<=((t+tu:Nat):Int)
   ·rw[ε (ϱ c)]
    rw[fS,cS (by simpa using c),qB,Pj,hmi]
    show⟨"!",λp hp=>?_⟩
    let sp:=ι.upd (o:=.tup [.str (Κ "dropped")]) hp
    show⟨_,_,_,_,_,_,_,_,_,_,_,_,rfl,(o5.same sp).ob,h.nk,k5,w5,Δ,λH6 o6 c6=>?_⟩
    let k6:=US.iw (dn:=yd) (z:=Κ "dropped") k5 w5
    show⟨c6.keep _ _ (sp _ _ el5) ?_,(o5.same sp).ended o6 c6,k6.1,k6.2⟩
    rw[vx (m:=m) (k5.lt.symm.trans h.lt) (k5.ls.symm.trans h.ls)]
    show nl
   ·rw[Ψ (by simpa using c)]
    rw[fS,bT (by simpa using c),qB,cV,hmi]
    show⟨el5,o5,k5,w5⟩
  ·rintro σ H' ⟨el5,o5,k5,w5,v6,rfl⟩
   let lE:((uV m.ed).map λkv=>kV kv.1).4=m.ed.4:=by unfold uV;rw[Η,Η]
   rw[lE,ϴ,Tz h.pu] at o5 k5
   let pt:=(h.pu.mono (gD s)).turn (t':=t+tu) ()
   rw[hm0] at pt
   let pd:=Pu.FD pt (js:=pK X (t+tu)) TB (λj hj=>HR hj)
   rw[hX2] at pd
   let lj:=Pk h.pu (t:=t+tu)
   let pE:(Es++[.turn (t+tu)])++(pK X (t+tu)).map (λ(j:Nat)=>.drop (j+1))=Es++kP X t tu:=by rw[qU,cg];rfl
   rw[pE] at pd
   show q _ _ _ _ _ _ _ _ _ ⟨o5.ob,h.nk,pd.lsn,h.li.wr (es:=kP X t tu) rfl () (by rw[qU];simp) (by rw[Ee];lk) (λe he=>by
    rw[qU] at he
    rcases Ι.mp he with rfl | he
    ·show wW ()
    ·obtain⟨j,hj,rfl⟩:=μ.mp he
     obtain⟨x,hx,_⟩:=HR hj
     have:=(Α.mp hx).1
     show eZ ()),k5.lt,k5.ls⟩ o5.kp
 ·rw[rV];show⟨_,rfl,?_⟩
  rcases cas with ⟨rfl,hB⟩ | ⟨j,e,xe,rfl,hB,hx,he⟩
  ·rw[ε "!"]
   obtain⟨tu,etu⟩:∃tu:Nat,1+ef cl 4 % 9=(tu:Int):=⟨(1+ef cl 4 % 9).9,by have:=vf cl 4;lk⟩
   rw[etu]
   show⟨A0,d,Z,X,r,N,m,ts,ss,bs,Es,s,rfl,rfl,h,hs,hn,hb,(),(),q⟩
  ·rw[Ψ (by simp;lk)]
   let ho:(S n,e,aH).2.2=aH:=rfl
   let xin:=h.pu.inv.sp xe (Β he)
   let hj:=(Α.mp hx).1
   obtain⟨dx,hc⟩:=h.44
   let C5:Ed (j9 a) a.Ϡ H A0 d Z X n life:=⟨h.74,on,(),(),fl,()⟩
   show E3 (λ_=>⟨dx,_,hc,rfl,ϙ (o.gk (x:="lives") rfl) (ϙ (D2.gg hn ne▸bH.k (k:=.inr (S n)) (o.get (i:=6) rfl)) ?_)⟩) (λ_=>⟨dx,_,hc,rfl,ϙ (o.gk (x:="lives") rfl) (ϙ (D2.gg hn ne▸bH.k (k:=.inr (S n)) (o.get (i:=6) rfl)) ?_)⟩)
   ·rw[el]
    show⟨A0,d,Z,X,n,life,rfl,C5,j,_,xe,hB,(),rfl,hx,he,xin,λH2 d' Z' c2 hd hz C2=>?_⟩
    show⟨"!",λp hp=>?_⟩
    let o2:=(o.pH (X':=⟨X.t,{ X.M with Ms:=mW X.48 xe.1,ls:=qT X.25 [.drop (j+1)] },X.m.finish j (S n,e,aH) gR⟩) c2 hd hz C2).same (ι.upd (o:=.tup [.str (Κ "dropped")]) hp)
    show⟨_,_,_,_,_,_,_,_,_,_,_,_,rfl,o2.ob,h.nk,QE,hMw,Δ,λH3 o3 c3=>h.fin hs hx ho (r8 _ _) (λ_=>zI) oY (.inr ⟨rfl,rfl⟩) q (o2.ended o3 c3)⟩
   ·rw[el]
    show⟨A0,d,Z,X,n,life,rfl,C5,j,_,xe,hB,(),rfl,hx,he,(h.pu.e1 xe (Β he)).2,λv H2 d' Z' c2 hd hz C2=>?_⟩
    show⟨"!",λp hp=>?_⟩
    let o2:=(o.pH (X':=⟨X.t,{ X.M with ls:=qT X.25 [.close (j+1)] },X.m.finish j (S n,e,aH) vq⟩) c2 hd hz C2).same (ι.upd (o:=.tup [.str (Κ "closed")]) hp)
    show⟨_,_,_,_,_,_,_,_,_,_,_,_,rfl,o2.ob,h.nk,QE,hMw,Δ,λH3 o3 c3=>h.fin (Ms':=X.48) hs hx ho rfl (λ_=>rfl) O4 (.inl ⟨rfl,rfl⟩) q (o2.ended o3 c3)⟩
 ·let e0:(if N.n0=n then ((life+1:Nat):Int) else m.l0)=if N.n0=n then m.l0+1 else m.l0:=by
   by_cases c:N.n0=n
   ·rw[ε c] at el;rw[ε c,ε c,el];rfl
   ·rw[Ψ c,Ψ c]
  let e1:(if N.n1=n then ((life+1:Nat):Int) else m.l1)=if N.n1=n then m.l1+1 else m.l1:=by
   by_cases c:N.n1=n
   ·rw[Ψ (λz=>ne (z.trans c.17))] at el;rw[ε c,ε c,el];rfl
   ·rw[Ψ c,Ψ c]
  let eu:HF X n (life+1)=[.int ((life+1:Nat):Int),.int (X.M.S.T (S n))]:=by unfold HF;rw[fl];rfl
  let fin:∀H3 d' Z' X1 es0 mE v,Om H d (bD r N m ts ss) (j9 a) a.Ϡ H3 A0 d' Z' ⟨X1.t,{ (X1.M.cr (S n)) with ls:=qT X.25 (es0++[.cr n (life+1)]) },X1.m⟩ (bD r N mE ts ss)->Pu X1 N mE (Es++es0) s->(∀e∈es0,nU e.nm e.ps)->es0.4<=10->mE.l0=m.l0->mE.l1=m.l1->ts.4=mE.W.4->ss.4=mE.sp.4->H3 v=!.tup (HF X n (life+1))->
    u8 K (.ref v) (.int 0) H3 (λx5 H1=>u8 K (.ref r.kd) (.str (Κ "lives")) H1 λo H1=>Mt o (.str (S n)) x5 H1 λH3=>Q .bM H3):=by
   intro H3 d' Z' X1 es0 mE v o3 pu ok0 l10 m0 m1 lt ls ev
   show dN (.inl (.inl ev)) (bf "!" (by rw[eu];rfl)) (ϙ (o3.gk (x:="lives") rfl) (dG (jN.k (k:=.inr (S n)) (o3.get (i:=6) rfl) (by show 2 < sizeLine;decide)) ?_))
   rw[D2.pp hn ne,m0,m1,e0,e1]
   let c4:=ϰ.upd (A:=[r.ld]) (o:=.dK (D2 N (if N.n0=n then m.l0+1 else m.l0) (if N.n1=n then m.l1+1 else m.l1))) ∅ (d9 (o3.get (i:=6) rfl))
   let o4:Om _ _ _ _ _ _ _ _ _ _ (bD r N {mE with l0:=if N.n0=n then m.l0+1 else m.l0,l1:=if N.n1=n then m.l1+1 else m.l1} ts ss):=o3.set (i:=6) (C':=.o (.dK (D2 N (if N.n0=n then m.l0+1 else m.l0) (if N.n1=n then m.l1+1 else m.l1)))) rfl c4 Δ
   let pu2:=(pu.cr (z:=n) (kk:=life+1)).lsn (L:=qT X.25 (es0++[.cr n (life+1)]))
   rw[m0,m1,cg] at pu2
   show q _ _ _ _ _ _ _ _ _ ⟨o4.ob,h.nk,pu2,h.li.wr (es:=es0++[.cr n (life+1)]) rfl () ∅ (by rw[Ρ];change _+1<=40;lk) (λe he=>by
    rcases Ο.mp he with he | he
    ·show ok0 e he
    ·rw[Ζ.mp he];show kD on ()),lt,ls⟩ o4.kp
  show⟨"!",λp hp=>⟨_,_,_,_,_,_,_,_,_,_,_,_,rfl,(o.same (ι.upd (o:=.tup [.str (Κ "dropped")]) hp)).ob,h.nk,QE,hMw,Δ,λH2 o2 c2=>?_⟩⟩
  let o2:=(o.same (ι.upd (o:=.tup [.str (Κ "dropped")]) hp)).ended o2 c2
  obtain⟨dx,hc⟩:=o2.44
  show⟨dx,_,hc,rfl,?_⟩
  show⟨A0,d,Z,X,n,life+1,rfl,o2.74,on,by rw[fl];rfl,(),(),(),λv hv=>by rw[fl] at hv;cases hv;lk,?_⟩
  rcases cas with ⟨rfl,hB⟩ | ⟨j,e,xe,rfl,hB,hx,he⟩
  ·rw[h.pu.aem] at o2
   show .inl ⟨hB,λv H3 d' Z' c3 hd hz C3 ev=>fin H3 d' Z' X [] m v (o2.pH c3 hd hz C3) (by rw[cV];show h.pu) (λ_ z=>by cases z) "!" rfl rfl h.lt h.ls ev⟩
  ·let ho:(S n,e,aH).2.2=aH:=rfl
   let hj:=(Α.mp hx).1
   show .inr ⟨j,_,xe,hB,(),rfl,hx,he,h.pu.inv.sp xe (Β he),λv H3 d' Z' c3 hd hz C3 ev=>fin H3 d' Z' ⟨X.t,{ X.M with Ms:=mW X.48 xe.1 },X.m.finish j (S n,e,aH) gR⟩ [.drop (j+1)] (iw m ((j:Int)+1) (Κ "dropped")) v (o2.pH c3 hd hz C3) (h.pu.fin hx ho (r8 _ _) (λ_=>zI) oY (.inr ⟨rfl,rfl⟩)) (λe he=>by rw[Ζ.mp he];show eZ ()) ∅ rfl rfl (h.lt.trans A8.symm) h.ls ev⟩
def sX:T.mN.O P w mg base 9 (HS (j9 a)):=by
 walk_at "h ok mN K8 R x R p";(revert h;show yx λdx xs hx hL ok h3 q=>?_)
 show(δ _ (Λ (bU ϵ (zx T.Ub (wf T) (hr.mono "!") rfl T.T' T.ou.b .nil ϋ (aC aw)) rfl)
   (Λ (bU ϵ (qH T.WZ (xx T) (hr.mono "!") rfl T.WX T.qf.b .nil ϋ) rfl)
   (Τ (ϣ (bj (ϳ K ϵ) T.jw T.pq (ub T) hr ϋ (aC (ap (aC (ϥ T.lD (sW T) hr ϋ (aC (nJ (ϳ K (ϳ K ϵ)) T.gn T.lL.m (yY T) (hr.mono "!") T.lL.b .nil ϋ))))))))))) ?_)
 lia;show λst Jm iA W5 nds=>(fk Jm xs Δ (hL.same ((ι.upd W5).trans (ι.upd (by rw[ν (ό nds)];show iA)))) ok (λA1 H1 hA c1 f1 S1=>⟨rfl,?_⟩))
 let s1:=iq iA W5 c1;let lU:pI H (upd (upd H Jm (.own st)) st (.ins a.eQ Jm [])):=pI.wr.trans pI.wr;let eU:upd (upd H Jm (.own st)) st (.ins a.eQ Jm []) st=!.ins a.eQ Jm []:=Δ;generalize upd (upd H Jm (.own st)) st (.ins a.eQ Jm [])=U at c1 f1 lU eU;obtain⟨dx1,hs1⟩:=S1.pG;rw[hA] at hs1;let nx:∀{b:Ν},H b=none->b∉[x]:=λhb z=>by rw[Ζ.mp z,hx] at hb;cases hb
 let FL:=s1 _ _ hx;show(dL _ dx _ FL T.ax T.bL "!" ?_);generalize UZ:upd H1 x _=H2;(show cW (Hn FL UZ) λc2 hx2 l2=>?_);let L2:=s1.gh.trans l2;show λbk dxb hbk ajk ndb=>(δ dxb Δ (λbl H3 hbl nbl c3 B3=>⟨rfl,?_⟩))
 let s3:=iq hbk ajk c3;let F3:=((((Fr.nil).add (pI.refl _) iA lU ⟨_,eU⟩).adds A1.new lU f1.nd f1.no (c1.ah1 hs1) f1.yes).gh l2).two L2 s3.gh (ό nbl) hbk (dq hbl).1 (B3.obj.elim λ_ e=>⟨_,e⟩) ⟨_,B3.33⟩;let hx3:=s3 _ _ hx2;show(dL _ dx _ hx3 T.ax T.iR (show 1 < 1000 by decide) ?_);generalize hH4:upd H3 x _=H4;(show cW (Hn hx3 hH4) λc4 hx4 l4=>?_);let L4:=(L2.trans s3.gh).trans l4;let F4:=F3.gh l4;let no:=λb hb=>nx (F4.no b hb);let B4:ic a.jR H4 bk bl []:=by
  obtain⟨Wp,e⟩:=B3.27;show⟨⟨Wp,c4.keep _ _ e (no _ ∅)⟩,c4.keep _ _ B3.33 (no _ ∅)⟩
 let g1:=c2.trans ((ϰ.of_same s3).trans c4);let mn:∀b∈A1.new,b∉[x]:=λb hb=>no b (by simp[hb]);let LV:∀{b:Ν},b∈[A1.sh,A1.61,A1.rl,A1.sn,A1.l,A1.t,A1.p,A1.de,A1.dl,A1.bz,A1.gr,A1.rd,A1.ra,A1.rb]->b∉[x]:=λhb=>mn _ (Φ _ hb);let ss:=g1.keep _ _ hs1 (no _ ∅);let sh4:=S1.Fq.bO g1 (LV ∅) (LV ∅)
 letI A2:CA:={ A1 with c:=x,bk:=bk,bl:=bl }
 let C4:qS (j9 a) H4 A2 [bl,A1.rl,A1.61,A1.dl] ⟨xs,dH (aG xs xs.4) Fb,xV,[]⟩:=by
  show⟨⟨dx,?_⟩,B4,⟨dx1,?_⟩,sh4,ok,?_,?_,S1.26,S1.46,?_,?_,?_,?_,?_,?_,?_,?_⟩
  ·rw[hx4]
   change some (HO.ins a.cL dx [("state",.ref st),("book",.ref bk)])=!HO.ins a.cL dx [("state",.ref A1.st),("book",.ref bk)];rw[hA]
  ·change H4 A1.st=_
   rw[hA];show ss
  ·show g1.keep _ _ S1.oW (LV (b:=A1.rl) ∅)
  ·intro i r d m h1 h2 h3
   have:=Β h3;rw[List.eq_of_mem_replicate this];show(S1.row i r d h1 h2).bO g1 (mn _ (Θ _ (Φ _ (Β h1)))) (mn _ (Θ _ (Θ _ (Β h2))))
  ·show(dH (aG xs xs.4) Fb).4=A1.rs.4
   rw[dI,S1.26]
  ·let z:=S1.snd.bO g1 (LV ∅) (LV ∅) (LV ∅) (LV ∅) (λb hb=>.inr λxs z=>by rw[Ζ.mp hb,FL] at z;cases z)
   show⟨z.27,z.gh,z.QV,by
    (show au z.UR λkv e1 e2 _=>?_)
    show(ac kv e1 e2 (λz hz=>by cases hz)),z.rl,z.rt,z.rp,z.lt,z.lp,z.tp⟩
  ·show S1.XW.bO g1 (LV ∅) (LV ∅) (LV ∅) (λ_ hu=>nomatch hu)
  ·show S1.Wm.bO g1 (LV ∅) (LV ∅) (LV ∅)
  ·show g1.keep _ _ S1.grp (LV (b:=A1.gr) ∅)
  ·show⟨by simp[A2],by simp[A2],by simp[A2],by simp[A2]⟩
  ·intro b hb
   show F4.yes b ?_;simp only[Ι,Μ,ϖ] at hb;unfold CA.new;rcases hb with rfl | rfl | rfl | rfl<;>simp
  ·let p1:(x::([bk,bl]++(A1.new++[st]))).Perm A2.fix:=by
    rw[<-hA];show Hq A1 x bk bl
   show p1.nodup_iff.mp (Ϛ.mpr ⟨λz=>no x z ∅,F4.nd⟩)
 obtain⟨ajm,hb4⟩:=B4.27;obtain⟨ajn,hh4⟩:=sh4.27;show(aL _ dx _ hx4 T.ax T.iR (δ _ rfl ⟨ajm,_,hb4,rfl,_,dx,_,hx4,T.ax,T.bL,_,rfl,_,dx1,_,ss,T.aa,T.gC,_,Hl A1,ajn,_,hh4,rfl,_,_,sh4,λD H5 hD s5 hL5=>(mh xs hL5 ok h3 (λb H6 s6 ob=>⟨"!",λp6 hp6=>?_⟩))⟩));let s46:ι H4 (upd H6 p6 (.lst [.str (S b)])):=s5.trans (s6.trans (ι.upd hp6));let C6:=C4.same s46;let np:p6≠bl:=λz=>by
  have:=(s5.trans s6) _ _ B4.33;rw[<-z,hp6] at this;cases this
 show(zS bl ([]) ([b]) C6.91 Δ np (λc hc=>by rw[Ζ.mp hc];show ob) (by show 0+1<=5000;decide) (λH7 c7 B7=>?_));let Ju:∀b∈A2.fix,b=x\/H b=none:=λb hb=>by
  let p1:(x::([bk,bl]++(A1.new++[st]))).Perm A2.fix:=by
   rw[<-hA];show Hq A1 x bk bl
  rcases Ι.mp (p1.mem_iff.mpr hb) with h | h
  ·show .inl h
  ·show .inr (F4.no b h)
 show q A2 _ H7 _ rfl Ju ?_ (C6.wrote c7 B7) ⟨b,ob,rfl⟩;show((ϰ.of_same s1).trans (g1.trans (ϰ.of_same s46))).past c7 (F4.no bl ∅)
def Gh:T.rq.O P w mg base 1 (Ki a.jR):=by
 walk_at "h ok rq WP R b";obtain⟨l,ls,hB,q⟩:=h
 show⟨_,(Τ (ϔ (bP (ib) rfl T.iS ij (aC (ϳ K ϵ))))),?_⟩
 walk1
 obtain⟨dx,hb⟩:=hB.27
 show⟨_,dx,_,hb,T.jw,T.eK,_,rfl,nS (.inl (.inl (.inl hB.33))) λp hp=>q p _ hp (ι.upd hp) Δ⟩
def wg:T.jh.O P w mg base 2 (HU (j9 a) a.Ϡ):=by
 walk_at "h ok jh M4 R c";obtain⟨A0,d,Z,X,rfl,hC,q⟩:=h
 show⟨_,(Τ (ϔ (nJ (ϳ K ϵ) T.jw T.rq.m (Gh T) (hr.mono "!") T.rq.b .nil ϋ))),?_⟩
 walk1
 obtain⟨dx,hc⟩:=hC.pH
 obtain⟨dxb,hb⟩:=hC.book.27
 show⟨_,dx,_,hc,T.ax,T.iR,_,Hm A0,_,rfl,dxb,_,hb,rfl,_,rfl,_,_,hC.91,λD H' hD s eD=>q D H' hD s eD⟩
def aa8:T.Yg.O P w mg base 22 (Sq K):=by
 walk_at "x ok Yg pj 2";obtain⟨p,ns,rfl,hS,hlen,q⟩:=h
 show⟨_,(Λ (Ϻ 1 pj (ϥ T.Ey (LU T) hr ϋ (aC (ϥ T.rG (wc T) hr ϋ (bC ϵ π)))))
   (Λ (Ϻ 2 pj (zx T.Qm (sX T) (hr.mono "!") rfl T.Ql T.mN.b .nil ϋ (aC (bP (ib) rfl T.iS ij (aC (ϓ K hr aw ο))))))
   (Λ (cQ ϡ rfl (aW (dR (fN) (ϓ K hr aw ο) gy (fo π))) (am (i:=3) pj.nd rfl (aP rfl)) (Τ (fZ (ϓ K hr (bj cO T.ax T.na (rL T) hr ϋ (aC fU)) π) (fY (ϓ K hr aw ο) fU (dS (tG hr))))))
   (Λ (cQ ϡ rfl (aW (dR (fN) ϵ (fo π) (fo π))) (am (i:=4) pj.nd rfl (aP rfl)) (Τ (ϣ (ϥ T.IF (QD T) hr ϋ (ϕ cO (bC aw (pv 4)))))))
   (Λ (Ϻ 5 pj (nJ cO T.ax T.jh.m (wg T) (hr.mono "!") T.jh.b .nil ϋ))
   (Λ (Ϻ 6 pj (bP (ib) rfl T.iS ij (aC (pv 5))))
   (Λ (aE (Ϯ (kI (hU hr)) (ϥ T.LC (Nb T) hr ϋ (ϕ (pv 6) (bC π (Ϲ (bF) (by rfl) T.fA cY (aC (ϓ K hr aw ο)))))) (ap eR) (aq _)) (Τ (ϔ qF)) ϭ)
   (Λ (Ϻ 7 pj (Ϲ (bF) (by rfl) T.fA cY (aC (ϓ K hr aw ο))))
   (Λ (cQ ϡ rfl (wz rfl T.v0 (aC (Ϲ (N3 rfl) (by rfl) T.aaV boot_min (bC π (pv 7))))) (am (i:=8) pj.nd rfl (aP rfl)) (Λ (Ϻ 9 pj (ϓ K hr (ϓ K hr aw ο) (av fm (av rY (ϥ T.bQ (bA T) hr ϋ (bC (ϥ T.rG (wc T) hr ϋ (bC ϵ π)) π)) (pv 8)) (pv 7))))
   (Τ (aE (iB (bc (ϥ T.Ew (LS T) hr ϋ (bC (ϥ T.LC (Nb T) hr ϋ (ϕ (pv 6) (bC (ϓ K hr (pv 9) π) (ϓ K hr (pv 9) π)))) (ϓ K hr (ϓ K hr aw ο) (pv 9)))) (by intro _;rfl))) (Τ (ϔ qF)) ϭ))))
   (Τ (ϔ (mv (cq (hU hr)) (pv 6) (pv 5) (aq _))))))))))))),?_⟩
 show SH λRz hRz=>?_
 walk1
 show⟨ns,hS,λr N H1 s1 fr nk cl=>?_⟩
 let ekd:H1 r.kd=!.dK (sI r 0):=cl (r.kd,.o (.dK (sI r 0))) (Β (i:=0) rfl)
 obtain⟨Xn,esl,tS⟩:bb H1 r.sl (N.xs.map l6.v):=cl (r.sl,.t (N.xs.map l6.v)) (Β (i:=2) rfl)
 show ϙ (dg ekd rfl) (nS (.inl (.inl (.inl esl))) λp2 xQ=>?_)
 let s2:=ι.upd (o:=.lst (Xn.map V.ref)) xQ
 let eL:bb (upd H1 p2 (.lst (Xn.map V.ref))) p2 (N.xs.map l6.v):=⟨Xn,Δ,tS.bO (A:=[]) (ϰ.of_same s2)⟩
 revert eL s2;generalize upd H1 p2 _=H2;intro s2 eL x dx hx Ez nd
 show⟨dx,N.xs,Δ,eL.same ((ι.upd Ez).trans (ι.upd (by rw[ν nd.17];show hx))),nk.ox,by rw[nk.x2];decide,λA0 Z0 H3 ls hA0 Ju c3 C3 hls=>⟨rfl,?_⟩⟩
 obtain⟨b,Yi,els⟩:=hls
 let s3:ι H2 H3:=iq hx Ez c3
 let YV:∀b∈A0.fix,H2 b=none:=λb hb=>by
  rcases Ju b hb with h | h
  ·rw[h];show hx
  ·show(dq h).1
 subst hA0
 let s13:=s2.trans s3
 let cl3:∀c∈UT r N,c.2.at' H3 c.1:=λc hc=>(cl c hc).same s13
 let o:=l8.start (CD:=a.Ϡ) (r:=r) (N:=N) C3 cl3 fr.nd (λb hb z=>by
  let e1:=YV b ((FA A0).mem_iff.mpr hb)
  rw[←sf (N:=N)] at z
  obtain⟨c,hc,rfl⟩:=μ.mp z
  obtain⟨y,e2⟩:=((cl c hc).same s2).77
  rw[e1] at e2;cases e2)
 let om:=o.om
 rw[hRz];clear hRz;show Ay λRz hRz=>?_
 walk1
 let Yo:=om.get (i:=1) (a:=r.nl) (C:=.o (.lst (.str (S N.n0)::.str (S N.n1)::N.36))) rfl
 let Yo:H3 r.nl=!(.lst (.str (S N.n0)::.str (S N.n1)::N.36)):=Yo
 let ajp:H3 r.kd=!.dK (sI r 0):=om.get (i:=0) (C:=.o (.dK (sI r 0))) rfl
 show ϙ (dg ajp rfl) (uk (.inl (.inl Yo)) λD hD=>?_)
 let ec:oP (.str (S N.n0)::.str (S N.n1)::N.36) none (some 2)=[.str (S N.n0),.str (S N.n1)]:=by unfold oP;rw[show HT.oO (V.str (S N.n0)::.str (S N.n1)::N.36).length (V.str (S N.n0)::.str (S N.n1)::N.36).length (some 2)=2 from (HT.rR _ _ 2).trans (fL (Vb 2 N.rest.4))];rfl
 rw[ec]
 let aeU:=o.off hD
 let s4:=ι.upd (o:=.lst [V.str (S N.n0),V.str (S N.n1)]) hD
 let eD:upd H3 D (.lst [V.str (S N.n0),V.str (S N.n1)]) D=!.lst [V.str (S N.n0),V.str (S N.n1)]:=Δ
 let om:=(o.same s4).om
 revert s4 eD om;generalize upd H3 D _=H4;intro s4 eD om
 generalize hMs:dH (aG N.xs N.xs.4) Fb=Ms at om o C3
 let one:∀{n H5 d Z X kvs cs},Om H4 MJ (UT r N) (j9 a) a.Ϡ H5 A0 d Z X cs->dj n->X.M.S.L (S n)=none->X.m.M.B (S n)=none->X.M.ls.4<=10->X.62<=10->cs[0]?=!(r.kd,.o (.dK (sI r 0)))->cs[6]?=!(r.ld,.o (.dK kvs))->kvs.4<=10->∀R:Hp->Prop,
   (∀H6 d' Z',Om H4 MJ (UT r N) (j9 a) a.Ϡ H6 A0 d' Z' ⟨X.t,{ (X.M.cr (S n)) with ls:=qT X.25 [.cr n 1] },X.m⟩ (cs.set 6 (r.ld,.o (.dK (putK kvs (.inr (S n)) (.int 1)))))->R H6)->
   ∃dx fs,H5 A0.c=!.ins a.cL dx fs/\gs (Κ "hail") fs=none/\xZ (j9 a) a.Ϡ [.ref A0.c,.str (S n)] H5 (λx4 H1=>u8 K x4 (.int 0) H1 λx5 H1=>u8 K (.ref r.kd) (.str (Κ "lives")) H1 λo H1=>Mt o (.str (S n)) x5 H1 R) E0:=by
  intro n H5 d Z X kvs cs o5 on hL hB hl hz h0 h6 hk R q
  obtain⟨dx,hc⟩:=o5.44
  show⟨dx,_,hc,rfl,A0,d,Z,X,n,1,rfl,o5.74,on,by rw[hL];rfl,"!",(),(),λv hv=>(by rw[hL] at hv;cases hv),.inl ⟨hB,λv H6 d' Z' c6 hd hz C6 ev=>?_⟩⟩
  let o6:=o5.pH (X':=⟨X.t,{ (X.M.cr (S n)) with ls:=qT X.25 [.cr n 1] },X.m⟩) c6 hd hz C6
  let e0:H6 r.kd=!.dK (sI r 0):=o6.get h0
  show dN (.inl (.inl ev)) (v:=.int 1) (bf "!" rfl) (ϙ (dg e0 rfl) (dG (jN.k (k:=.inr (S n)) (o6.get h6) (υ hk "!")) (q _ _ _ (o6.set h6 (C':=.o (.dK (putK kvs (.inr (S n)) (.int 1)))) (ϰ.upd ∅ (d9 (o6.get h6))) Δ))))
 letI X0:S5:=⟨0,⟨N.xs,Ms,xV,ls⟩,dm0⟩
 letI X1:S5:=⟨0,{ (X0.M.cr (S N.n0)) with ls:=qT ls [.cr N.n0 1] },dm0⟩
 letI X2:S5:=⟨0,{ (X1.M.cr (S N.n1)) with ls:=qT X1.25 [.cr N.n1 1] },dm0⟩
 show di (.inl (.inl eD)) (cy (xs:=[V.str (S N.n0),V.str (S N.n1)]) (λi σ H'=>(∃v3,σ=[!.ref p,!.ref r.kd,!.ref A0.c,v3,none,none,none,none,none,none])/\∃d Z,Om H4 MJ (UT r N) (j9 a) a.Ϡ H' A0 d Z ([X0,X1].getD i X2) ([UT r N,(UT r N).set 6 (r.ld,.o (.dK [(.inr (S N.n0),.int 1)]))].getD i (bD r N {m08 with l0:=1,l1:=1} [] []))) ⟨⟨none,rfl⟩,_,_,om⟩ (λi σ H' _ h=>?_) ?_ ?_)
 ·obtain⟨_,d,Z,o'⟩:=h
  show .inl (.inl (o'.kp D _ eD aeU.1 aeU.2).1)
 ·rintro i x σ H' hx ⟨⟨v3,rfl⟩,d,Z,o'⟩
  match i,hx with
  | 0,hx=>
   cases hx
   walk1
   show one (kvs:=[]) o' nk.o0 rfl rfl (by show ls.4<=10;rw[els,fJ,jq,gz];change 1<=10;decide) (by show 0<=10;decide) rfl rfl (by show 0<=10;decide) _ λH6 d' Z' o6=>⟨d',Z',o6⟩
  | 1,hx=>
   cases hx
   walk1
   let ne:¬S N.n1=S N.n0:=λz=>nk.ne (nO z).17
   show one (kvs:=[(.inr (S N.n0),.int 1)]) o' nk.o1 (Ψ ne) rfl ?_ (by show 1<=10;decide) rfl rfl (by show 1<=10;decide) _ λH6 d' Z' o6=>⟨d',Z',?_⟩
   ·show(qT ls [.cr N.n0 1]).4<=10
    unfold qT;rw[Ρ,jq,gz,els,fJ,jq,gz];change 1+1<=10;decide
   ·rw[nV (by simpa using ne)] at o6
    show o6
 ·rintro σ H' ⟨⟨v3,rfl⟩,d,Z,o'⟩
  let Na:∀o,H p=!o->H4 p=!o/\p∉A0.fx++fD A0 MJ/\p∉(UT r N).map ϝ:=λo5 e=>⟨s4 _ _ (s13 _ _ (s1 _ _ e)),(λz=>by
   let e1:=YV p ((FA A0).mem_iff.mpr z)
   rw[s2 _ _ (s1 _ _ e)] at e1;cases e1),λz=>by
   rw[sf] at z
   have:=fr.no p z;rw[e] at this;cases this⟩
  let hSp:fK K H' p (ns.map V.int):=fK.keep hS λo5 e=>(o'.kp p o5 (Na o5 e).1 (Na o5 e).2.1 (Na o5 e).2.2).1
  let li:=((WI.start (X:=X0) Yi (els.trans (fJ _))).wr (X':=X1) (es:=[.cr N.n0 1]) rfl "!" ∅ ∅ (λe he=>by rw[Ζ.mp he];show kD nk.o0 "!")).wr (X':=X2) (es:=[.cr N.n1 1]) rfl "!" ∅ ∅ (λe he=>by rw[Ζ.mp he];show kD nk.o1 "!")
  let pu:=(Pu.start (ls:=ls) (Ms:=Ms) nk hMs.17).lsn (L:=qT X1.25 [.cr N.n1 1])
  let al:WK (j9 a) a.Ϡ H' A0 d Z X2 r N {m08 with l0:=1,l1:=1} [] [] _ [.cr N.n0 1,.cr N.n1 1] 2:=⟨o'.ob,nk,pu,li,rfl,rfl⟩
  change Rz _ _ _
  rw[hRz];clear hRz;show Ay λRz hRz=>?_
  walk1
  show uk hSp λD2 Jg=>?_
  obtain⟨L,eL,ajq⟩:∃L:-Int,oP (ns.map V.int) (some 2) (some 32)=L.map V.int/\L.4<=30:=by
   unfold oP
   rw[←List.map_drop,←List.map_take]
   show⟨_,rfl,?_⟩
   rw[af,show HT.oO (ns.map V.int).length (ns.map V.int).length (some 32)=min 32 (ns.map V.int).4 from HT.rR _ _ 32,show HT.oO (ns.map V.int).length 0 (some 2)=min 2 (ns.map V.int).4 from HT.rR _ _ 2]
   lk
  rw[eL]
  let Yp:=o'.ob.off Jg
  let s5:=ι.upd (o:=.lst (L.map V.int)) Jg
  let eD2:upd H' D2 (.lst (L.map V.int)) D2=!.lst (L.map V.int):=Δ
  let al5:WK (j9 a) a.Ϡ _ A0 d Z X2 r N {m08 with l0:=1,l1:=1} [] [] _ [.cr N.n0 1,.cr N.n1 1] 2:=⟨al.ob.same s5,al.nk,al.pu,al.li,rfl,rfl⟩
  let kp5:=((o'.same s5).kp)
  revert s5 eD2 al5 kp5;generalize upd H' D2 _=H5;intro s5 eD2 al5 kp5
  show di (.inl (.inl eD2)) (cy (xs:=L.map V.int) (λi σ H6=>(∃v4,σ=[!.ref p,!.ref r.kd,!.ref A0.c,v3,v4,none,none,none,none,none])/\∃d6 Z6 X6 m6 Ur Yq bs6 E6,WK (j9 a) a.Ϡ H6 A0 d6 Z6 X6 r N m6 Ur Yq bs6 E6 (2+i)/\Kp8 H5 A0 d (bD r N {m08 with l0:=1,l1:=1} [] []) H6 d6 (bD r N m6 Ur Yq)) ⟨⟨none,rfl⟩,_,_,_,_,_,_,_,_,al5,λ_ _ e n1 n2=>⟨e,n1,n2⟩⟩ (λi σ H6 _ h=>?_) ?_ ?_)
  ·obtain⟨_,d6,Z6,X6,m6,Ur,Yq,bs6,E6,_,k6⟩:=h
   show .inl (.inl (k6 D2 _ eD2 Yp.1 Yp.2).1)
  ·rintro i x σ H6 hx ⟨⟨v4,rfl⟩,d6,Z6,X6,m6,Ur,Yq,bs6,E6,Gi,k6⟩
   let hi:=(Α.mp hx).1
   rw[Η] at hi
   rw[Ξ] at hx
   obtain⟨c,_,rfl⟩:=χ.mp hx
   walk1
   show⟨A0,d6,Z6,X6,r,N,m6,Ur,Yq,bs6,E6,2+i,rfl,rfl,Gi,(),λH7 d7 Z7 X7 m7 ts7 ss7 bs7 E7 al7 k7=>⟨d7,Z7,X7,m7,ts7,ss7,⟨bs7,E7,al7⟩,λa1 o1 e n1 n2=>let ⟨h1,h2,h3⟩:=k6 a1 o1 e n1 n2;k7 a1 o1 h1 h2 h3⟩⟩
  ·rintro σ H6 ⟨⟨v4,rfl⟩,d6,Z6,X6,m6,Ur,Yq,bs6,E6,Gi,k6⟩
   rw[hRz];clear hRz
   show ZX λRz hRz=>?_
   walk1
   obtain⟨Dr,hc⟩:=Gi.44
   show⟨Dr,_,hc,rfl,A0,d6,Z6,X6,rfl,Gi.74,λD3 H7 hD3 s7 e7=>nS (.inl (.inl (.inl e7))) λD4 hD4=>?_⟩
   let s8:=ι.upd (o:=.lst (tx X6.25)) hD4
   let e8:upd H7 D4 (.lst (tx X6.25)) D4=!.lst (tx X6.25):=Δ
   let e7:=s8 _ _ e7
   let s68:=s7.trans s8
   revert s8 e8 e7 s68;generalize upd H7 D4 _=H8;intro s8 e8 e7 s68
   let ob8:=Gi.ob.same s68
   rw[Gi.li.ls] at e7 e8
   rw[hRz];clear hRz;show Ay λRz hRz=>?_
   walk1
   let gk8:∀{H' x v},l8 (j9 a) a.Ϡ H' A0 d6 Z6 X6 (bD r N m6 Ur Yq)->a8 (sI r m6.t) (.inr (Κ x))=!v->bH H' r.kd (.str (Κ x)) (!v):=λ{H' x v} o1 e=>e▸bH.k (k:=.inr (Κ x)) (o1.get (i:=0) rfl)
   let len:∀{H' R},l8 (j9 a) a.Ϡ H' A0 d6 Z6 X6 (bD r N m6 Ur Yq)->R (.int (m6.W.4:Int)) H'->u8 K (.ref r.kd) (.str (Κ "order")) H' λx H1=>NY K [x] H1 R:=by
    intro H' R o1 q
    obtain⟨tso,eo,tO⟩:bb H' r.od (m6.W.map λ(w:Wt×-(-V))=>mV w.1.sp):=o1.get (i:=4) rfl
    show ϙ (gk8 o1 (x:="order") rfl) (iD (.inl (.inl eo)) ?_)
    rw[Η,tO.4,Η];show q
   show len ob8 ⟨bs6,E6,e8,Gi.li.lg,λD5 H9 hD5 s9 hL=>?_⟩
   rw[WN Gi.pu] at hL
   obtain⟨t5,e5,z5⟩:=hL
   cases z5
   show⟨"!",λp10 aju=>?_⟩
   let UK:=ι.upd (o:=.lst []) aju
   show DQ (n:=1) (d:=.list []) (.lst (.inl (.inl (UK _ _ e5))) .nil) (.lst (.inl (.inl Δ)) .nil) (Mx (n:=0) (λ_ z=>nomatch z)) rfl ⟨false,rfl,?_⟩
   rw[Ψ "!"]
   let s90:=s9.trans UK
   let s60:=s68.trans s90
   generalize upd H9 p10 _=UL at s90 s60 ⊢
   let ajw:fK K UL p (ns.map V.int):=fK.keep hS λo5 e=>let ⟨h1,h2,h3⟩:=kp5 p o5 (Na o5 e).1 (Na o5 e).2.1 (Na o5 e).2.2;s60 _ _ (k6 p o5 h1 h2 h3).1
   let aeV:=Gi.ob.same s60
   let e8:=s90 _ _ e8
   let e7:=s90 _ _ e7
   rw[hRz];clear hRz;show Ay λRz hRz=>?_
   walk1
   show len aeV ?_
   rw[hRz];clear hRz;show Ay λRz hRz=>?_
   walk1
   let aoo:m6.W.4<=100:=by let h:=Gi.pu.wl;rw[Η] at h;lk
   show⟨(),(),Ar (λi σ VH=>(∃v8 v9,σ=[!.ref p,!.ref r.kd,!.ref A0.c,v3,v4,!.ref D3,!.ref D4,!(.int (m6.W.4:Int)),v8,v9])/\ι UL VH) ⟨⟨none,none,rfl⟩,ι.refl _⟩ ?_ ?_⟩
   ·rintro i σ VH hi ⟨⟨v8,v9,rfl⟩,XC⟩
    let hi:i < m6.W.4:=by lk
    rw[abn]
    let aa':=aeV.same XC
    walk_at "c1"
    obtain⟨tso,eo,tO⟩:bb VH r.od (m6.W.map λ(w:Wt×-(-V))=>mV w.1.sp):=aa'.get (i:=4) rfl
    show ϙ (gk8 aa' (x:="order") rfl) ?_
    show⟨ns,XC.seq ajw,.inr ⟨(),()⟩,(),?_⟩
    obtain⟨j,ej,hj⟩:∃j:Nat,ef (ns.getD 1 0) 6*(i:Int)%(m6.W.4:Int)=(j:Int)/\j < m6.W.4:=by
     let h1:=kx (ef (ns.getD 1 0) 6*(i:Int)) (show (m6.W.4:Int)≠0 by lk)
     let h2:=iz (ef (ns.getD 1 0) 6*(i:Int)) (show 0 < (m6.W.4:Int) by lk)
     show⟨_,(Int.toNat_of_nonneg h1).17,()⟩
    rw[ej]
    let hw:m6.W[j]?=!m6.W[j]'hj:=Ε hj
    generalize m6.W[j]'hj=w0 at hw
    let ht:Ur[j]?=!(Ur[j]'(by rw[Gi.lt];show hj)):=Ε _
    generalize Ur[j]'_=tj at ht
    let lo:=tO.4
    let go:tso[j]?=!(tso[j]'(by rw[lo,Η];show hj)):=Ε _
    generalize tso[j]'_=u at go
    obtain⟨xs,hx,eu⟩:=tO.get go
    rw[Ξ,hw] at hx;cases hx
    show dh (.inl (.inl eo)) (v:=.ref u) (u5 (by rw[Ξ,go];rfl)) ?_
    change Rz _ _ _
    walk_at "ls"
    show dN (.inl (.inl eu)) (v:=.int w0.1.i) (bf "!" rfl) (dN (.inl (.inl eu)) (v:=.int w0.1.pl) (bf "!" rfl) ?_)
    show⟨bs6,E6,XC _ _ e8,Gi.li.lg,λD12 H12 aop W6 hL=>?_⟩
    rw[WO Gi.pu (Β hw)] at hL
    let aba:=aa'.same W6
    show ϙ (gk8 aba (x:="tales") rfl) ?_
    let mw:=Β hw
    let CN:(L.map V.int).4<=30:=by rw[Η];show ajq
    let e12:H12 u=!.tup (w0.1.key.map kV):=W6 _ _ eu
    show ϙ (MP (Gi.pu.mk8 () Gi.lt Gi.ls).1 hw ht▸bH.t (k:=w0.1.85) (aba.get (i:=3) rfl) e12) ?_
    show⟨w0.2,hL,aba.get (Tj hw ht),by have:=Gi.pu.tb w0 mw;lk,Gi.pu.tp w0 mw,λH13 s13=>⟨true,by rw[ZO],by rw[Ψ "!"];show XC.trans (W6.trans s13)⟩⟩
   ·rintro σ VH ⟨⟨v8,v9,rfl⟩,XC⟩
    change Rz _ _ _
    rw[hRz]
    walk1
    show N5 (n:=1) (.lst (.inl (.inl (XC _ _ e8))) (wZ _)) (.lst (.inl (.inl (XC _ _ e7))) (wZ _)) (Mx λd hd=>by
     obtain⟨b,hb,rfl⟩:=μ.mp hd
     show Ss 0 (MW (λb hb=>(Gi.li.lg.sg b hb).1) b hb)) rfl (q _)
end
end K81
end Lake
end
open PySem PySem.W PyProof.Rows Lake
open Lean in
local macro_rules | `(tactic| refine' $s:str $xs*)=>do
 let mut n:=0
 let mut q:=0
 let mut o:Array (TSyntax `term):=#[]
 let mut l:=s.getString.toList
 let K:=mkIdent `KX
 let G:=mkIdent `G
 while l≠[] do
  let c:=l.headD 'x'
  l:=l.drop 1
  let d:=l.headD 'x'
  let e<-match d with
  | '1'=>`(L2.el1 λ_=>rfl)
  | '2'=>`(L2.el2 λ_ _=>rfl)
  | '3'=>`(L2.el3 λ_ _ _=>rfl)
  | '4'=>`(L2.Wf λ_ _ _ _=>rfl)
  | '5'=>`(L2.el5 λ_ _ _ _ _=>rfl)
  | _=>`(L2.el7 λ_ _ _ _ _ _ _=>rfl)
  let H:=(aU 6).map λi=>(⟨mkNode `Lean.Parser.Term.syntheticHole #[mkAtom "?",mkIdent (.mkSimple s!"g{n+i}")]⟩:TSyntax `term)
  n:=n+6
  let h (i:Nat):=H.getD i K
  if "abj".toList.contains c then l:=l.drop 1
  o:=o.push (<-match c with
  | 'h'=>pure (h 0)
  | 'q'=>`(⟨$(h 0),$(h 1),$(h 2),$(h 3)⟩)
  | 's'=>`(⟨$(h 0),$(h 1),$(h 2),$(h 3),$(h 4),$(h 5)⟩)
  | 'n'=>`(W.mg_none_of $K $G $(h 0))
  | 'm'=>`(zn $K $G $(h 0))
  | 'B'=>`(L2.aed (zn $K $G $(h 0)))
  | 'a'=>`(L2.aeb $K $G $(h 0) $(h 1) $(h 2) $(h 3) (λ_ _ _ _ _ _=>$e))
  | 'b'=>`(L2.aea $(h 0) $(h 1) $(h 2) $(h 3) $(h 4) (λ_ _ _ _ _ _=>$e))
  | 'j'=>`(L2.ad' $(h 0) $(h 1) $(h 2) (λ_ _ _ _ _ _=>$e))
  | _=>pure (xs.getD q K))
  if c='@' then q:=q+1
 let t<-`(⟨.mk,⟨$o,*⟩⟩)
 let mut c:Array (TSyntax `tactic):=#[]
 let mut S:=#[]
 for x in t.raw.topDown do
  if x.isOfKind `Lean.Parser.Term.syntheticHole then
   let y:=x[1].getId
   let i:TSyntax `Lean.Parser.Tactic.caseArg:=⟨mkNode `Lean.Parser.Tactic.caseArg #[mkNode `Lean.binderIdent #[x[1]],mkNullNode]⟩
   unless S.contains y do
    S:=S.push y
    c:=c.push (<-match y.toString.front with
    | 'r'=>`(tactic| case $i=>(try dsimp only);show _=_;as_aux_lemma=>kernel_rfl)
    | 's'=>`(tactic| case $i=>repeat (first | exact L2.kj.nil | refine L2.kj.cons ?_))
    | 'e'=>`(tactic| case $i=>rfl)
    | _=>`(tactic| case $i=>(try dsimp only);show _=_;as_aux_lemma=>k_is))
 `(tactic| (refine' $t;$[$c];*))
set_option maxHeartbeats 0 in
theorem PySem.Challenge.cw_lettercell_k81_tales_of_deeds_holds : PySem.Challenge.rw_lettercell_k81_tales_of_deeds.Holds := by
 refine hdW.2 ?_
 dsimp only[hdW]
 k_fill
 refine K81.walk (l:=PySem.Challenge.rw_lettercell_k81_tales_of_deeds) rfl rfl (λw h Y=>W.kIn_of Y) ?F
 case F=>
  intro w mg fa h KX G hmg
  have T:∃t,K81.Txt w (L2.KOf KX) mg t:=by
   dsimp only[L2.KOf]
   refine' "mmmmmmmmmqqqqqqqqqa1a1a1a1a1a2a2j1b2b1a2a1a1a1a1a1a1a2a2a2a1a1a1a2a2a2a2a2a2a2a1a3a3a1a3a3a3a1a1a1a1a3a1a2a1a1a2a3a2a7a4a3a3a2j3j1b2b1b3b2b2b2b4b3b2b2b2j1@@@@@b2a1a1a1j2b1b1b2b3j1b2b2b3b3b5b2b2j1j2j2b2b2@@@@@@@@@@@@b3b3b2b1a2a2a1a2a2a3a4a4a3a1a1qhhhqhhhhqhhhhhqhhqhhqhhhhhhhqhhqhqhnnnnnnnnnnnnnnnnB@BB@BB@BBBB@BB@@@@@@@" ⟨?h1,?h2,?h3⟩ (L2.jp (items:=[L2.iT 0]) ?h4 ?h5 ?h3 ?h6) (L2.um.binds [] 4 rfl (L2.jp (items:=[L2.iT 0]) ?h4 ?h5 ?h3 ?h6) (λ_ _ _ _ _ _ _=>(L2.Wf λ_ _ _ _=>⟨_,rfl,rfl⟩))) (L2.um.binds [L2.iT 0] 3 rfl (L2.jp (items:=[L2.iT 0]) ?h4 ?h5 ?h3 ?h6) (λ_ _ _ _ _ _ _=>(L2.el3 λ_ _ _=>⟨_,rfl,rfl⟩))) (.cons L2.i3 .nil) ⟨?h7,?h8,?h9⟩ (L2.jp (items:=[.none,L2.iT 0]) ?h10 ?h11 ?h9 ?h12) (L2.um.binds [] 8 rfl (L2.jp (items:=[.none,L2.iT 0]) ?h10 ?h11 ?h9 ?h12) (λ_ _ _ _ _ _ _=>(L2.el8 λ_ _ _ _ _ _ _ _=>⟨_,rfl,rfl⟩))) (L2.um.binds [L2.iT 0] 7 rfl (L2.jp (items:=[.none,L2.iT 0]) ?h10 ?h11 ?h9 ?h12) (λ_ _ _ _ _ _ _=>(L2.el7 λ_ _ _ _ _ _ _=>⟨_,rfl,rfl⟩))) (.cons L2.i3 .nil) (L2.um.binds [.none,L2.iT 0] 6 rfl (L2.jp (items:=[.none,L2.iT 0]) ?h10 ?h11 ?h9 ?h12) (λ_ _ _ _ _ _ _=>(L2.el6 λ_ _ _ _ _ _=>⟨_,rfl,rfl⟩))) (.cons rfl (.cons L2.i3 .nil)) ⟨?h13,?h14,?h15⟩ (L2.jp (items:=[L2.iT 10]) ?h16 ?h17 ?h15 ?h18) (L2.um.binds [] 4 rfl (L2.jp (items:=[L2.iT 10]) ?h16 ?h17 ?h15 ?h18) (λ_ _ _ _ _ _ _=>(L2.Wf λ_ _ _ _=>⟨_,rfl,rfl⟩))) (L2.um.binds [L2.iT 10] 3 rfl (L2.jp (items:=[L2.iT 10]) ?h16 ?h17 ?h15 ?h18) (λ_ _ _ _ _ _ _=>(L2.el3 λ_ _ _=>⟨_,rfl,rfl⟩))) (.cons L2.i3 .nil) (L2.X5 (zn KX G ?h20) ?h21 ?s22 (L2.dO ?e23 rfl (L2.dO ?e24 rfl (L2.dO ?e25 rfl (L2.dO ?e26 rfl (L2.dO ?e27 rfl (L2.dO ?e28 rfl L2.Hh))))))) (L2.X8 (zn KX G ?h31) (.cons L2.i3 (.cons L2.i3 .nil)) (show 2<=PySem.sizeLine by decide) ?h32) (L2.X5 (zn KX G ?h35) ?h36 ?s37 (L2.dO ?e38 rfl (L2.dO ?e39 rfl (L2.dO ?e40 rfl (L2.dO ?e41 rfl (L2.dO ?e42 rfl (L2.dO ?e43 rfl L2.Hh))))))) (L2.X8 (zn KX G ?h48) (.cons L2.i3 (.cons L2.i3 (.cons L2.i3 (.cons L2.i3 (.cons L2.i3 (.cons L2.i3 .nil)))))) (show 6<=PySem.sizeLine by decide) ?h49) (λ_ _=>.of_eq rfl) (L2.uv (.cons L2.i3 .nil) (show 1<=PySem.sizeLine by decide) ?h52) (L2.uv (.cons L2.i3 .nil) (show 1<=PySem.sizeLine by decide) ?h53) (L2.uv (.cons L2.i3 .nil) (show 1<=PySem.sizeLine by decide) ?h54) (L2.uv (.cons L2.i3 (.cons L2.i3 (.cons L2.i3 .nil))) (show 3<=PySem.sizeLine by decide) ?h55) (L2.uv (.cons L2.i3 (.cons L2.i3 (.cons L2.i3 (.cons L2.i3 (.cons L2.i3 (.cons L2.i3 (.cons L2.i3 .nil))))))) (show 7<=PySem.sizeLine by decide) ?h56) (L2.uv (.cons L2.i3 (.cons L2.i3 .nil)) (show 2<=PySem.sizeLine by decide) ?h57)
  obtain⟨t,T⟩:=T
  have e0:=hmg.symm.trans T.Yg.m
  cases e0
  exact⟨_,T.K0,λbase kb nb=>K81.aa8 T⟩
#print axioms PySem.Challenge.cw_lettercell_k81_tales_of_deeds_holds
