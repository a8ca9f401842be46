import PyProof.Rows.All
import Wide.All
import OpenK.AllK
import Wide.FinOn
import Lean
import PyProof.EqAt
import PyProof.EqKinds
import PyProof.TupleCall
import PyProof.NeKinds
import KE.KEqDict
import KE.KDictSum
import PyProof.Rows.StrMul
import PyProof.Rows.SortStr
import PyProof.Rows.SortWalk
import KE.KSortTup
import PyProof.IsiH_list
import KE.KDictOf
import KE.KItemsList
import PyProof.SetKind
import PyProof.Rows.SetFrom
import PyProof.IsRules
import PyProof.EnumStmt
import PyProof.EnumFor
import PyProof.EnumMake
import PyProof.Rows.StrJoin2
import KE.KDictList
import PyProof.ZipIter
import PyProof.DictCompW
import PyProof.DictUpdate
import PyProof.FactsAll.set_2
import KE.KSetDisp
import PyProof.Rows.StrNews2
import PyProof.StrCalls
import KE.KIntText
import PyProof.StrLawsLast
import PyProof.Rows.StrCut
import PyProof.ExcInit
import PyProof.TupleKey
import PyProof.ListIndex
import PyProof.StrLawsChain
import PyProof.StrLawsOcc
import Wide.Txt
import PyProof.CallType
import PyProof.Rows.CallKwBuiltin
import PySem.Challenge.RW_outlineward_k25_whole_texts_refused
set_option Elab.async false
set_option linter.all false
set_option maxRecDepth 100000
set_option maxHeartbeats 4000000
local macro_rules | `(tactic| omega) => `(tactic| first | lia | omega +splitNatSub)
def PK:=@of_decide_eq_true
def PL:=@decide_eq_true
def PM:=@decide_eq_false
def PN:=@if_neg
def PP:=@if_pos
def PQ:=@beq_eq_false_iff_ne
def PR:=@congrArg
open _root_.Array renaming toList_append->ur,length_toList->Aw,all_toList->Ax,getElem?_eq_some_iff->Fp,getElem?_eq_getElem->Fq,toList_inj->PB,toList->PC,size_push->PD,getElem?_toList->PF,getD->PH,any_toList->PJ
open _root_.Bool renaming false_ne_true->aU,and_eq_true->bg,eq_iff_iff->dZ,not_eq_true'->fG,true_and->gk,not_eq_true->q_,false_and->ra,false_or->uq,or_eq_true->Au,and_true->Av,or_false->Fl,not_false->Fm,or_true->Pt,eq_false_iff->Pu,and_assoc->Py
open _root_.Char renaming toNat->n8
open _root_.False renaming elim->db
open _root_.Int renaming toNat_natCast->dk,zero_add->uk,emod_nonneg->ul,emod_lt_of_pos->um,add_zero->Pr
open _root_.List renaming length_map->av,length_append->az,mem_cons->aA,mem_cons_of_mem->aH,mem_cons_self->aJ,mem_append->aL,length_cons->aM,getElem?_eq_getElem->aP,replicate->aS,mem_singleton->aZ,map_append->bj,map_cons->bn,append_assoc->bq,append_nil->bE,nodup_cons->bM,getElem?_map->bP,size_toArray->bQ,mem_append_right->bV,length_take->cq,Nodup->cv,mem_append_left->cB,getElem_mem->cH,cons_append->cJ,length_nil->cZ,all_eq_true->c_,getElem?_eq_some_iff->dY,lookup->eE,length_drop->eF,getD_eq_getElem?_getD->eI,drop_drop->eW,all_cons->eX,not_mem_nil->fC,mem_map->fD,length->fE,filterMap_cons->fF,mem_of_mem_drop->gh,lookup_cons->gj,take_succ->gI,mem_of_getElem?->gJ,take_of_length_le->ip,take_length->iq,range->ir,find?_cons->iu,replicate_succ->iZ,map_take->i3,lookup_cons_self->i4,flatMap_cons->ma,nodup_nil->nT,nodup_append->nU,isPrefixOf->nV,filter_cons->nX,drop_left->nY,any_cons->nZ,mem_filter->pV,length_pos_iff->pW,isPrefixOf_iff_prefix->pX,getElem?_append_right->pY,forIn_cons->pZ,drop_zero->p0,drop_of_length_le->p_,reverse_cons->tY,nil_append->tZ,mem_range->t0,mem_of_getLast?->t_,length_replicate->ua,length_range->ub,length_eq_zero_iff->uc,getLast_mem->ue,getLast?_eq_some_getLast->uf,getElem?_append_left->ug,drop_one->uh,dropWhile_cons->ui,contains_iff_mem->uj,sum_cons->Ai,getLastD_eq_getLast?->Aj,getLast?_append->Ak,getElem_of_mem->Al,getElem?_set_self->Am,getElem?_set_ne->An,getElem?_eq_none->Ao,flatten_cons->Ap,flatMap_append->Aq,eq_of_mem_replicate->Ar,drop_eq_getElem_cons->At,take_append_drop->E5,reverse_reverse->E6,replicate_append_replicate->E7,range'->E8,of_mem_zip->E9,mem_map_of_mem->E_,mem_flatMap->Fa,map_nil->Fb,map->Fc,length_reverse->Fd,isSuffixOf_iff_suffix->Fe,foldl->Ff,filter_append->Fg,exists_cons_of_length_pos->Fh,dropLast_concat->Fi,drop->Fj,contains_cons->Fk,take_left->OQ,takeWhile_prefix->OR,takeWhile_cons->OS,takeWhile_append_dropWhile->OT,tail_cons->OV,reverse_replicate->OW,reverse_append->OX,replicate_zero->OY,range_succ->OZ,prefix_iff_eq_take->O0,prefix_append->O1,pairwise_lt_range'->O2,pairwise_cons->O3,mem_range'->O4,mem_filterMap->O5,map_map->O6,map_drop->O7,length_filter_le->O8,length_dropLast->O9,isEmpty_eq_false_iff->O_,isEmpty->Pa,getLast?_eq_getElem?->Pb,getElem?_drop->Pd,getElem?_cons_succ->Pe,forIn_nil->Pf,filter_nil->Pg,eraseIdxIfInBounds_toArray->Ph,dropWhile_sublist->Pi,append_eq_append_iff->Pk,any_eq_false->Pm,all_takeWhile->Po
open _root_.List.cons renaming inj->md
open _root_.Nat renaming le_trans->aw,le_refl->aK,add_le_add->bD,ne_of_lt->bU,lt_of_lt_of_le->bY,zero_le->cn,le_of_lt->cP,min_eq_left->fz,le_succ_of_le->fA,le_succ->fB,lt_or_ge->gf,succ_le_succ->iX,lt_irrefl->iY,lt_trans->l_,zero_add->nR,add_sub_cancel->nS,min_eq_right->pU,toDigits->tU,not_lt_zero->tW,mod_lt->tX,succ_mul->Ab,sub_zero->Ac,not_lt->Ad,lt_of_succ_lt_succ->Ae,lt_of_le_of_lt->Af,add_le_add_right->Ag,add_comm->Ah,ne_of_gt->EW,lt_succ_self->EX,lt_succ_of_le->EY,log2_lt->EZ,le_total->E1,le_of_eq->E3,add_zero->E4,zero_lt_one->OH,toList_repr->OI,sub_add_cancel->OJ,mul_le_mul_right->OL,lt_succ_iff_lt_or_eq->OM,length_toDigits_le_iff->ON,eq_zero_or_pos->OO,add_assoc->OP
open _root_.Nat.succ renaming inj->tV
open _root_.Ne renaming symm->cj
open _root_.Option renaming isSome_iff_exists->pT,map_eq_some_iff->tT,map_some->z_,map_map->Aa,isSome->EV,map_none->OE,isNone_iff_eq_none->OF,getD_none->OG
open _root_.Option.some renaming inj->dz
open _root_.PyProof.Rows renaming AllBare->io,IntsAre->tR,subscriptTail->EO,envOfC->EQ,callWith_type1->ER,Subscript_->ET,subscriptTail_builtinR->Ow,slot_str_getitem->Ox
open _root_.PySem renaming Addr->ac,Value->ae,Shared->af,Expr->aj,Heap->ak,wpAny->am,wpAny_bind->aq,model->au,World->ax,Stmt->ay,Program->aC,FuncData->aE,sizeLine->aF,Around->aN,wpAny_pure->aO,starEach->aX,mainGlobals->ba,wpAny_mono->bz,Scope->ce,backTo->cG,bootBuiltins->cO,Model->dj,compareOp->dy,sysModules->fk,rawInt->fq,wpAny_field->fX,noteFrame->fY,NameKind->ge,swapsWith->gC,call_meets->gD,binaryOp->gE,IsEnum->gG,wpAny_holding->ic,codeAny->ie,wpAny_Call_Name_kw->iR,setFlight->iS,foldedSetIterable->iT,SetTable->iV,wpAny_standAt->lO,wpAny_call->lP,typeIs_str->lQ,mem_of_lookup->lR,codeAny_mono->lS,attributeBase->lT,wpAny_passesOwn->nk,wpAny_loadPart_at->nn,valueAt->nq,sliceBounds->nu,sizeLine_eq->nv,pyNext->ny,excClassObj->nA,codeAny_call_builtin->nB,callerA->nC,Params->nM,GenState->nN,wpAny_truthy_bool->pC,wpAny_execs_nil->pD,getItem->pE,assignEach->pF,OwnTail->pJ,BindsTo->pS,wpAny_setField_rec->sT,typeOf->sU,tupleKind->sV,setField->sW,newList->sY,keywordEach->sZ,isInstance->s_,getAttr->tj,callWith->tm,behindInMarks->tq,backToKw->tu,Result->tM,OsState->tN,wpAny_typeOf_ref->xB,wpAny_pyIter_list->xC,wpAny_isSubtype_exc->xD,standAt->xE,seqIndex?->xF,onTheHeap->xG,letOwnedTupleGo->xH,frameOf->xI,compPost->xK,callSpecial?->xL,Within->xM,PlainAttrs->xV,PassesOwn->xW,Keyword->xY,IsEnumOut->xZ,ExcBaseFacts->x_,wpAny_setFlight_noneW->DM,wpAny_setField->DN,wpAny_loadPart->DO,wpAny_execs_cons->DP,wpAny_attempt->DQ,wpAny_assign_Name->DR,wpAny_Name->DS,typeLookup->DT,typeIs_int->DU,seqIndex_of->DX,refuseLoop->DY,firstIterPos->D3,checkBuiltinCall->D5,cellsFrom->D8,call->Ea,builtinsNs->Eb,DictEntry->EF,wpAny_pyIter_enum->MF,wpAny_noteFrame_onW->MI,wpAny_newObj_type->MJ,wpAny_lookBehind->MM,wpAny_call_entry->MO,wpAny_callSpecial?_slot->MP,wpAny_FormattedValue_plain->MQ,unbindBehindTheSuite->MS,tupleKind_room_in1->MU,slot_list_getitem->MZ,plainObj_wpAny_Assign_Attribute->M7,pastItsLine_dict->M9,passOn->M_,exec_Assign_Name_used->Nm
open _root_.PySem.Around renaming under->EN,units->Ou
open _root_.PySem.Builtin.List renaming listTooLong->EM
open _root_.PySem.Builtin.SmallTypes renaming ownedTupleIsFree->Oq,ownedTupleHandOut->Os
open _root_.PySem.Builtin.Str renaming strSub->nQ,strSliceIndices->EK,occurrences->EL
open _root_.PySem.Calls renaming evalArgs_plain->EI,callWith_builtin->EJ,Name_function_global->Oo
open _root_.PySem.Challenge renaming rw_outlineward_k25_whole_texts_refused->On
open _root_.PySem.Code renaming quiet_builtin->y_,isFrame->EH,frames->Om
open _root_.PySem.EntryCells renaming newEntry->Ol
open _root_.PySem.Env renaming scope->gH
open _root_.PySem.F renaming plainAttrs_str->bi,plainAttrs_list->bL,type_list_append->cf,slot_list_append->cg,slot_str_split->iW,slot_str_partition->lY,excBase_ValueError->lZ,type_str_partition->nO,type_str_strip->pM,type_str_split->pN,type_str_join->pO,slot_str_strip->pP,slot_str_join->pQ,slot_list_pop->pR,type_list_pop->x6,slot_enumerate_next->x8,attr_ValueError->x9,type_str_startswith->Ez,slot_str_startswith->EA,slot_str_rpartition->EB,entry_str_split->EC,called_enumerate->ED,args_str_split_2->EE,type_str_rpartition->N_,type_str_isascii->Oa,type_str_endswith->Ob,slot_str_isascii->Oc,slot_str_endswith->Od,slot_int_rmul->Oe,slot_dict_getitem->Of,entry_list_pop->Og,entry_enumerate_next->Oh,entry_bexc_ga->Oi,args_enumerate_next_1->Oj
open _root_.PySem.Heap renaming lt_size->aY,get?_push_of_some->bu,get?_push_size->dU,SameBut->dX,size_push->pK,get?_update_other->pL,get?_update_self->tQ,get?_push_at->Ex,get?->Ey,get?_update_ne->N6
open _root_.PySem.Heap.Ns1 renaming of_empty->N8
open _root_.PySem.Heap.SameBut renaming refl->N7
open _root_.PySem.NumText renaming digitsVal->N2
open _root_.PySem.Obj renaming mapSeq->tO,mapFields->tP,data_mapFields->N1
open _root_.PySem.OwnTail renaming hasType->Ev
open _root_.PySem.Paired renaming length->xX,snoc->N0
open _root_.PySem.PassesOwn renaming never->il
open _root_.PySem.Pos renaming line->ik,endLine->Eu
open _root_.PySem.PyData renaming keyHash->fv
open _root_.PySem.Scope renaming names->tL
open _root_.PySem.Sem renaming wp->ij
open _root_.PySem.SeqAt renaming EqAt->dR
open _root_.PySem.SeqAt.EqAt renaming str_str->NV,str_int->NW,int_str->NX
open _root_.PySem.SetTable renaming leap->nJ,Probe->nK,runEnd->xU,advance->NU
open _root_.PySem.Str renaming ofString->aa,empty->bC,length_append->bK,join->cA,length->pI,cps_append->tJ,append_assoc->tK
open _root_.PySem.StrLaws renaming occBody->nI,glued_eq_join->pG,partsFrom->NQ,join_split->NT
open _root_.PySem.Txt renaming isascii->fu,join->gb,mul->ii,islower->nG,isalpha->nH,rpartition->tF,partition->tH,isdigit->xT,stripChars->Ep,startswith->Er,endswith->Es
open _root_.PySem.Unicode renaming isAlpha->xS,isUpper->En,isTitle->Eo,isLower->NO,isDigit->NP
open _root_.PySem.Value renaming isStrOf->tE,isInt->NN
open _root_.PySem.W renaming Frag->ao,mg_of->bv,findIn->bA,nsIn->bJ,keepIn->di,mg_none_of->dQ,kitOne->fZ,hideAll->f_,kia_one->gF,fnOf->ig,emptyDict->iU,mroIn->lU,instObj->lV,codeIn->lX,typeIn->nE,hasDictIn->nF,plainGet->tx,of_hideAll->tz,hideAll_none->tD,plainOver->xP,makesIn->xQ,callWith_K->xR,takerIn->Ed,readsIn->Ee,methodObj->Ef,looks_mroIn->Eg,lookIn->Eh,hideAll_get->Ei,findCls->Ek,OpenLaw->El,looks_findIn->NB,kitx_list->NC,kitx_dict->ND,handedIn->NF,cellsFrom_some->NG,callWith_K0->NH,WalkO->NJ,KeysLit->NL
open _root_.PySem.W.KF renaming type_class->Em
open _root_.PySem.W.WShape renaming has->NK
open _root_.String renaming toList_append->ME
open _root_.ToString renaming toString->nj
def N3{p:Prop}(h:p:=by decide +kernel):p:=h
theorem N4{p:Prop}(h:p:=by omega):p:=h
def N5{p:Prop}(h:p:=by decide):p:=h
def N9{p:Prop}(h:p:=by rfl):p:=h
def NZ{p:Prop}(h:p:=by simp):p:=h
abbrev NY:List PySem.Str:=["text","line"]
abbrev NR:List PySem.Str:=["reading","rest","line"]
abbrev Nz:List PySem.Str:=["text"]
abbrev Nx:List PySem.Str:=["_law_deal_here","_law_many_here"]
abbrev Nq:List PySem.Str:=["_law_deal_here","_law_numbers","_law_rows"]
abbrev Nj:List PySem.Str:=["reading","line"]
abbrev Nk:List PySem.Str:=["fits","line"]
abbrev Nw:List PySem.Str:=["_law_deals","_law_world","_law_deep_here"]
abbrev Nv:List PySem.Str:=["_law_deal_here","_law_rows"]
abbrev Ny:List PySem.Str:=["_law_deal_here"]
abbrev M0:List PySem.Str:=["self","line"]
abbrev M1:List PySem.Str:=["_law_deals"]
abbrev M2:List PySem.Str:=["_law_k"]
abbrev M3:List PySem.Str:=["_law_claim_here"]
abbrev M4:List PySem.Str:=["_law_script"]
abbrev M5:List PySem.Str:=["reading","text","line"]
abbrev M6:List PySem.Str:=["_law_deals","_law_many_here","_law_numbers","_law_rows"]
abbrev M8:List PySem.Str:=["self","kind","head"]
abbrev MW:List PySem.Str:=["_law_body_here","_law_ahead"]
abbrev MX:List PySem.Str:=["_law_deal_here","_law_numbers"]
abbrev MV:List PySem.Str:=["_law_term_here","_law_more_here"]
abbrev MY:List PySem.Str:=["_law_more_here"]
abbrev MG:List PySem.Str:=["text","least_many","line"]
abbrev MR:List PySem.Str:=["_law_script","_law_k"]
abbrev OU:List PySem.Str:=["_law_deal_here","_law_x","_law_world"]
abbrev Oz:List PySem.Str:=["_law_deal_here","_law_x","_law_world","_law_rows","_law_some","_law_f","_law_many_here","_law_count","_law_numbers","_law_args"]
abbrev Ov:List PySem.Str:=["_law_deal_here","_law_taken_here"]
abbrev Oy:List PySem.Str:=["_law_deals","_law_heads","_law_k","_law_deal_here","_law_f","_law_many_here","_law_count","_law_taken_here","_law_params","_law_rows","_law_free","_law_world","_law_most","_law_needs","_law_gives","_law_body_here"]
abbrev EU:List PySem.Str:=["_law_place_here"]
abbrev EG:List PySem.Str:=["reading","rest","line","body"]
abbrev Ej:List PySem.Str:=["_law_rows","_law_at"]
abbrev Ew:List PySem.Str:=["_law_deals","_law_heads","_law_k"]
abbrev D0:List PySem.Str:=["_law_j","_law_deal_here","_law_taken_here"]
abbrev D4:List PySem.Str:=["_law_script","_law_many_here","_law_taken_here"]
abbrev DW:List PySem.Str:=["_law_script","_law_many_here","_law_taken_here","_law_deals","_law_deal_here","_law_heads","_law_k"]
abbrev DZ:List PySem.Str:=["text","least_many","line","words","at","ahead","behind"]
abbrev DV:List PySem.Str:=["_law_program_here"]
abbrev X0:List PySem.Str:=["_law_program_here","_law_rows","_law_proc_here"]
abbrev X2:List PySem.Str:=["_law_word","_law_rows","_law_at"]
abbrev X3:List PySem.Str:=["_law_deal_here","_law_rows","_law_heads","_law_some","_law_at","_law_word"]
abbrev X4:List PySem.Str:=["_law_rows","_law_deal_here"]
abbrev X5:List PySem.Str:=["each","rise","to","proc","need","give","back","any","claim","if","else","end","while","keep","call"]
abbrev X6:List PySem.Str:=["_law_deal_here","_law_taken_here","_law_letters","_law_word","_law_at"]
abbrev X7:List PySem.Str:=["_law_body_here","_law_ahead","_law_rows","_law_one","_law_left","_law_words"]
abbrev X8:List PySem.Str:=["_law_deal_here","_law_rows","_law_some","_law_at","_law_left","_law_deep_here","_law_wrong"]
namespace L2
open PySem PySem.Spec PyProof.Rows
abbrev PV:=Sum Int Str
def SD:PV->ae->Bool
 | .inl k,v=>NN k v
 | .inr x,v=>tE x v
def joi(w:ax):PV->Int
 | .inl k=>hashInt k
 | .inr x=>hashStr w x
def qx:∀{k:PV} {v:ae},SD k v=true->(∃i t,k=Sum.inl i/\v=Value.int i t)\/(∃x t,k=Sum.inr x/\v=Value.str x t)
 | .inl i,v,h=>by
  obtain⟨t,e⟩:=ae.isInt_shape (k:=i) (v:=v) h;exact .inl ⟨i,t,rfl,e⟩
 | .inr x,v,h=>by obtain⟨t,e⟩:=ae.isStrOf_shape (x:=x) (v:=v) h;exact .inr ⟨x,t,rfl,e⟩
def jhv(i:Int)(t:Tok):SD (.inl i) (.int i t)=true:=by simp[SD,NN]
def jhu(x:Str)(t:Tok):SD (.inr x) (.str x t)=true:=by simp[SD,tE]
def jmK(a b:Int):decide ((Sum.inl a:PV)=Sum.inl b)=(a == b):=by
 by_cases e:a=b
 .subst e;simp
 .have h:¬(Sum.inl a:PV)=Sum.inl b:=fun q=>e (Sum.inl.inj q)
  rw[PM h];exact (PQ.mpr e).symm
def jmH(a b:Str):decide ((Sum.inr a:PV)=Sum.inr b)=decide (a=b):=by
 by_cases e:a=b
 .subst e;simp
 .have h:¬(Sum.inr a:PV)=Sum.inr b:=fun q=>e (Sum.inr.inj q)
  rw[PM h,PM e]
def jmJ(a:Int)(b:Str):decide ((Sum.inl a:PV)=Sum.inr b)=false:=PM (fun q=>nomatch q)
def jmI(a:Str)(b:Int):decide ((Sum.inr a:PV)=Sum.inl b)=false:=PM (fun q=>nomatch q)
def qB(prog:aC)(w:ax):PySem.KeyKind prog w PV where
 is:=SD
 hash:=joi w
 inj:=fun v a b ha hb=>by
  rcases qx ha with⟨i,t,rfl,rfl⟩ | ⟨x,t,rfl,rfl⟩
  .rcases qx hb with⟨j,u,rfl,e⟩ | ⟨y,u,rfl,e⟩
   .injection e with e1 _;rw[e1]
   .exact nomatch e
  .rcases qx hb with⟨j,u,rfl,e⟩ | ⟨y,u,rfl,e⟩
   .exact nomatch e
   .injection e with e1 _;rw[e1]
 byValue:=fun k v h=>by
  rcases qx h with⟨i,t,rfl,rfl⟩ | ⟨x,t,rfl,rfl⟩ <;> rfl
 pyHash:=fun hv h=>by
  rcases qx hv with⟨i,t,rfl,rfl⟩ | ⟨x,t,rfl,rfl⟩
  .exact wpAny_pyHash_int h
  .exact wpAny_pyHash_str h
 eqBool:=fun hu hv h=>by
  rcases qx hu with⟨i,t,rfl,rfl⟩ | ⟨x,t,rfl,rfl⟩
  .rcases qx hv with⟨j,u,rfl,rfl⟩ | ⟨y,u,rfl,rfl⟩
   .rw[jmK]at h;exact wpAny_eqBool_int h
   .rw[jmJ]at h;exact NX i t y u _ _ _ _ h
  .rcases qx hv with⟨j,u,rfl,rfl⟩ | ⟨y,u,rfl,rfl⟩
   .rw[jmI]at h;exact NW x t j u _ _ _ _ h
   .rw[jmH]at h;exact wpAny_eqBool_str h
 «strs»:=fun k x t v h=>by
  rcases qx h with⟨i,u,rfl,e⟩ | ⟨y,u,rfl,e⟩
  .exact nomatch e
  .injection e with e1 _
   subst e1
   cases v <;> rfl
def jdT(prog:aC)(w:ax)(i:Int)(t:Tok):(qB prog w).is (.inl i) (.int i t)=true:=jhv i t
def jdS(prog:aC)(w:ax)(x:Str)(t:Tok):(qB prog w).is (.inr x) (.str x t)=true:=jhu x t
inductive V where
 | non | bl (b:Bool) | int (i:Int) | str (x:Str) | byt (b:Array UInt8) | flt (b:UInt64) | ref (a:ac) | ty (n:String)
 deriving DecidableEq
def Nh:V->ae->Prop
 | .non,u=>u=Value.none
 | .bl b,u=>u=Value.bool b
 | .int i,u=>∃t,u=Value.int i t
 | .str x,u=>∃t,u=Value.str x t
 | .byt b,u=>∃t,u=Value.bytes b t
 | .flt b,u=>∃t,u=Value.float b t
 | .ref a,u=>u=Value.ref a
 | .ty n,u=>u=Value.type n
abbrev Nb:List V->List ae->Prop:=Paired Nh
variable {xs:List V}{us:List ae}
def Nb.length(r:Nb xs us):xs.length=us.length:=xX r
theorem Nb.get:∀{xs:List V} {us:List ae} {i:Nat} {x:V},Nb xs us->xs[i]?=some x->∃u,us[i]?=some u/\Nh x u
 | _,_,_,_,.nil,e=>by simp at e
 | _,_,0,_,.cons r _,e=>by simp at e;subst e;exact⟨_,rfl,r⟩
 | _,_,i+1,x,.cons _ t,e=>by obtain⟨u,h1,h2⟩:=Nb.get (i:=i) (x:=x) t (by simpa using e);exact⟨u,by simpa using h1,h2⟩
theorem Nb.set{x:V}{u:ae}(r:Nh x u):∀{xs:List V} {us:List ae} (i:Nat),Nb xs us->Nb (xs.set i x) (us.set i u)
 | _,_,_,.nil=>.nil
 | _,_,0,.cons _ t=>.cons r t
 | _,_,i+1,.cons q t=>.cons q (Nb.set r i t)
theorem Nb.append:∀{xs ys:List V} {us ws:List ae},Nb xs us->Nb ys ws->Nb (xs++ys) (us++ws)
 | _,_,_,_,.nil,s=>s
 | _,_,_,_,.cons r t,s=>.cons r (Nb.append t s)
theorem Nb.take:∀{xs:List V} {us:List ae} (n:Nat),Nb xs us->Nb (xs.take n) (us.take n)
 | _,_,0,_=>.nil
 | _,_,_+1,.nil=>.nil
 | _,_,n+1,.cons r t=>.cons r (Nb.take n t)
theorem Nb.drop:∀{xs:List V} {us:List ae} (n:Nat),Nb xs us->Nb (xs.drop n) (us.drop n)
 | _,_,0,r=>r
 | _,_,_+1,.nil=>.nil
 | _,_,n+1,.cons _ t=>Nb.drop n t
def P2:Option V->Option ae->Prop
 | some v,some u=>Nh v u
 | none,none=>True
 | _,_=>False
def KV{κ:Type}:List (κ×V)->List (κ×ae)->Prop:=Paired fun (p:κ×V) (q:κ×ae)=>p.1=q.1/\Nh p.2 q.2
def kV:PV->V
 | .inl i=>.int i
 | .inr x=>.str x
inductive HO where
 | lst (xs:List V)
 | tup (xs:List V)
 | dK (ah:List (PV×V)) | dT (ah:List (List PV×V))
 | set (S:Int->Bool) (n:Nat)
 | ins (C dx:ac) (fs:List (Str×V))
 | own (x:ac)
 | xd (fs:List (Str×V))
 | met (f x:ac)
 | rng (lo hi:Int)
 | frz (o:Obj) (u:HO)
 | tbl (ps:Array ae)
 | ext (φ:ak->Prop)
abbrev Hp:=ac->Option HO
def upd(H:Hp)(a:ac)(o:HO):Hp:=fun b=>if b=a then some o else H b
variable {H:Hp}{a:ac}{o:HO}
def jc:upd H a o a=some o:=by unfold upd;rw[PP rfl]
variable {b:ac}
def jq(h:b≠a):upd H a o b=H b:=by unfold upd;rw[PN h]
def jks{u:HO}:upd (upd H a o) a u=upd H a u:=by funext b;unfold upd;split <;> rfl
def jnN{u:HO}(h:H a=some o)(h':H b=some u)(d:o≠u):a≠b:=by intro e;subst e;rw[h]at h';exact d (dz h')
def jm(h:H a=some o)(h':H b=none):a≠b:=by intro e;subst e;rw[h]at h';cases h'
section
variable (P:aC)(w:ax)
def Ng(H:Hp)(h:ak)(a:ac):HO->Prop
 | .lst xs=>xs.length<=aF/\∃(Nc:List ae) (n:Nat),Nb xs Nc/\h.get? a=some { cls:=.type "list",data:=.seq Nc.toArray n }
 | .tup xs=>xs.length<=aF/\∃Nc:List ae,Nb xs Nc/\IsTup h a Nc.toArray
 | .dK ah=>ah.length<=aF/\(a == fk)=false/\∃vs,KV ah vs/\h.DictOf (qB P w) a vs
 | .dT ah=>ah.length<=aF/\(a == fk)=false/\∃xs:List (List PV×ac×ae),
   Paired (fun (p:List PV×V) (q:List PV×ac×ae)=>p.1=q.1/\H q.2.1=some (.tup (p.1.map kV))/\Nh p.2 q.2.2) ah xs/\
   ∃o es ep,h.get? a=some o/\o.ExactDict/\o.data=.dict es ep/\es.toList=xs.map (entryOfKey (sV (qB P w)))/\(xs.map (·.1)).Nodup
 | .set S n=>h.SetOf (intKind P w) a S n
 | .ins C dx fs=>H dx=some (.own a)/\fs.length<=1000/\dx≠a/\h.get? a=some (lV C dx)/\
   ∃mA,h.Ns1 dx mA/\(∀f,P2 (fs.lookup f) (mA f))/\xM mA (fs.map (·.1))
 | .own _=>∃o,h.get? a=some o
 | .xd fs=>∃mA,h.Ns1 a mA/\∀f,P2 (fs.lookup f) (mA f)
 | .rng lo hi=>∃t u v,h.get? a=some { cls:=.type "range",data:=.fields #[.int lo t,.int hi u,.int 1 v] }
 | .frz o u=>h.get? a=some o/\Ng H h a u
 | .tbl ps=>h.get? a=some { cls:=.none,data:=.fields ps }
 | .met f x=>h.get? a=some (Ef (.ref f) (.ref x))
 | .ext φ=>φ h/\(∃o,h.get? a=some o)/\∀h1 h2:ak,φ h1->(∀o,h1.get? a=some o->h2.get? a=some o)->φ h2
def P6(H:Hp)(h:ak):Prop:=∀a o,H a=some o->Ng P w H h a o
end
variable {P:aC}{w:ax}{H':Hp}{h h':ak}
section
def Ng.lt(x:Ng P w H h a o):a < h.objs.size:=by
 cases o with
 | lst xs=>obtain⟨_,_,_,_,e⟩:=x;exact aY e
 | tup xs=>obtain⟨_,_,_,p⟩:=x;exact p.lt
 | dK ah=>obtain⟨_,_,_,_,o,_,_,e,_⟩:=x;exact aY e
 | dT ah=>obtain⟨_,_,_,_,o,_,_,e,_⟩:=x;exact aY e
 | set S n=>obtain⟨o,_,_,_,e,_⟩:=x;exact aY e
 | ins C dx fs=>obtain⟨_,_,_,e,_⟩:=x;exact aY e
 | own y=>obtain⟨_,e⟩:=x;exact aY e
 | xd fs=>obtain⟨_,⟨_,_,_,e,_⟩,_⟩:=x;exact aY e
 | rng lo hi=>obtain⟨_,_,_,e⟩:=x;exact aY e
 | frz ob u=>obtain⟨e,_⟩:=x;exact aY e
 | tbl ps=>exact aY (show h.get? a=some _ from x)
 | met f y=>exact aY (show h.get? a=some _ from x)
 | ext φ=>obtain⟨_,⟨_,e⟩,_⟩:=x;exact aY e
theorem Paired.mapP{α β:Type}{F G:α->β->Prop}:∀{l₁:List α} {l₂:List β},Paired F l₁ l₂->(∀a b,F a b->G a b)->Paired G l₁ l₂
 | _,_,.nil,_=>.nil
 | _,_,.cons r t,f=>.cons (f _ _ r) (Paired.mapP t f)
def Ng.stay(x:Ng P w H h a o)(k:∀b u,(b=a\/H b=some (.own a))->h.get? b=some u->h'.get? b=some u)
  (ho:∀b,H b=some (.own a)->H' b=some (.own a)) (ht:∀b xs,H b=some (.tup xs)->H' b=some (.tup xs)):Ng P w H' h' a o:=by
 induction o with
 | lst xs=>obtain⟨z,Nc,n,r,e⟩:=x;exact⟨z,Nc,n,r,k _ _ (.inl rfl) e⟩
 | tup xs=>obtain⟨z,Nc,r,ob,e,c⟩:=x;exact⟨z,Nc,r,ob,k _ _ (.inl rfl) e,c⟩
 | dK ah=>obtain⟨z,y,vs,r,ob,es,ep,e,c⟩:=x;exact⟨z,y,vs,r,ob,es,ep,k _ _ (.inl rfl) e,c⟩
 | dT ah=>
  obtain⟨z,y,xs,r,ob,es,ep,e,c⟩:=x
  exact⟨z,y,xs,Paired.mapP r fun p q z=>⟨z.1,ht _ _ z.2.1,z.2.2⟩,ob,es,ep,k _ _ (.inl rfl) e,c⟩
 | set S n=>obtain⟨ob,es,ep,t,e,c⟩:=x;exact⟨ob,es,ep,t,k _ _ (.inl rfl) e,c⟩
 | ins C dx fs=>
  obtain⟨d,z,ne,e,mA,⟨od,es,ep,e2,c⟩,r⟩:=x
  exact⟨ho _ d,z,ne,k _ _ (.inl rfl) e,mA,⟨od,es,ep,k _ _ (.inr d) e2,c⟩,r⟩
 | own y=>obtain⟨ob,e⟩:=x;exact⟨ob,k _ _ (.inl rfl) e⟩
 | xd fs=>obtain⟨mA,⟨od,es,ep,e,c⟩,r⟩:=x;exact⟨mA,⟨od,es,ep,k _ _ (.inl rfl) e,c⟩,r⟩
 | rng lo hi=>obtain⟨t,u,v,e⟩:=x;exact⟨t,u,v,k _ _ (.inl rfl) e⟩
 | frz ob u ih=>obtain⟨e,q⟩:=x;exact⟨k _ _ (.inl rfl) e,ih q⟩
 | tbl ps=>
  have e:h.get? a=some { cls:=.none,data:=.fields ps }:=x
  show h'.get? a=some { cls:=.none,data:=.fields ps }
  exact k a _ (.inl rfl) e
 | met f y=>
  have e:h.get? a=some (Ef (.ref f) (.ref y)):=x
  show h'.get? a=some (Ef (.ref f) (.ref y))
  exact k a _ (.inl rfl) e
 | ext φ=>obtain⟨p,⟨o,e⟩,st⟩:=x;exact⟨st _ _ p fun o q=>k _ _ (.inl rfl) q,⟨o,k _ _ (.inl rfl) e⟩,st⟩
def P6.lt(x:P6 P w H h)(e:H a=some o):a < h.objs.size:=(x a o e).lt
def P6.fresh(x:P6 P w H h)(e:h.objs.size<=a):H a=none:=by
 cases q:H a with
 | none=>rfl
 | some u=>exact absurd (bY (x.lt q) e) (iY _)
def P6.kept(x:P6 P w H h)(k:∀b u,h.get? b=some u->h'.get? b=some u):P6 P w H h':=fun a o e=>
 (x a o e).stay (fun b u _ q=>k b u q) (fun _ q=>q) fun _ _ q=>q
def P6.laid(x:P6 P w H h)(k:∀b u,h.get? b=some u->h'.get? b=some u)(hp:h.objs.size<=a)(new:Ng P w (upd H a o) h' a o):P6 P w (upd H a o) h':=fun b u e=>by
 have hn:=x.fresh hp;by_cases hb:b=a
 .subst hb;rw[jc]at e;cases e;exact new
 .rw[jq hb]at e
  exact (x b u e).stay (fun c v _ q=>k c v q) (fun c q=>by rw[jq (jm q hn)];exact q) fun c xs q=>by rw[jq (jm q hn)];exact q
end
def Rd(H:Hp)(a:ac)(u:HO):Prop:=H a=some u\/∃o,H a=some (.frz o u)
def Rd.of{u:HO}(h:H a=some u):Rd H a u:=.inl h
def Rd.ok{u:HO}(r:Rd H a u)(x:P6 P w H h):Ng P w H h a u:=by
 rcases r with r | ⟨o,r⟩
 .exact x a u r
 .obtain⟨_,q⟩:=x a _ r
  exact q
def SN:Option HO->Prop
 | some (.lst _)=>True
 | some (.dK _)=>True
 | some (.dT _)=>True
 | some (.set _ _)=>True
 | some (.ins _ _ _)=>True
 | some (.ext _)=>True
 | _=>False
section
variable {x e:ac}{o':HO}
def P6.write(ok:P6 P w H h)(mu:SN (H x))(he:e=x\/H e=some (.own x))(k:∀b u,b≠e->h.get? b=some u->h'.get? b=some u)(mP:∃u,h'.get? e=some u)
  (new:Ng P w (upd H x o') h' x o'):P6 P w (upd H x o') h':=fun b u q=>by
 have Bm:∀c y,H c=some (.own y)->c≠x:=fun c y r z=>by subst z;rw[r]at mu;exact mu
 have Gi:∀c xs,H c=some (.tup xs)->c≠x:=fun c xs r z=>by subst z;rw[r]at mu;exact mu
 by_cases hb:b=x
 .subst hb;rw[jc]at q;cases q;exact new
 .rw[jq hb]at q
  by_cases eR:b=e
  .have q':H b=some (.own x):=by
    rcases he with z | z
    .exact absurd (eR.trans z) hb
    .rw[eR];exact z
   rw[q]at q';cases q';obtain⟨v,hv⟩:=mP;exact⟨v,by rw[eR];exact hv⟩
  .refine (ok b u q).stay (fun c v hc r=>k c v ?_ r) (fun c r=>by rw[jq (Bm c b r)];exact r) fun c xs r=>by rw[jq (Gi c xs r)];exact r
   rcases hc with rfl | hc
   .exact eR
   .rintro rfl
    rcases he with z | z
    .exact Bm c b hc z
    .rw[hc]at z;cases z;exact hb rfl
end
structure Un(fs ex:List ac)(H H':Hp)(h h':ak):Prop where
 keep:∀b o,h.get? b=some o->H b=none->b ∉ fs->b ∉ ex->h'.get? b=some o
 slot:∀b o,h.get? b=some o->H b=none->b∈fs->b ∉ ex->∃sl,h'.get? b=some { o with slots:=sl }
 free:∀b o,h.get? b=some o->H b=none->b ∉ ex->H' b=none
 there:∀b o,h.get? b=some o->b ∉ ex->∃o',h'.get? b=some o'
 tups:∀b xs,H b=some (.tup xs)->H' b=some (.tup xs)
 frzs:∀b o u,H b=some (.frz o u)->H' b=some (.frz o u)
 tbls:∀b ps,H b=some (.tbl ps)->∃more,H' b=some (.tbl (ps++more))
 stay:∀b o xs,H b=some (.tup xs)->h.get? b=some o->b ∉ fs->b ∉ ex->h'.get? b=some o
section
variable {fs fs' ex ex':List ac}{H1 H2:Hp}{h1 h2:ak}{x e:ac}
def Un.any(u:Un fs ex H H1 h h1){ob:Obj}(q:h.get? b=some ob)(n:H b=none)(hx:b ∉ ex):∃sl,h1.get? b=some { ob with slots:=sl }:=by
 by_cases hb:b∈fs
 .exact u.slot b ob q n hb hx
 .exact⟨ob.slots,u.keep b ob q n hb hx⟩
def Un.kept(k:∀b u,h.get? b=some u->h'.get? b=some u):Un fs ex H H h h':=
 ⟨fun b ob q _ _ _=>k b ob q,fun b ob q _ _ _=>⟨ob.slots,k b ob q⟩,fun _ _ _ n _=>n,fun b ob q _=>⟨ob,k b ob q⟩,fun _ _ q=>q,fun _ _ _ q=>q,fun _ ps q=>⟨#[],by rw[q];simp⟩,fun b ob _ _ q _ _=>k b ob q⟩
def Un.refl:Un fs ex H H h h:=Un.kept fun _ _ q=>q
def Un.laid(k:∀b u,h.get? b=some u->h'.get? b=some u)(hp:h.objs.size<=a)(hn:H a=none):Un fs ex H (upd H a o) h h' where
 keep:=fun b u q _ _ _=>k b u q
 slot:=fun b u q _ _ _=>⟨u.slots,k b u q⟩
 free:=fun b u q n _=>by rw[jq (bU (bY (aY q) hp))];exact n
 there:=fun b u q _=>⟨u,k b u q⟩
 tups:=fun b xs q=>by rw[jq (jm q hn)];exact q
 frzs:=fun b u xs q=>by rw[jq (jm q hn)];exact q
 tbls:=fun b ps q=>⟨#[],by rw[jq (jm q hn),q];simp⟩
 stay:=fun b u _ _ q _ _=>k b u q
def Un.write(mu:SN (H x))(he:e=x\/H e=some (.own x))(k:∀b u,b≠e->h.get? b=some u->h'.get? b=some u)(mP:∃u,h'.get? e=some u):Un fs ex H (upd H x o) h h':=by
 have hx:∀b,H b=none->b≠x:=fun b n z=>by subst z;rw[n]at mu;exact mu
 have hb:∀b,H b=none->b≠e:=fun b n z=>by
  subst z;rcases he with r | r
  .exact hx b n r
  .rw[n]at r;cases r
 have hm:∀b u,H b=some u->¬SN (some u)->b≠x:=fun b u q nm z=>by subst z;rw[q]at mu;exact nm mu
 refine⟨fun b u q n _ _=>k b u (hb b n) q,fun b u q n _ _=>⟨u.slots,k b u (hb b n) q⟩,fun b u q n _=>by rw[jq (hx b n)];exact n,fun b u q _=>?_,
  fun b xs q=>by rw[jq (hm b _ q fun z=>z)];exact q,fun b u xs q=>by rw[jq (hm b _ q fun z=>z)];exact q,fun b ps q=>⟨#[],by rw[jq (hm b _ q fun z=>z),q];simp⟩,fun b u xs q e' _ _=>k b u (fun z=>by
   subst z;rcases he with r | r
   .exact hm b _ q (fun z=>z) r
   .rw[q]at r;cases r) e'⟩
 by_cases eR:b=e
 .subst eR;exact mP
 .exact⟨u,k b u eR q⟩
end
def trk(h:ak)(H:Hp):List ac:=(ir h.objs.size).filter fun a=>(H a).isSome
def RM(h:ak)(H:Hp):ak:=PySem.W.hideAll h (trk h H)
def jhy(h:ak)(H:Hp):(RM h H).objs.size=h.objs.size:=PySem.W.hideAll_size _ _
def jjz{o:Obj}(e:h.get? b=some o)(n:H b=none):(RM h H).get? b=some o:=
 PySem.W.hideAll_get _ e fun hm=>by have q:(H b).isSome=true:=(pV.mp hm).2;rw[n]at q;simp at q
def jk9{o:Obj}(e:(RM h H).get? b=some o):h.get? b=some o/\H b=none:=by
 have e':h.get? b=some o:=PySem.W.of_hideAll (trk h H) e;refine⟨e',?_⟩
 cases q:H b with
 | none=>rfl
 | some x=>
  have hm:b∈trk h H:=pV.mpr ⟨t0.mpr (aY e'),by simp[q]⟩;have z:(RM h H).get? b=none:=PySem.W.hideAll_none (trk h H) hm;rw[z]at e;cases e
def jlF(g h:ak)(L:ac):List (ac×Obj):=(ir h.objs.size).filterMap fun a=>if a=L\/(g.get? a).isSome=true then none else (h.get? a).map fun o=>(a,o)
def qm(g h:ak)(L d:ac):List (ac×Obj):=(jlF g h L).filter fun p=>decide (p.1≠d)
structure Mod(K:ao)(mg:Str->Option ae)(base:ak):Prop where
 kin:K.In base
 glob:base.Ns ba mg
 blt:∃mb,base.Ns Eb mb/\∀x:Str,x≠"__name__"->mb x=cO x
 nolimit:base.NoLimit
structure Cx where
 prog:aC
 w:ax
 K:ao
 mg:Str->Option ae
 base:ak
 A:aN
 N:List Str
 s₀:af
 H₀:Hp
 Ec:Env
 iw:List Env
 stack:List Env
 ex:List ac
 fn:Str->Bool
 calm:Bool
 pn:List (ac×Obj)
 xe:ae->af->Prop
def No(l:List Env):List ac:=l.filterMap (·.frame)
abbrev Cx.fs(X:Cx):List ac:=No X.iw
def Vis(sc:ce)(x:Str):Prop:=sc.names.lookup x=some .local\/sc.names.lookup x=some .cell\/sc.names.lookup x=some .free
def Loc(sc:ce)(x:Str):Prop:=sc.names.lookup x=some .local\/sc.names.lookup x=some .cell
def jot(Ec:Env)(h:ak)(m:Str->Option ae)(x:Str)(u:ae):Prop:=
 (Ec.kindOf x=some .local/\m x=some u)\/((Ec.kindOf x=some .cell\/Ec.kindOf x=some .free)/\∃c,Ec.cells.lookup x=some c/\h.IsCell c (some u))
structure Cx.Ok(X:Cx):Prop where
 mod:Mod X.K X.mg X.base
 kind:X.Ec.scope.kind=.function
 glob:X.Ec.globals=ba
 blt:X.Ec.builtins=Eb
 above:X.s₀.heap.objs.size<=X.Ec.locals
 inj:∀x y c,X.Ec.cells.lookup x=some c->X.Ec.cells.lookup y=some c->x=y
 has:∀x,(X.Ec.kindOf x=some .cell\/X.Ec.kindOf x=some .free)->∃c,X.Ec.cells.lookup x=some c
 cab:∀x c,X.fn x=true->X.Ec.cells.lookup x=some c->X.s₀.heap.objs.size<=c
 hd:X.calm=true->X.A.handled=none
 frames:X.A.frames=some X.stack
 stk:X.stack=X.iw\/(X.stack=X.Ec :: X.iw/\X.Ec.frame=some X.Ec.locals)
 exf:∀b∈X.ex,b≠X.Ec.locals/\∀x c,X.Ec.cells.lookup x=some c->c≠b
 bs:∀b o,X.base.get? b=some o->X.s₀.heap.get? b=some o/\X.H₀ b=none
 bsz:X.base.objs.size<=X.s₀.heap.objs.size
 noex:∀b o,X.base.get? b=some o->b ∉ X.ex
 exfs:∀b∈X.ex,b ∉ X.fs
 funs:X.s₀.heap.FunFrames X.base X.iw
 frf:∀b∈X.fs,X.H₀ b=none
structure xJ(X:Cx)(ad:List (ac×Obj))(σ:List (Option V))(H:Hp)(s:af):Prop where
 ok:X.Ok
 os:s.os=X.s₀.os
 bare:io s.gens
 base:Un X.fs X.ex X.H₀ H X.s₀.heap s.heap
 loc:∃m,s.heap.Ns X.Ec.locals m/\∀(i:Nat) (x:Str) (v:V),X.N[i]?=some x->σ[i]?=some (some v)->Vis X.Ec.scope x->∃u,Nh v u/\jot X.Ec s.heap m x u
 cell:∀x c,X.Ec.cells.lookup x=some c->∃v,s.heap.IsCell c v
 free:H X.Ec.locals=none
 freeC:∀x c,X.Ec.cells.lookup x=some c->H c=none
 pin:∀p∈X.pn++ad,s.heap.get? p.1=some p.2/\H p.1=none/\p.1≠X.Ec.locals/\p.1 ∉ X.fs/\∀v,p.2.data≠.cell v
 hok:P6 X.prog X.w H s.heap
 len:σ.length=X.N.length
variable {X:Cx}{ad:List (ac×Obj)}{s s':af}{t' i:Nat}{ch:List ac}{x:Str}{v:V}{u:ae}
section
variable {σ:List (Option V)}
def Cx.Ok.nofr(ok:X.Ok){o:Obj}(e:X.base.get? b=some o):b ∉ X.fs:=fun hb=>by have:=(ok.funs.mem hb).1;rw[e]at this;cases this
def xJ.bs(I:xJ X ad σ H s):∀b o,X.base.get? b=some o->s.heap.get? b=some o/\H b=none:=fun b o e=>
 ⟨I.base.keep b o (I.ok.bs b o e).1 (I.ok.bs b o e).2 (I.ok.nofr e) (I.ok.noex b o e),I.base.free b o (I.ok.bs b o e).1 (I.ok.bs b o e).2 (I.ok.noex b o e)⟩
def xJ.bk(I:xJ X ad σ H s):∀b o,X.base.get? b=some o->s.heap.get? b=some o:=fun b o e=>(I.bs b o e).1
def xJ.mod(I:xJ X ad σ H s):Mod X.K X.mg X.base:=I.ok.mod
def xJ.kIn(I:xJ X ad σ H s):X.K.In s.heap:=I.ok.mod.kin.keeps I.bk
def xJ.nolimit(I:xJ X ad σ H s):s.heap.NoLimit:=I.ok.mod.nolimit.keeps I.bk
def xJ.fr(I:xJ X ad σ H s):∃m,Fr X.base X.Ec.locals s.heap m:=
 let ⟨m,hn,_⟩:=I.loc
 ⟨m,hn,I.bk,aw I.ok.bsz I.ok.above⟩
def xJ.lt(I:xJ X ad σ H s):X.Ec.locals < s.heap.objs.size:=let ⟨_,hn,_⟩:=I.loc;hn.lt
def xJ.sz(I:xJ X ad σ H s):X.s₀.heap.objs.size<=s.heap.objs.size:=aw I.ok.above (cP I.lt)
def xJ.nofs(I:xJ X ad σ H s)(h:s.heap.objs.size<=a):a ∉ X.fs:=fun hb=>by obtain⟨_,o,ho,_⟩:=I.ok.funs.mem hb;exact absurd (bY (aY ho) (aw I.sz h)) (iY _)
def xJ.cne(I:xJ X ad σ H s):∀x c,X.Ec.cells.lookup x=some c->c≠X.Ec.locals:=fun x c e z=>by obtain⟨v,o,ho,hd⟩:=I.cell x c e;obtain⟨m,⟨o',es,ep,lj,gX,_⟩,_⟩:=I.loc;rw[z,lj]at ho;cases ho;rw[gX]at hd;cases hd
def xJ.funs(I:xJ X ad σ H s):s.heap.FunFrames X.base X.iw:=by
 have all:∀(l:List Env),(∀b∈No l,b∈X.fs)->X.s₀.heap.FunFrames X.base l->s.heap.FunFrames X.base l:=by
  intro l;induction l with
  | nil=>intro _ _;trivial
  | cons Ec r ih=>
   intro hs hl;obtain⟨hk,⟨L,o,hf,hn,ho,hd⟩,hr⟩:=hl;have hL:L∈X.fs:=hs L (by unfold No;rw[fF,hf];exact aJ);obtain⟨sl,e⟩:=I.base.slot L o ho (I.ok.frf L hL) hL fun z=>I.ok.exfs L z hL
   exact⟨hk,⟨L,_,hf,hn,e,hd⟩,ih (fun b hb=>hs b (by unfold No;rw[fF,hf];exact aH _ hb)) hr⟩
 exact all X.iw (fun _ hb=>hb) I.ok.funs
def xJ.stack(I:xJ X ad σ H s):s.heap.FunFrames X.base X.stack:=by
 rcases I.ok.stk with e | ⟨e,hf⟩
 .rw[e];exact I.funs
 .rw[e]
  obtain⟨m,hn,_⟩:=I.loc;refine .cons (by rw[I.ok.kind];decide) hf hn ?_ I.funs;exact ak.get?_none_of_le (aw I.ok.bsz I.ok.above)
def xJ.stkSub(I:xJ X ad σ H s):∀b∈No X.stack,b∈X.Ec.locals :: X.fs:=fun b hb=>by
 rcases I.ok.stk with e | ⟨e,hf⟩
 .rw[e]at hb;exact aH _ hb
 .rw[e]at hb
  unfold No at hb;rw[fF,hf]at hb;exact hb
def xJ.stkFree(I:xJ X ad σ H s):∀b∈No X.stack,H b=none:=fun b hb=>by
 rcases aA.mp (I.stkSub b hb) with e | hb
 .rw[e];exact I.free
 .obtain⟨_,o,ho,_⟩:=I.ok.funs.mem hb
  exact I.base.free b o ho (I.ok.frf b hb) fun z=>I.ok.exfs b z hb
def xJ.step{g':Array nN}{d':Drawn}(I:xJ X ad σ H s)
  (fe:∀b∈ch,(b∈X.ex\/X.s₀.heap.objs.size<=b)/\b≠X.Ec.locals/\(∀x c,X.Ec.cells.lookup x=some c->c≠b)/\∀p∈X.pn++ad,p.1≠b)
  (keep:∀b o,b≠X.Ec.locals->b ∉ X.fs->b ∉ ch->s.heap.get? b=some o->(H b=none\/∃xs,H b=some (.tup xs))->h'.get? b=some o)
  (slot:∀b o,b≠X.Ec.locals->b∈X.fs->b ∉ ch->s.heap.get? b=some o->H b=none->∃sl,h'.get? b=some { o with slots:=sl }) (free:∀b o,b ∉ ch->s.heap.get? b=some o->H b=none->H' b=none)
  (there:∀b o,b ∉ ch->s.heap.get? b=some o->∃o',h'.get? b=some o')
  (tups:∀b xs,H b=some (.tup xs)->H' b=some (.tup xs)) (frzs:∀b o u,H b=some (.frz o u)->H' b=some (.frz o u)) (tbls:∀b ps,H b=some (.tbl ps)->∃more,H' b=some (.tbl (ps++more)))
  (ns:∀m,s.heap.Ns X.Ec.locals m->h'.Ns X.Ec.locals m) (hok:P6 X.prog X.w H' h') (hg:io g') :
  xJ X ad σ H' { s with heap:=h',gens:=g',drawn:=d',toks:=t' }:=by
 have uP:∀b o,X.s₀.heap.get? b=some o->b≠X.Ec.locals:=fun b o e=>bU (bY (aY e) I.ok.above)
 have ox:∀b o,X.s₀.heap.get? b=some o->b ∉ X.ex->b ∉ ch:=fun b o e hx hb=>by
  rcases (fe b hb).1 with z | z
  .exact hx z
  .exact absurd (bY (aY e) z) (iY _)
 have CV:∀x c,X.Ec.cells.lookup x=some c->∀v,s.heap.IsCell c v->h'.IsCell c v:=fun x c e v ⟨o,ho,hd⟩=>by
  have oy:c ∉ ch:=fun z=>(fe c z).2.2.1 x c e rfl
  by_cases hc:c∈X.fs
  .obtain⟨sl,q⟩:=slot c o (I.cne x c e) hc oy ho (I.freeC x c e)
   exact⟨_,q,hd⟩
  .exact⟨o,keep c o (I.cne x c e) hc oy ho (.inl (I.freeC x c e)),hd⟩
 have FE:=I.base.tups
 refine⟨I.ok,I.os,hg,⟨fun b o e n hb hx=>?_,fun b o e n hb hx=>?_,fun b o e n hx=>?_,fun b o e hx=>?_,fun b xs e=>tups b xs (I.base.tups b xs e),fun b o xs e=>frzs b o xs (I.base.frzs b o xs e),fun b ps e=>?_,fun b o xs q e hb hx=>keep b o (uP b o e) hb (ox b o e hx) (I.base.stay b o xs q e hb hx) (.inr ⟨xs,FE b xs q⟩)⟩,?_,fun x c e=>?_,?_,fun x c e=>?_,fun p hp=>?_,hok,I.len⟩
 .exact keep b o (uP b o e) hb (ox b o e hx) (I.base.keep b o e n hb hx) (.inl (I.base.free b o e n hx))
 .obtain⟨sl,e1⟩:=I.base.slot b o e n hb hx
  obtain⟨dA,e2⟩:=slot b _ (uP b o e) hb (ox b o e hx) e1 (I.base.free b o e n hx)
  exact⟨dA,e2⟩
 .obtain⟨o',e1⟩:=I.base.there b o e hx
  exact free b o' (ox b o e hx) e1 (I.base.free b o e n hx)
 .obtain⟨o',e1⟩:=I.base.there b o e hx
  exact there b o' (ox b o e hx) e1
 .obtain⟨m1,e1⟩:=I.base.tbls b ps e
  obtain⟨m2,e2⟩:=tbls b _ e1
  exact⟨m1++m2,by rw[e2,Array.append_assoc]⟩
 .obtain⟨m,hn,hl⟩:=I.loc
  refine⟨m,ns m hn,fun i x v e1 e2 e3=>?_⟩
  obtain⟨u,r,l⟩:=hl i x v e1 e2 e3
  refine⟨u,r,?_⟩
  rcases l with l | ⟨k,c,e,z⟩
  .exact .inl l
  .exact .inr ⟨k,c,e,CV x c e _ z⟩
 .obtain⟨v,z⟩:=I.cell x c e
  exact⟨v,CV x c e v z⟩
 .obtain⟨m,⟨o,_,_,ho,_⟩,_⟩:=I.loc
  exact free _ o (fun z=>(fe _ z).2.1 rfl) ho I.free
 .obtain⟨v,o,ho,hd⟩:=I.cell x c e
  exact free c o (fun z=>(fe c z).2.2.1 x c e rfl) ho (I.freeC x c e)
 .obtain⟨e,n,ne,nf,d⟩:=I.pin p hp
  have oy:p.1 ∉ ch:=fun z=>(fe p.1 z).2.2.2 p hp rfl
  exact⟨keep p.1 p.2 ne nf oy e (.inl n),free p.1 p.2 oy e n,ne,nf,d⟩
def xJ.un(I:xJ X ad σ H s)(u:Un X.fs [] H H' s.heap h')(hok:P6 X.prog X.w H' h'):xJ X ad σ H' { s with heap:=h',toks:=t' }:=by
 obtain⟨m,⟨o,es,ep,ho,r⟩,_⟩:=id I.loc;obtain⟨sl,hL⟩:=u.any ho I.free NZ;exact I.step (g':=s.gens) (d':=s.drawn) (ch:=[]) (fun _ z=>nomatch z) (fun b o _ hb _ e n=>n.elim (fun n=>u.keep b o e n hb NZ) fun⟨xs,n⟩=>u.stay b o xs n e hb NZ) (fun b o _ hb _ e n=>u.slot b o e n hb NZ) (fun b o _ e n=>u.free b o e n NZ) (fun b o _ e=>u.there b o e NZ) u.tups u.frzs u.tbls (fun m' hm=>by obtain⟨o',wx,wy,lj,r'⟩:=hm;rw[ho]at lj;cases lj;exact⟨_,wx,wy,hL,r'⟩) hok I.bare
def xJ.call{g':Array nN}{d':Drawn}(I:xJ X ad σ H s)(u:Un (No X.stack) ch H H' s.heap h')(hok:P6 X.prog X.w H' h')(hg:io g')
  (fe:∀b∈ch,(b∈X.ex\/X.s₀.heap.objs.size<=b)/\b≠X.Ec.locals/\(∀x c,X.Ec.cells.lookup x=some c->c≠b)/\∀p∈X.pn++ad,p.1≠b) :
  xJ X ad σ H' { s with heap:=h',gens:=g',drawn:=d',toks:=t' }:=by
 obtain⟨m,⟨o,es,ep,ho,r⟩,_⟩:=id I.loc
 obtain⟨sl,hL⟩:=u.any ho I.free fun z=>(fe _ z).2.1 rfl
 exact I.step (ch:=ch) fe (fun b o hL hb hc e n=>n.elim (fun n=>u.keep b o e n (fun z=>(aA.mp (I.stkSub b z)).elim hL hb) hc) fun⟨xs,n⟩=>u.stay b o xs n e (fun z=>(aA.mp (I.stkSub b z)).elim hL hb) hc) (fun b o _ _ hc e n=>u.any e n hc) (fun b o hc e n=>u.free b o e n hc) (fun b o hc e=>u.there b o e hc) u.tups u.frzs u.tbls (fun m' hm=>by obtain⟨o',wx,wy,lj,r'⟩:=hm;rw[ho]at lj;cases lj;exact⟨_,wx,wy,hL,r'⟩) hok hg
def xJ.turned{it:ac}(I:xJ X ad σ H s)(k:∀b o,b≠it->s.heap.get? b=some o->h'.get? b=some o)(hn:H it=none)(hL:it≠X.Ec.locals)
  (h1:it∈X.ex\/X.s₀.heap.objs.size<=it) (h2:∀x c,X.Ec.cells.lookup x=some c->c≠it) (h3:∀p∈X.pn++ad,p.1≠it):xJ X ad σ H { s with heap:=h',toks:=t' }:=by
 have Bp:∀b u,H b=some u->b≠it:=fun b u e z=>by rw[z,hn]at e;cases e
 refine I.step (g':=s.gens) (d':=s.drawn) (ch:=[it]) (fun b hb=>?_) (fun b o _ _ hc e _=>k b o (fun z=>hc (by simp[z])) e) (fun b o _ _ hc e _=>⟨o.slots,k b o (fun z=>hc (by simp[z])) e⟩) (fun _ _ _ _ n=>n)
  (fun b o hc e=>⟨o,k b o (fun z=>hc (by simp[z])) e⟩) (fun _ _ e=>e) (fun _ _ _ e=>e) (fun b ps e=>⟨#[],by rw[e];simp⟩) (fun m hm=>?_) (fun b u e=>?_) I.bare
 .have e:b=it:=by simpa using hb
  subst e
  exact⟨h1,hL,h2,h3⟩
 .obtain⟨o,es,ep,ho,r⟩:=hm
  exact⟨o,es,ep,k _ o (cj hL) ho,r⟩
 .refine (I.hok b u e).stay (fun c v hc q=>k c v ?_ q) (fun _ q=>q) fun _ _ q=>q
  rcases hc with z | z
  .rw[z];exact Bp b u e
  .exact Bp c _ z
def xJ.tok(I:xJ X ad σ H s)(t:Nat):xJ X ad σ H { s with toks:=t }:=I.un (h':=s.heap) (t':=t) Un.refl I.hok
def xJ.kept(I:xJ X ad σ H s)(k:∀b u,s.heap.get? b=some u->h'.get? b=some u):xJ X ad σ H { s with heap:=h',toks:=t' }:=I.un (Un.kept k) (I.hok.kept k)
def xJ.laid(I:xJ X ad σ H s)(k:∀b u,s.heap.get? b=some u->h'.get? b=some u)(hp:s.heap.objs.size<=a)(new:Ng X.prog X.w (upd H a o) h' a o):
  xJ X ad σ (upd H a o) { s with heap:=h',toks:=t' }:=I.un (Un.laid k hp (I.hok.fresh hp)) (I.hok.laid k hp new)
def xJ.write{x e:ac}(I:xJ X ad σ H s)(mu:SN (H x))(he:e=x\/H e=some (.own x))(k:∀b u,b≠e->s.heap.get? b=some u->h'.get? b=some u)(mP:∃u,h'.get? e=some u)
  (new:Ng X.prog X.w (upd H x o) h' x o):xJ X ad σ (upd H x o) { s with heap:=h',toks:=t' }:=I.un (Un.write mu he k mP) (I.hok.write mu he k mP new)
def xJ.pins_of{A5:List (ac×Obj)}(I:xJ X ad σ H s)(h:∀p∈A5,s.heap.get? p.1=some p.2/\H p.1=none/\p.1≠X.Ec.locals/\p.1 ∉ X.fs/\∀v,p.2.data≠.cell v):xJ X A5 σ H s:=
 ⟨I.ok,I.os,I.bare,I.base,I.loc,I.cell,I.free,I.freeC,fun p hp=>(aL.mp hp).elim (fun z=>I.pin p (cB _ z)) (h p),I.hok,I.len⟩
def jaP{N:List Str}(hN:N.Nodup){j:Nat}(a:N[i]?=some x)(b:N[j]?=some x):i=j:=by obtain⟨h1,e1⟩:=dY.mp a;obtain⟨h2,e2⟩:=dY.mp b;exact (List.getElem_inj hN).mp (e1.trans e2.symm)
def Zr{M:dj}{A:aN}{E:ae->af->Prop}{Q:Unit->af->Prop}(I:xJ X ad σ H s)(hN:X.N.Nodup)(hi:X.N[i]?=some x)(hx:Loc X.Ec.scope x)(r:Nh v u)
  (h:∀s',xJ X ad (σ.set i (some v)) H s'->(∃a,dX a s.heap s'.heap/\(a=X.Ec.locals\/X.Ec.cells.lookup x=some a))->Q () s') (hf:X.fn x=true\/X.Ec.scope.names.lookup x=some .local:=by first | exact .inl rfl | exact .inr rfl | assumption):am M A (storeName X.Ec x u) Q E s:=by
 obtain⟨m,hn,hl⟩:=id I.loc
 have lu:(X.Ec.scope.kind == .class || (X.Ec.scope.kind == .module && X.Ec.locals != X.Ec.globals))=false:=by rw[I.ok.kind];rfl
 have oY:i < σ.length:=by rw[I.len];exact (dY.mp hi).1
 have cne:=I.cne
 have AD:∀{a:ac} {h':ak},(∃o,s.heap.get? a=some o/\H a=none)->dX a s.heap h'->P6 X.prog X.w H h':=fun {a h'} ha hs b ob e=>by
  obtain⟨_,_,B8⟩:=ha;refine (I.hok b ob e).stay (fun c w' hc q=>(hs.2 c ?_).trans q) (fun _ q=>q) fun _ _ q=>q
  rintro rfl;rcases hc with rfl | hc
  .rw[B8]at e;cases e
  .rw[B8]at hc;cases hc
 rcases hx with hk | hk
 .refine wpAny_storeName_local hk hn (fun h' iH hs=>?_) lu
  obtain⟨oL,_,_,BV,_⟩:=id hn
  refine h _ ⟨I.ok,I.os,I.bare,⟨fun b o e n hb hx=>?_,fun b o e n hb hx=>?_,I.base.free,fun b o e hx=>?_,I.base.tups,I.base.frzs,I.base.tbls,fun b o xs q e hb hx=>(hs.2 b (bU (bY (aY e) I.ok.above))).trans (I.base.stay b o xs q e hb hx)⟩,⟨_,iH,fun j y v' e1 e2 e3=>?_⟩,fun y c e=>?_,I.free,I.freeC,fun p hp=>?_,AD ⟨oL,BV,I.free⟩ hs,by simpa using I.len⟩ ⟨_,hs,.inl rfl⟩
  .exact (hs.2 b (bU (bY (aY e) I.ok.above))).trans (I.base.keep b o e n hb hx)
  .obtain⟨sl,e1⟩:=I.base.slot b o e n hb hx
   exact⟨sl,(hs.2 b (bU (bY (aY e) I.ok.above))).trans e1⟩
  .obtain⟨o',e1⟩:=I.base.there b o e hx
   exact⟨o',(hs.2 b (bU (bY (aY e) I.ok.above))).trans e1⟩
  .by_cases hj:j=i
   .subst hj
    rw[hi]at e1;cases e1
    rw[Am oY]at e2
    cases e2
    exact⟨u,r,.inl ⟨hk,NZ⟩⟩
   .rw[An (cj hj)]at e2
    obtain⟨u',r',q⟩:=hl j y v' e1 e2 e3
    refine⟨u',r',?_⟩
    rcases q with⟨k,e⟩ | ⟨k,c,e,z⟩
    .refine .inl ⟨k,?_⟩
     have:y≠x:=fun e=>hj (jaP hN e1 (e ▸ hi))
     simp[this,e]
    .exact .inr ⟨k,c,e,z.sameBut hs (cne y c e)⟩
  .obtain⟨w',z⟩:=I.cell y c e
   exact⟨w',z.sameBut hs (cne y c e)⟩
  .obtain⟨e,n,ne,nf,d⟩:=I.pin p hp
   exact⟨(hs.2 p.1 ne).trans e,n,ne,nf,d⟩
 .have rY:X.fn x=true:=by
   rcases hf with z | z
   .exact z
   .rw[z]at hk;cases hk
  obtain⟨c,hc⟩:=I.ok.has x (.inl hk);obtain⟨w',z⟩:=I.cell x c hc;refine wpAny_storeName_cell I.ok.kind hk hc z (fun h' cF hs=>?_);obtain⟨oc,BU,HQ⟩:=id z;refine h { s with heap:=h' } ⟨I.ok,I.os,I.bare,⟨fun b o e n hb hx=>?_,fun b o e n hb hx=>?_,I.base.free,fun b o e hx=>?_,I.base.tups,I.base.frzs,I.base.tbls,fun b o xs q e hb hx=>(hs.2 b (bU (bY (aY e) (I.ok.cab x c rY hc)))).trans (I.base.stay b o xs q e hb hx)⟩,⟨m,hn.sameBut hs (cj (cne x c hc)),fun j y v' e1 e2 e3=>?_⟩,fun y c' e=>?_,I.free,I.freeC,fun p hp=>?_,AD ⟨oc,BU,I.freeC x c hc⟩ hs,by simpa using I.len⟩ ⟨c,hs,.inr hc⟩
  .exact (hs.2 b (bU (bY (aY e) (I.ok.cab x c rY hc)))).trans (I.base.keep b o e n hb hx)
  .obtain⟨sl,e1⟩:=I.base.slot b o e n hb hx
   exact⟨sl,(hs.2 b (bU (bY (aY e) (I.ok.cab x c rY hc)))).trans e1⟩
  .obtain⟨o',e1⟩:=I.base.there b o e hx
   exact⟨o',(hs.2 b (bU (bY (aY e) (I.ok.cab x c rY hc)))).trans e1⟩
  .by_cases hj:j=i
   .subst hj
    rw[hi]at e1;cases e1;rw[Am oY]at e2
    cases e2
    exact⟨u,r,.inr ⟨.inl hk,c,hc,cF⟩⟩
   .rw[An (cj hj)]at e2
    obtain⟨u',r',q⟩:=hl j y v' e1 e2 e3;refine⟨u',r',?_⟩;rcases q with q | ⟨k,c',e,z'⟩
    .exact .inl q
    .refine .inr ⟨k,c',e,z'.sameBut hs ?_⟩
     rintro rfl;exact hj (jaP hN e1 (I.ok.inj _ _ _ e hc ▸ hi))
  .by_cases hcc:c'=c
   .subst hcc;exact⟨_,cF⟩
   .obtain⟨w2,z2⟩:=I.cell y c' e
    exact⟨w2,z2.sameBut hs hcc⟩
  .obtain⟨e,n,ne,nf,d⟩:=I.pin p hp
   refine⟨(hs.2 p.1 ?_).trans e,n,ne,nf,d⟩;intro q;rw[q,BU]at e;have q':oc=p.2:=dz e;exact d w' (by rw[<- q'];exact HQ)
def YS{M:dj}{A:aN}{E:ae->af->Prop}{Q:Unit->af->Prop}(I:xJ X ad σ H s)(hN:X.N.Nodup)(hi:X.N[i]?=some x)(hx:Loc X.Ec.scope x)(r:Nh v u)
  (h:∀s',xJ X ad (σ.set i (some v)) H s'->Q () s') (hf:X.fn x=true\/X.Ec.scope.names.lookup x=some .local:=by first | exact .inl rfl | exact .inr rfl | assumption):am M A (storeName X.Ec x u) Q E s:=
 Zr I hN hi hx r (fun s' I' _=>h s' I') hf
def xJ.call'(I:xJ X ad σ H s)(ho:s'.os=s.os)(u:Un (No X.stack) ch H H' s.heap s'.heap)(hok:P6 X.prog X.w H' s'.heap)(hg:io s'.gens)
  (fe:∀b∈ch,(b∈X.ex\/X.s₀.heap.objs.size<=b)/\b≠X.Ec.locals/\(∀x c,X.Ec.cells.lookup x=some c->c≠b)/\∀p∈X.pn++ad,p.1≠b):xJ X ad σ H' s':=by
 obtain⟨h',g',d',t',o'⟩:=s'
 have e:o'=s.os:=ho
 subst e
 exact I.call (g':=g') (t':=t') (d':=d') u hok hg fe
end
abbrev XK:=ae->Option ac->Hp->Prop
abbrev St:=List (Option V)
abbrev VK:=V->Hp->Prop
abbrev TE:=St->Hp->VK->Prop
abbrev TT:=St->Hp->(Bool->Hp->Prop)->Prop
abbrev TA:=St->Hp->(List V->Hp->Prop)->Prop
structure OK where
 nx:St->Hp->Prop
 rt:VK
 bk:St->Hp->Prop:=fun _ _=>False
 ct:St->Hp->Prop:=fun _ _=>False
abbrev TS:=OK->St->Hp->Prop
def EP(X:Cx)(ad:List (ac×Obj))(σ:St)(Q:VK)(u:ae)(s':af):Prop:=∃v H',xJ X ad σ H' s'/\Nh v u/\Q v H'
def TP(X:Cx)(ad:List (ac×Obj))(σ:St)(Q:Bool->Hp->Prop)(b:Bool)(s':af):Prop:=∃H',xJ X ad σ H' s'/\Q b H'
def AP(X:Cx)(ad:List (ac×Obj))(σ:St)(Q:List V->Hp->Prop)(us:List ae)(s':af):Prop:=∃vs H',xJ X ad σ H' s'/\Nb vs us/\Q vs H'
def SP(X:Cx)(ad:List (ac×Obj))(D:OK)(f:Flow)(s':af):Prop:=
 match f with
 | .next=>∃σ' H',xJ X ad σ' H' s'/\D.nx σ' H'
 | .brk=>∃σ' H',xJ X ad σ' H' s'/\D.bk σ' H'
 | .cont=>∃σ' H',xJ X ad σ' H' s'/\D.ct σ' H'
 | .ret u=>∃v σ' H',xJ X ad σ' H' s'/\Nh v u/\D.rt v H'
def PE(X:Cx)(e:aj)(t:TE):Prop:=
 ∀(ad:List (ac×Obj)) (s:af) (σ:St) (H:Hp) (Q:VK),xJ X ad σ H s->t σ H Q->am (au X.prog X.w) X.A (eval e X.Ec) (EP X ad σ Q) X.xe s
def PT(X:Cx)(e:aj)(t:TT):Prop:=
 ∀(ad:List (ac×Obj)) (s:af) (σ:St) (H:Hp) (Q:Bool->Hp->Prop),xJ X ad σ H s->t σ H Q->am (au X.prog X.w) X.A (isTrue e X.Ec (eval e X.Ec)) (TP X ad σ Q) X.xe s
def PW(X:Cx)(e:aj)(t:TT):Prop:=
 ∀(i5:Sem ae) (ad:List (ac×Obj)) (s:af) (σ:St) (H:Hp) (Q:Bool->Hp->Prop),xJ X ad σ H s->t σ H Q->am (au X.prog X.w) X.A (isTrue e X.Ec i5) (TP X ad σ Q) X.xe s
variable {e:aj}
def PW.pt{t:TT}(h:PW X e t):PT X e t:=h _
def PA(X:Cx)(es:List aj)(t:TA):Prop:=
 ∀(x5:Pos) (ad:List (ac×Obj)) (s:af) (σ:St) (H:Hp) (Q:List V->Hp->Prop),xJ X ad σ H s->t σ H Q->am (au X.prog X.w) X.A (spliced (cG x5 (aX es X.Ec))) (AP X ad σ Q) X.xe s
def PS(X:Cx)(st:ay)(t:TS):Prop:=
 ∀(ad:List (ac×Obj)) (s:af) (σ:St) (H:Hp) (D:OK),xJ X ad σ H s->t D σ H->am (au X.prog X.w) X.A (exec st X.Ec) (SP X ad D) X.xe s
def Rj(X:Cx)(st:List ay)(t:TS):Prop:=
 ∀(ad:List (ac×Obj)) (s:af) (σ:St) (H:Hp) (D:OK),xJ X ad σ H s->t D σ H->am (au X.prog X.w) X.A (execs st X.Ec) (SP X ad D) X.xe s
variable {M:dj}{A:aN}{E:ae->af->Prop}
def Nn{α:Type}{t:Sem α}{Q Q':α->af->Prop}(h:am M A t Q E s)(hQ:∀a s,Q a s->Q' a s):am M A t Q' E s:=bz h hQ fun _ _ x=>x
variable {x5:Pos}{Q:ae->af->Prop}{ta tb:TE}
section
def RJ(i:Nat):TE:=fun σ H Q=>∃v,σ[i]?=some (some v)/\Q v H
def tC(v:V):TE:=fun _ H Q=>Q v H
def jmr(hN:X.N[i]?=some x)(hv:Vis X.Ec.scope x)(hd:(x == ("__debug__" : Str))=false:=by decide)(eQ:(x == ("__classdict__" : Str))=false:=by decide):PE X (.Name x x5) (RJ i):=by
 intro ad s σ H Q I h;obtain⟨v,e,h⟩:=h;obtain⟨m,hn,hl⟩:=I.loc;obtain⟨u,r,l⟩:=hl i x v hN e hv;have fin:EP X ad σ Q u s:=⟨v,H,I,r,h⟩
 rcases l with⟨hk,hm⟩ | ⟨hk,c,hc,Cb⟩
 .exact DS (wpAny_loadName_local I.ok.kind hk hn hm fin) hd
 .rcases hk with hk | hk
  .exact DS (wpAny_loadName_cell I.ok.kind hk hc Cb fin) hd
  .exact DS (wpAny_loadName_free I.ok.kind hk hc Cb fin eQ) hd
def Yt{i j x5}:PE X (.Constant (.int i) j x5) (tC (.int i)):=fun _ _ _ H _ I h=>wpAny_Constant_int ⟨.int i,H,I.tok _,⟨_,rfl⟩,h⟩
def Gl(X:Cx)(x:Str):Prop:=X.Ec.kindOf x=some .globalImplicit
def yt{E:ae->af->Prop}{σ:St}{x5:Pos}(I:xJ X ad σ H s)(hg:Gl X x)(hm:X.mg x=some u)(h:Q u s)
  (hd:(x == ("__debug__" : Str))=false:=by decide):am (au X.prog X.w) X.A (eval (.Name x x5) X.Ec) Q E s:=
 Oo I.ok.kind hg (Calls.loadGlobal_global (by rw[I.ok.glob];exact I.mod.glob.keeps I.bk) hm h) hd
def ZJ{E:ae->af->Prop}{σ:St}{x5:Pos}(I:xJ X ad σ H s)(hg:Gl X x)(hm:X.mg x=none)(hv:cO x=some u)(h:Q u s)
  (hn:x≠"__name__":=by decide) (hd:(x == ("__debug__" : Str))=false:=by decide):am (au X.prog X.w) X.A (eval (.Name x x5) X.Ec) Q E s:=by
 obtain⟨mb,h1,h2⟩:=I.mod.blt
 exact Oo I.ok.kind hg (Calls.loadGlobal_builtin (by rw[I.ok.glob];exact I.mod.glob.keeps I.bk) hm (by rw[I.ok.blt];exact h1.keeps I.bk) ((h2 x hn).trans hv) h) hd
variable {a b:aj}
def tB(t:TE):TT:=fun σ H Q=>t σ H fun x H1=>∃c,x=.bl c/\Q c H1
variable {tA mi:TT}{qm:List aj}
def joc(t u:TT):TT:=fun σ H Q=>t σ H fun c H1=>if c=true then u σ H1 Q else Q false H1
def tOr(t u:TT):TT:=fun σ H Q=>t σ H fun c H1=>if c=true then Q true H1 else u σ H1 Q
def jn8(t:TT):TT:=fun σ H Q=>t σ H fun c H1=>Q (!c) H1
def jlO(ta tb:TE):TE:=fun σ H Q=>ta σ H fun x H1=>∃c,x=.bl c/\if c=true then tb σ H1 Q else Q (.bl false) H1
def jmb(ta tb:TE):TE:=fun σ H Q=>ta σ H fun x H1=>∃c,x=.bl c/\if c=true then Q (.bl true) H1 else tb σ H1 Q
def jng(ta:TE):TE:=fun σ H Q=>ta σ H fun x H1=>∃c,x=.bl c/\Q (.bl (!c)) H1
def tIf(t:TT)(ta tb:TE):TE:=fun σ H Q=>t σ H fun c H1=>if c=true then ta σ H1 Q else tb σ H1 Q
end
def ES(K:ao)(H:Hp)(a:ac)(xs:List V):Prop:=
 Rd H a (.lst xs)\/
  ∃(o:Obj) (Nc:Array ae) (n:Nat),K.lookup a=some o/\o.cls=.type "list"/\o.dict=none/\o.data=.seq Nc n/\Nc.size<=aF/\Nb xs Nc.toList
def Nu(K:ao)(H:Hp)(a:ac)(xs:List V):Prop:=
 Rd H a (.tup xs)\/
  ∃(o:Obj) (Nc:Array ae) (n:Nat),K.lookup a=some o/\o.cls=.type "tuple"/\o.data=.seq Nc n/\Nc.size<=aF/\Nb xs Nc.toList
def jor:ae->Option V
 | .none=>some .non
 | .bool b=>some (.bl b)
 | .int i _=>some (.int i)
 | .str x _=>some (.str x)
 | .bytes b _=>some (.byt b)
 | .float b _=>some (.flt b)
 | .ref a=>some (.ref a)
 | .type n=>some (.ty n)
 | _=>none
def Nh.abs{x:V}(r:Nh x u):jor u=some x:=by
 cases x with
 | non=>cases r;rfl
 | bl _=>cases r;rfl
 | int _=>obtain⟨t,rfl⟩:=r;rfl
 | str _=>obtain⟨t,rfl⟩:=r;rfl
 | byt _=>obtain⟨t,rfl⟩:=r;rfl
 | flt _=>obtain⟨t,rfl⟩:=r;rfl
 | ref _=>cases r;rfl
 | ty _=>cases r;rfl
variable {y:V}
def Nh.inj{x:V}(r:Nh x u)(q:Nh y u):x=y:=dz (r.abs.symm.trans q.abs)
theorem Nb.inj:∀{xs ys:List V} {us:List ae},Nb xs us->Nb ys us->xs=ys
 | _,_,_,.nil,.nil=>rfl
 | _,_,_,.cons r t,.cons r' t'=>by rw[r.inj r',Nb.inj t t']
variable {K:ao}
section
variable {σ:St}{ys:List V}
def ES.of(h:H a=some (.lst xs)):ES K H a xs:=.inl (.inl h)
def Nu.of(h:H a=some (.tup xs)):Nu K H a xs:=.inl (.inl h)
theorem xJ.list(I:xJ X ad σ H s)(h:ES X.K H a xs):∃Nc:List ae,Nb xs Nc/\PlainL s.heap a Nc.toArray/\xs.length<=aF:=by
 rcases h with h | ⟨o,Nc,n,hk,hc,hd,hs,hz,r⟩
 .obtain⟨z,Nc,n,r,e⟩:=h.ok I.hok
  exact⟨Nc,r,⟨_,n,e,rfl,rfl,rfl⟩,z⟩
 .refine⟨Nc.toList,r,⟨o,n,I.kIn a o hk,hc,hd,by simpa using hs⟩,?_⟩
  have e:=r.length;simp only[Aw]at e;omega
theorem xJ.tuple(I:xJ X ad σ H s)(h:Nu X.K H a xs):∃Nc:List ae,Nb xs Nc/\IsTup s.heap a Nc.toArray/\xs.length<=aF:=by
 rcases h with h | ⟨o,Nc,n,hk,hc,hs,hz,r⟩
 .obtain⟨z,Nc,r,p⟩:=h.ok I.hok
  exact⟨Nc,r,p,z⟩
 .refine⟨Nc.toList,r,⟨o,I.kIn a o hk,hc,n,by simpa using hs⟩,?_⟩
  have e:=r.length;simp only[Aw]at e;omega
def xJ.list_inj(I:xJ X ad σ H s)(h:ES X.K H a xs)(h':ES X.K H a ys):xs=ys:=by
 obtain⟨Nc,r,⟨o,n,e,_,_,d⟩,_⟩:=I.list h;obtain⟨its',r',⟨o',n',e',_,_,d'⟩,_⟩:=I.list h';rw[e]at e';cases e';rw[d]at d';injection d' with d1 _;have:Nc=its':=by simpa using PR PC d1
 subst this;exact r.inj r'
def xJ.tuple_inj(I:xJ X ad σ H s)(h:Nu X.K H a xs)(h':Nu X.K H a ys):xs=ys:=by
 obtain⟨Nc,r,⟨o,e,_,n,d⟩,_⟩:=I.tuple h;obtain⟨its',r',⟨o',e',_,n',d'⟩,_⟩:=I.tuple h';rw[e]at e';cases e';rw[d]at d';injection d' with d1 _;have:Nc=its':=by simpa using PR PC d1
 subst this;exact r.inj r'
end
abbrev Cx.wish(X:Cx)(E:ae->af->Prop):Cx:={ X with xe:=E }
abbrev Cx.nox(X:Cx):Cx:=X.wish fun _ _=>False
def Cx.Ok.wish(ok:X.Ok)(E:ae->af->Prop):(X.wish E).Ok:=
 ⟨ok.mod,ok.kind,ok.glob,ok.blt,ok.above,ok.inj,ok.has,ok.cab,ok.hd,ok.frames,ok.stk,ok.exf,ok.bs,ok.bsz,ok.noex,ok.exfs,ok.funs,ok.frf⟩
def Cx.Ok.unwish(ok:(X.wish E).Ok):X.Ok:=
 ⟨ok.mod,ok.kind,ok.glob,ok.blt,ok.above,ok.inj,ok.has,ok.cab,ok.hd,ok.frames,ok.stk,ok.exf,ok.bs,ok.bsz,ok.noex,ok.exfs,ok.funs,ok.frf⟩
section
variable {σ:St}
def xJ.wish(I:xJ X ad σ H s)(E:ae->af->Prop):xJ (X.wish E) ad σ H s:=⟨I.ok.wish E,I.os,I.bare,I.base,I.loc,I.cell,I.free,I.freeC,I.pin,I.hok,I.len⟩
def xJ.unwish(I:xJ (X.wish E) ad σ H s):xJ X ad σ H s:=⟨I.ok.unwish,I.os,I.bare,I.base,I.loc,I.cell,I.free,I.freeC,I.pin,I.hok,I.len⟩
def SP.unwish{D:OK}{f:Flow}(h:SP (X.wish E) ad D f s'):SP X ad D f s':=by
 cases f with
 | next=>obtain⟨σ',H',I,q⟩:=h;exact⟨σ',H',I.unwish,q⟩
 | brk=>obtain⟨σ',H',I,q⟩:=h;exact⟨σ',H',I.unwish,q⟩
 | cont=>obtain⟨σ',H',I,q⟩:=h;exact⟨σ',H',I.unwish,q⟩
 | ret u=>obtain⟨v,σ',H',I,r,q⟩:=h;exact⟨v,σ',H',I.unwish,r,q⟩
def Rj.nox{st:List ay}{t:TS}(h:Rj X.nox st t):Rj X st t:=fun ad s σ H D I hw=>
 bz (h ad s σ H D (I.wish _) hw) (fun _ _ q=>q.unwish) fun _ _ z=>db z
end
section
variable {st:ay}{qm:List ay}{t u:TS}{te:TE}
def jdq:TS:=fun D σ H=>D.nx σ H
def jC(t u:TS):TS:=fun D σ H=>t { D with nx:=u D } σ H
def jf2:Rj X [] jdq:=fun _ _ σ H _ I h=>pD ⟨σ,H,I,h⟩
def jdI(h1:PS X st t)(h2:Rj X qm u):Rj X (st :: qm) (jC t u):=by
 intro ad s σ H D I h;refine DP (Nn (h1 ad s σ H { D with nx:=u D } I h) fun f s1 q=>?_)
 cases f with
 | next=>
  obtain⟨σ',H',I',q⟩:=q;exact h2 ad s1 σ' H' D I' q
 | ret v=>exact q
 | brk=>exact q
 | cont=>exact q
def jae(h1:PS X st t):Rj X [st] t:=by
 intro ad s σ H D I h;refine DP (Nn (h1 ad s σ H D I h) fun f s1 q=>?_)
 cases f with
 | next=>exact pD q
 | ret v=>exact q
 | brk=>exact q
 | cont=>exact q
def xJ.quiet{σ:St}(I:xJ X ad σ H s):interactive X.Ec=false:=by simp[interactive,I.ok.kind]
def SJ(te:TE):TS:=fun D σ H=>te σ H fun _ H1=>D.nx σ H1
def jkw(te:TE):TS:=fun D σ H=>te σ H D.rt
def jcL(he:PE X e te):PS X (.Return (some e) x5) (jkw te):=by intro ad s σ H D I h;exact wpAny_Return_some (Nn (he ad s σ H _ I h) fun v s1 ⟨x,H1,I1,r1,q1⟩=>⟨x,σ,H1,I1,r1,q1⟩)
def yL(c:TT)(t u:TS):TS:=fun D σ H=>c σ H fun b H1=>if b=true then t D σ H1 else u D σ H1
def jlS{c:aj}{a b:List ay}{tc:TT}(hc:PT X c tc)(ha:Rj X a t)(hb:Rj X b u):PS X (.If c a b x5) (yL tc t u):=by
 intro ad s σ H D I h;refine wpAny_If (Nn (hc ad s σ H _ I h) fun d s1 hM=>?_);obtain⟨H1,I1,q1⟩:=hM
 cases d with
 | true=>exact ha ad s1 σ H1 D I1 q1
 | false=>exact hb ad s1 σ H1 D I1 q1
end
abbrev TG:=V->St->Hp->(St->Hp->Prop)->Prop
abbrev RX:=List V->St->Hp->(St->Hp->Prop)->Prop
def PG(X:Cx)(target:aj)(t:TG):Prop:=
 ∀(ad:List (ac×Obj)) (s:af) (σ:St) (H:Hp) (v:V) (u:ae) (Q:St->Hp->Prop),xJ X ad σ H s->Nh v u->t v σ H Q->
  am (au X.prog X.w) X.A (assign target X.Ec u) (fun _ s'=>∃σ' H',xJ X ad σ' H' s'/\Q σ' H') X.xe s
def PGs(X:Cx)(ts:List aj)(t:RX):Prop:=
 ∀(ad:List (ac×Obj)) (s:af) (σ:St) (H:Hp) (vs:List V) (us:List ae) (Q:St->Hp->Prop),xJ X ad σ H s->Nb vs us->t vs σ H Q->
  am (au X.prog X.w) X.A (assignInOrder ((pF ts X.Ec).map (·.2)) us) (fun _ s'=>∃σ' H',xJ X ad σ' H' s'/\Q σ' H') X.xe s
abbrev jm4:=V->V->V->Hp->(Hp->Prop)->Prop
def jn6(X:Cx)(t:jm4):Prop:=
 ∀(ad:List (ac×Obj)) (s:af) (σ:St) (H:Hp) (o i v:V) (ov iv u:ae) (Q:Hp->Prop),xJ X ad σ H s->Nh o ov->Nh i iv->Nh v u->t o i v H Q->
  am (au X.prog X.w) X.A (setItem ov iv u) (fun _ s'=>∃H',xJ X ad σ H' s'/\Q H') X.xe s
section
def qz(i:Nat):TG:=fun v σ H Q=>Q (σ.set i (some v)) H
def jop:RX:=fun vs σ H Q=>vs=[]/\Q σ H
def jn0(t:TG)(u:RX):RX:=fun vs σ H Q=>∃v r,vs=v :: r/\t v σ H fun σ' H'=>u r σ' H' Q
def jon(K:ao)(n:Nat)(t:RX):TG:=fun v σ H Q=>∃a xs,v=.ref a/\Nu K H a xs/\xs.length=n/\t xs σ H Q
def joo(to ti:TE)(t:jm4):TG:=fun v σ H Q=>to σ H fun o H1=>ti σ H1 fun i H2=>t o i v H2 fun H3=>Q σ H3
def R8(te:TE)(g:TG):TS:=fun D σ H=>te σ H fun x H1=>g x σ H1 D.nx
def jcr(c:TT)(tb:TS):TS:=fun D σ H=>∃W:Nat->St->Hp->Prop,(∃m,W m σ H)/\∀m σ H,W m σ H->
 c σ H fun b H1=>if b=true then ∃N:St->Hp->Prop,(∀σ' H',N σ' H'->∃m',m' < m/\W m' σ' H')/\tb { D with nx:=N,ct:=N,bk:=D.nx } σ H1 else D.nx σ H1
end
structure It where
 go:Nat->Hp->Prop
 yld:Nat->Hp->V->Hp->Prop
 stop:Nat->Hp->Prop
def Z5(X:Cx)(ad:List (ac×Obj))(H:Hp)(b:ac):Prop:=
 H b=none/\b≠X.Ec.locals/\b ∉ X.fs/\(b∈X.ex\/X.s₀.heap.objs.size<=b)/\(∀x c,X.Ec.cells.lookup x=some c->c≠b)/\∀p∈X.pn++ad,p.1≠b
def xJ.fpOk{σ:St}(I:xJ X ad σ H s)(hb:s.heap.objs.size<=b)(hn:H' b=none):Z5 X ad H' b:=by
 refine⟨hn,EW (bY I.lt hb),I.nofs hb,.inr (aw I.sz hb),fun x c e z=>?_,fun p hp z=>?_⟩
 .obtain⟨v,q⟩:=I.cell x c e
  exact absurd (bY q.lt (by rw[z];exact hb)) (iY _)
 .exact absurd (bY (aY (I.pin p hp).1) (by rw[z];exact hb)) (iY _)
structure Rs(P:aC)(w:ax)(K:ao)(tg:aj)(J:It)(fp:List ac)(it:ac)(tn:Nat->ak->Prop):Prop where
 mem:it∈fp
 obj:∀i h,tn i h->∀b∈fp,∃o,h.get? b=some o/\∀v,o.data≠.cell v
 keep:∀i h h',tn i h->(∀b∈fp,∀o,h.get? b=some o->h'.get? b=some o)->tn i h'
 item:∀(X:Cx),X.prog=P->X.w=w->X.K=K->X.calm=true->∀(i:Nat) (ad:List (ac×Obj)) (s:af) (σ:St) (H:Hp) (E:ae->af->Prop),xJ X ad σ H s->(∀b∈fp,Z5 X ad H b)->tn i s.heap->J.go i H->
  am (au P w) X.A (ny (.ref it)) (fun r s1=>∃u,r=some u/\
   am (au P w) X.A (xH tg (.ref it) u) (fun _ s2=>∃x H',xJ X ad σ H' s2/\Nh x u/\J.yld i H x H'/\tn (i+1) s2.heap/\∀b∈fp,H' b=none) E s1) E s
 done:∀(X:Cx),X.prog=P->X.w=w->X.K=K->X.calm=true->∀(i:Nat) (ad:List (ac×Obj)) (s:af) (σ:St) (H:Hp) (E:ae->af->Prop),xJ X ad σ H s->(∀b∈fp,Z5 X ad H b)->tn i s.heap->J.stop i H->
  am (au P w) X.A (ny (.ref it)) (fun r s1=>r=none/\xJ X ad σ H s1) E s
 self:∀(A:aN) (i:Nat) (s:af) (Q:ae->af->Prop) (E:ae->af->Prop),tn i s.heap->Q (.ref it) s->am (au P w) A (pyIter (.ref it)) Q E s
abbrev TI:=St->Hp->(It->Hp->Prop)->Prop
def PIE(X:Cx)(ad:List (ac×Obj))(σ:St)(tg:aj)(R:It->Hp->Prop)(uV:ae)(s2:af):Prop:=
 ∃(it:ac) (fp:List ac) (tn:Nat->ak->Prop) (J:It) (H':Hp),uV=.ref it/\xJ X ad σ H' s2/\Rs X.prog X.w X.K tg J fp it tn/\tn 0 s2.heap/\(∀b∈fp,Z5 X ad H' b)/\R J H'
def PI(X:Cx)(tg iter:aj)(wi:TI):Prop:=
 ∀(ad:List (ac×Obj)) (s:af) (σ:St) (H:Hp) (R:It->Hp->Prop),xJ X ad σ H s->wi σ H R->
  am (au X.prog X.w) X.A (eval iter X.Ec) (fun v s1=>am (au X.prog X.w) X.A (pyIter v) (PIE X ad σ tg R) X.xe s1) X.xe s
variable {tg:aj}
def jjA{it:ac}{o:Obj}{n:String}{vs:Array ae}{Q:Unit->af->Prop}(ho:s.heap.get? it=some o)(hc:o.cls=.type n)(hd:o.data=.fields vs)
  (hn:["enumerate","zip","dict_itemiterator","dict_reverseitemiterator","odict_iterator","itertools.zip_longest","itertools.pairwise"].contains n=false) (hQ:Q () s):am M A (xH tg (.ref it) u) Q E s:=by
 unfold xH
 cases tg <;> first
  | exact aO hQ
  | (cases u <;> first
    | exact aO hQ
    | (refine aq (wpAny_load ho ?_)
       rw[hc,hd]
       show am M A (if (["enumerate","zip","dict_itemiterator","dict_reverseitemiterator","odict_iterator","itertools.zip_longest","itertools.pairwise"].contains n && vs[0]? == some (fq _))=true then _ else _) Q E s
       rw[PN (by intro h;rw[hn,ra]at h;cases h)]
       exact aO hQ))
def RZ(K:ao)(a:ac):It:=
 ⟨fun i H=>∃xs x,ES K H a xs/\xs[i]?=some x,fun i H x H'=>H'=H/\∀xs,ES K H a xs->xs[i]?=some x,fun i H=>∃xs,ES K H a xs/\xs.length<=i⟩
def RY(K:ao)(a:ac):It:=
 ⟨fun i H=>∃xs x,Nu K H a xs/\xs[i]?=some x,fun i H x H'=>H'=H/\∀xs,Nu K H a xs->xs[i]?=some x,fun i H=>∃xs,Nu K H a xs/\xs.length<=i⟩
def RP(lo:Int)(n:Nat):It:=⟨fun i _=>i < n,fun i H x H'=>H'=H/\x=.int (lo+i),fun i _=>n<=i⟩
theorem jgN(a it:ac):Rs P w K tg (RZ K a) [it] it (fun i h=>h.IsListIter it a i) where
 mem:=by simp
 obj:=fun i h st b hb=>by
  have e:b=it:=by simpa using hb
  subst e;obtain⟨o,e,c,d⟩:=st;exact⟨o,e,fun v z=>by rw[d]at z;cases z⟩
 keep:=fun i h h' st k=>st.at fun o e=>k it NZ o e
 item:=by
  intro X hP hw hK hc i ad s σ H E I hf st hg;subst hP hw hK;obtain⟨xs,x,hq,hx⟩:=hg;obtain⟨Nc,rv,p,hz⟩:=I.list hq;obtain⟨u,hu,ru⟩:=rv.get hx;obtain⟨f0,f1,f2,f3,f4,f5⟩:=hf it NZ;refine wpAny_pyNext_list_item st p.isList (x:=u) (by simpa using hu) fun h' ix sb=>?_
  have I1:xJ X ad σ H { s with heap:=h' }:=I.turned (t':=s.toks) (fun b o hb e=>(sb.2 b hb).trans e) f0 f1 f3 f4 f5;obtain⟨o,e,c,d⟩:=id ix;exact⟨u,rfl,jjA (s:={ s with heap:=h' }) e c d N5 ⟨x,H,I1,ru,⟨rfl,fun ys hy=>by rw[I.list_inj hy hq];exact hx⟩,ix,fun b hb=>(hf b hb).1⟩⟩
 done:=by intro X hP hw hK hc i ad s σ H E I hf st hg;subst hP hw hK;obtain⟨xs,hq,hx⟩:=hg;obtain⟨Nc,rv,p,hz⟩:=I.list hq;obtain⟨f0,f1,f2,f3,f4,f5⟩:=hf it NZ;have hl:=rv.length;exact wpAny_pyNext_list_end (I.ok.hd hc) st p.isList (by simp;omega) fun h' eb=>⟨rfl,I.turned (t':=s.toks) (fun b o hb e=>eb b o hb e) f0 f1 f3 f4 f5⟩
 self:=fun _ _ _ _ _ st h=>wpAny_pyIter_listiter st h
theorem jev(a it:ac):Rs P w K tg (RY K a) [it] it (fun i h=>h.IsTupleIter it a i) where
 mem:=by simp
 obj:=fun i h st b hb=>by
  have e:b=it:=by simpa using hb
  subst e;obtain⟨o,e,c,d⟩:=st;exact⟨o,e,fun v z=>by rw[d]at z;cases z⟩
 keep:=fun i h h' st k=>st.at fun o e=>k it NZ o e
 item:=by
  intro X hP hw hK hc i ad s σ H E I hf st hg;subst hP hw hK;obtain⟨xs,x,hq,hx⟩:=hg;obtain⟨Nc,rv,p,hz⟩:=I.tuple hq;obtain⟨u,hu,ru⟩:=rv.get hx;obtain⟨f0,f1,f2,f3,f4,f5⟩:=hf it NZ;refine wpAny_pyNext_tuple_item st (show s.heap.IsTuple a Nc.toArray from p) (x:=u) (by simpa using hu) fun h' ix sb=>?_
  have I1:xJ X ad σ H { s with heap:=h' }:=I.turned (t':=s.toks) (fun b o hb e=>(sb.2 b hb).trans e) f0 f1 f3 f4 f5;obtain⟨o,e,c,d⟩:=id ix;exact⟨u,rfl,jjA (s:={ s with heap:=h' }) e c d N5 ⟨x,H,I1,ru,⟨rfl,fun ys hy=>by rw[I.tuple_inj hy hq];exact hx⟩,ix,fun b hb=>(hf b hb).1⟩⟩
 done:=by intro X hP hw hK hc i ad s σ H E I hf st hg;subst hP hw hK;obtain⟨xs,hq,hx⟩:=hg;obtain⟨Nc,rv,p,hz⟩:=I.tuple hq;obtain⟨f0,f1,f2,f3,f4,f5⟩:=hf it NZ;have hl:=rv.length;exact wpAny_pyNext_tuple_end (I.ok.hd hc) st (show s.heap.IsTuple a Nc.toArray from p) (by simp;omega) fun h' eb=>⟨rfl,I.turned (t':=s.toks) (fun b o hb e=>eb b o hb e) f0 f1 f3 f4 f5⟩
 self:=fun _ _ _ _ _ st h=>wpAny_pyIter_tupleiter st h
theorem jew(it:ac)(lo:Int)(n:Nat):Rs P w K tg (RP lo n) [it] it (fun i h=>IsRangeIter h it (lo+(i:Nat) * 1) ((n:Int) - (i:Nat)) 1) where
 mem:=by simp
 obj:=fun i h st b hb=>by
  have e:b=it:=by simpa using hb
  subst e;exact⟨_,st,fun v z=>by
   have z':Data.fields _=Data.cell v:=z
   cases z'⟩
 keep:=fun i h h' st k=>k it NZ _ st
 item:=by
  intro X hP hw hK hc i ad s σ H E I hf st hg;subst hP hw hK;obtain⟨f0,f1,f2,f3,f4,f5⟩:=hf it NZ;have W:=Walks.range (prog:=X.prog) (w:=X.w) (I.ok.hd hc) it lo 1 n;refine W.item i s _ _ hg st fun v h' tk hv ix kk=>?_
  obtain⟨t,rfl⟩:=hv;have I1:xJ X ad σ H { s with heap:=h',toks:=tk }:=I.turned (fun b o hb e=>kk b o (by simpa using hb) e) f0 f1 f3 f4 f5;refine⟨_,rfl,jjA (s:={ s with heap:=h',toks:=tk }) (n:="range_iterator") ix rfl rfl N5 ⟨.int (lo+i),H,I1,⟨t,?_⟩,⟨rfl,rfl⟩,ix,fun b hb=>(hf b hb).1⟩⟩;rw[Int.mul_one]
 done:=by intro X hP hw hK hc i ad s σ H E I hf st hg;subst hP hw hK;obtain⟨f0,f1,f2,f3,f4,f5⟩:=hf it NZ;exact wpAny_pyNext_range_end (I.ok.hd hc) st (by have:n<=i:=hg;omega) fun h' eb=>⟨rfl,I.turned (t':=s.toks) (fun b o hb e=>eb b o hb e) f0 f1 f3 f4 f5⟩
 self:=fun _ _ _ _ _ st h=>wpAny_pyIter_rangeiter st h
variable {fp:List ac}
section
def jnT(K:ao)(tl:TE):TI:=fun σ H R=>tl σ H fun x H1=>∃a,x=.ref a/\(∃xs,ES K H1 a xs)/\R (RZ K a) H1
def jok(K:ao)(tl:TE):TI:=fun σ H R=>tl σ H fun x H1=>∃a,x=.ref a/\(∃xs,Nu K H1 a xs)/\R (RY K a) H1
theorem jdH{σ:St}{R:It->Hp->Prop}{lo hi:Int}{t u v:Tok}{tk:Nat}(I:xJ X ad σ H s)(h1:-(2 ^ 62)<=lo)(h2:lo < 2 ^ 62)(h3:-(2 ^ 62)<=hi)(h4:hi < 2 ^ 62)
  (q:R (RP lo (hi - lo).toNat) H):am (au X.prog X.w) X.A (pyIter (.ref s.heap.objs.size)) (PIE X ad σ tg R) E { s with heap:=s.heap.push { cls:=.type "range",data:=.fields #[.int lo t,.int hi u,.int 1 v] },toks:=tk }:=by
 refine wpAny_pyIter_range (IsRange.new ..) (small_one h1 h2 h3 h4) ?_
 have I1:xJ X ad σ H { s with heap:=s.heap.push { cls:=.type "range",data:=.fields #[.int lo t,.int hi u,.int 1 v] },toks:=tk }:=I.kept fun b o e=>bu _ e
 refine⟨(s.heap.push { cls:=.type "range",data:=.fields #[.int lo t,.int hi u,.int 1 v] }).objs.size,[(s.heap.push { cls:=.type "range",data:=.fields #[.int lo t,.int hi u,.int 1 v] }).objs.size],_,_,H,rfl,
  I1.kept (t':=tk) fun b o e=>bu _ e,jew _ lo (hi - lo).toNat,?_,fun b hb=>?_,q⟩
 .have e1:lo+((0:Nat):Int) * 1=lo:=by simp
  have e2:(((hi - lo).toNat:Nat):Int) - ((0:Nat):Int)=Builtin.Range.rangeSize lo hi 1:=by rw[rangeSize_one];split <;> omega
  show IsRangeIter _ _ (lo+((0:Nat):Int) * 1) ((((hi - lo).toNat:Nat):Int) - ((0:Nat):Int)) 1
  rw[e1,e2]
  exact dU _ rfl
 .have e:b=(s.heap.push { cls:=.type "range",data:=.fields #[.int lo t,.int hi u,.int 1 v] }).objs.size:=by simpa using hb
  subst e
  exact I1.fpOk (aK _) (I1.hok.fresh (aK _))
def jnS(ta:TA):TI:=fun σ H R=>ta σ H fun vs H1=>∃j:Int,vs=[.int j]/\-(2 ^ 62)<=j/\j < 2 ^ 62/\R (RP 0 j.toNat) H1
def jnR(ta:TA):TI:=fun σ H R=>ta σ H fun vs H1=>∃i j:Int,vs=[.int i,.int j]/\(-(2 ^ 62)<=i/\i < 2 ^ 62/\-(2 ^ 62)<=j/\j < 2 ^ 62)/\R (RP i (j - i).toNat) H1
def jn9(wi:TI)(g:TG)(tb:TS):TS:=fun D σ H=>wi σ H fun J H1=>∃W:Nat->Nat->St->Hp->Prop,(∃m,W 0 m σ H1)/\∀i m σ H,W i m σ H->
 (J.stop i H/\D.nx σ H)\/(J.go i H/\∃N:St->Hp->Prop,(∀σ' H',N σ' H'->∃m',m' < m/\W (i+1) m' σ' H')/\∀x H',J.yld i H x H'->g x σ H' fun σ2 H2=>tb { D with nx:=N,ct:=N,bk:=D.nx } σ2 H2)
def ZC(fp:List ac)(h:ak):List (ac×Obj):=fp.filterMap fun b=>(h.get? b).map fun o=>(b,o)
def JD{o:Obj}(hb:b∈fp)(e:h.get? b=some o):(b,o)∈ZC fp h:=O5.mpr ⟨b,hb,by rw[e];rfl⟩
def jhl{p:ac×Obj}(hp:p∈ZC fp h):p.1∈fp/\h.get? p.1=some p.2:=by
 obtain⟨b,hb,e⟩:=O5.mp hp
 cases q:h.get? b with
 | none=>rw[q]at e;cases e
 | some o=>
  rw[q]at e;have e':(b,o)=p:=dz e;subst e';exact⟨hb,q⟩
def xJ.pinned{σ:St}(I:xJ X ad σ H s)(hf:∀b∈fp,Z5 X ad H b)(ho:∀b∈fp,∃o,s.heap.get? b=some o/\∀v,o.data≠.cell v):xJ X (ad++ZC fp s.heap) σ H s:=
 I.pins_of fun p hp=>(aL.mp hp).elim (fun z=>I.pin p (bV _ z)) fun z=>by obtain⟨hb,e⟩:=jhl z;obtain⟨f0,f1,f2,_⟩:=hf p.1 hb;obtain⟨o,e',d⟩:=ho p.1 hb;rw[e]at e';cases e';exact⟨e,f0,f1,f2,d⟩
def xJ.unpinned{pl:List (ac×Obj)}{σ:St}(I:xJ X (ad++pl) σ H s):xJ X ad σ H s:=I.pins_of fun p hp=>I.pin p (bV _ (cB _ hp))
end
variable {g:TG}
theorem jjK{tb:TS}{D:OK}{σ:St}(Pv:Nat->St->Hp->Prop)(h0:Pv 0 σ H)(hl:∀i σ H,i<=xs.length->Pv i σ H->ES K H a xs)
  (hs:∀i x σ H,xs[i]?=some x->Pv i σ H->g x σ H fun σ2 H2=>tb { D with nx:=Pv (i+1),ct:=Pv (i+1),bk:=D.nx } σ2 H2) (hd:∀σ H,Pv xs.length σ H->D.nx σ H) :
  ∃W:Nat->Nat->St->Hp->Prop,(∃m,W 0 m σ H)/\∀i m σ H,W i m σ H->
   ((RZ K a).stop i H/\D.nx σ H)\/((RZ K a).go i H/\∃N:St->Hp->Prop,(∀σ' H',N σ' H'->∃m',m' < m/\W (i+1) m' σ' H')/\∀x H',(RZ K a).yld i H x H'->g x σ H' fun σ2 H2=>tb { D with nx:=N,ct:=N,bk:=D.nx } σ2 H2):=by
 refine⟨fun i m σ H=>m=xs.length - i/\i<=xs.length/\Pv i σ H,⟨xs.length,NZ,cn _,h0⟩,?_⟩
 rintro i m σ H ⟨rfl,hi,p⟩
 have q:=hl i σ H hi p
 by_cases cS:i < xs.length
 .refine .inr ⟨⟨xs,xs[i],q,by simp[cS]⟩,Pv (i+1),fun σ' H' p'=>⟨xs.length - (i+1),N4,rfl,cS,p'⟩,fun x H' y=>?_⟩
  obtain⟨e,y⟩:=y
  subst e
  exact hs i x σ _ (y xs q) p
 .have e:i=xs.length:=by omega
  subst e
  exact .inl ⟨⟨xs,q,aK _⟩,hd σ H p⟩
theorem jam{tb:TS}{D:OK}{σ:St}(Pv:Nat->St->Hp->Prop)(h0:Pv 0 σ H)(hl:∀i σ H,i<=xs.length->Pv i σ H->Nu K H a xs)
  (hs:∀i x σ H,xs[i]?=some x->Pv i σ H->g x σ H fun σ2 H2=>tb { D with nx:=Pv (i+1),ct:=Pv (i+1),bk:=D.nx } σ2 H2) (hd:∀σ H,Pv xs.length σ H->D.nx σ H) :
  ∃W:Nat->Nat->St->Hp->Prop,(∃m,W 0 m σ H)/\∀i m σ H,W i m σ H->
   ((RY K a).stop i H/\D.nx σ H)\/((RY K a).go i H/\∃N:St->Hp->Prop,(∀σ' H',N σ' H'->∃m',m' < m/\W (i+1) m' σ' H')/\∀x H',(RY K a).yld i H x H'->g x σ H' fun σ2 H2=>tb { D with nx:=N,ct:=N,bk:=D.nx } σ2 H2):=by
 refine⟨fun i m σ H=>m=xs.length - i/\i<=xs.length/\Pv i σ H,⟨xs.length,NZ,cn _,h0⟩,?_⟩
 rintro i m σ H ⟨rfl,hi,p⟩
 have q:=hl i σ H hi p
 by_cases cS:i < xs.length
 .refine .inr ⟨⟨xs,xs[i],q,by simp[cS]⟩,Pv (i+1),fun σ' H' p'=>⟨xs.length - (i+1),N4,rfl,cS,p'⟩,fun x H' y=>?_⟩
  obtain⟨e,y⟩:=y
  subst e
  exact hs i x σ _ (y xs q) p
 .have e:i=xs.length:=by omega
  subst e
  exact .inl ⟨⟨xs,q,aK _⟩,hd σ H p⟩
theorem KS{lo:Int}{n:Nat}{tb:TS}{D:OK}{σ:St}(Pv:Nat->St->Hp->Prop)(h0:Pv 0 σ H)
  (hs:∀i σ H,i < n->Pv i σ H->g (.int (lo+i)) σ H fun σ2 H2=>tb { D with nx:=Pv (i+1),ct:=Pv (i+1),bk:=D.nx } σ2 H2) (hd:∀σ H,Pv n σ H->D.nx σ H) :
  ∃W:Nat->Nat->St->Hp->Prop,(∃m,W 0 m σ H)/\∀i m σ H,W i m σ H->
   ((RP lo n).stop i H/\D.nx σ H)\/((RP lo n).go i H/\∃N:St->Hp->Prop,(∀σ' H',N σ' H'->∃m',m' < m/\W (i+1) m' σ' H')/\∀x H',(RP lo n).yld i H x H'->g x σ H' fun σ2 H2=>tb { D with nx:=N,ct:=N,bk:=D.nx } σ2 H2):=by
 refine⟨fun i m σ H=>m=n - i/\i<=n/\Pv i σ H,⟨n,NZ,cn _,h0⟩,?_⟩
 rintro i m σ H ⟨rfl,hi,p⟩
 by_cases cS:i < n
 .refine .inr ⟨cS,Pv (i+1),fun σ' H' p'=>⟨n - (i+1),N4,rfl,cS,p'⟩,fun x H' y=>?_⟩
  obtain⟨e,y⟩:=y
  subst e y
  exact hs i σ _ cS p
 .have e:i=n:=by omega
  subst e
  exact .inl ⟨aK _,hd σ H p⟩
abbrev R2:=V->V->Hp->VK->Prop
def Qm(X:Cx)(f:ae->ae->Sem ae)(r:R2):Prop:=
 ∀(ad:List (ac×Obj)) (s:af) (σ:St) (H:Hp) (x y:V) (v u:ae) (Q:VK),xJ X ad σ H s->Nh x v->Nh y u->r x y H Q->
  am (au X.prog X.w) X.A (f v u) (EP X ad σ Q) X.xe s
def UnR(X:Cx)(f:ae->Sem ae)(r:V->Hp->VK->Prop):Prop:=
 ∀(ad:List (ac×Obj)) (s:af) (σ:St) (H:Hp) (x:V) (v:ae) (Q:VK),xJ X ad σ H s->Nh x v->r x H Q->
  am (au X.prog X.w) X.A (f v) (EP X ad σ Q) X.xe s
def zO(X:Cx)(f:ae)(r:List V->Hp->VK->Prop):Prop:=
 ∀(ad:List (ac×Obj)) (s:af) (σ:St) (H:Hp) (xs:List V) (us:List ae) (Q:VK),xJ X ad σ H s->Nb xs us->r xs H Q->
  am (au X.prog X.w) X.A (call f us) (EP X ad σ Q) X.xe s
def jos(X:Cx)(r:V->Hp->(Bool->Hp->Prop)->Prop):Prop:=
 ∀(ad:List (ac×Obj)) (s:af) (σ:St) (H:Hp) (x:V) (v:ae) (Q:Bool->Hp->Prop),xJ X ad σ H s->Nh x v->r x H Q->
  am (au X.prog X.w) X.A (truthy v) (TP X ad σ Q) X.xe s
def R4(r:R2)(ta tb:TE):TE:=fun σ H Q=>ta σ H fun x H1=>tb σ H1 fun y H2=>r x y H2 Q
def tUn(r:V->Hp->VK->Prop)(ta:TE):TE:=fun σ H Q=>ta σ H fun x H1=>r x H1 Q
def rI(C:Int->Int->Prop)(g:Int->Int->V):R2:=fun x y H Q=>∃i j,x=.int i/\y=.int j/\C i j/\Q (g i j) H
def RR(g:Int->Int->V):R2:=fun x y H Q=>∃i j,x=.int i/\y=.int j/\Q (g i j) H
def rU(g:Int->V):V->Hp->VK->Prop:=fun x H Q=>∃i,x=.int i/\Q (g i) H
section
variable {a b c:aj}{tc:TE}
def jm2(ha:PE X a ta)(hb:PE X b tb){σ:St}{R:V->V->Hp->Prop}(I:xJ X ad σ H s)
  (h:ta σ H fun x H1=>tb σ H1 fun y H2=>R x y H2) {Q:ae->af->Prop} {f:ae->ae->Sem ae}
  (hf:∀v u s2 x y H2,xJ X ad σ H2 s2->Nh x v->Nh y u->R x y H2->am (au X.prog X.w) X.A (f v u) Q X.xe s2) :
  am (au X.prog X.w) X.A (eval a X.Ec) (fun v s₁=>am (au X.prog X.w) X.A (eval b X.Ec) (fun u s₂=>am (au X.prog X.w) X.A (f v u) Q X.xe s₂) X.xe s₁) X.xe s:=by
 refine Nn (ha ad s σ H _ I h) fun v s1 hM=>?_
 obtain⟨x,H1,I1,r1,q1⟩:=hM
 refine Nn (hb ad s1 σ H1 _ I1 q1) fun u s2 hM=>?_
 obtain⟨y,H2,I2,r2,q2⟩:=hM
 exact hf v u s2 x y H2 I2 r1 r2 q2
def opI{f:ae->ae->Sem ae}{C:Int->Int->Prop}{g:Int->Int->Int}
  (rule:∀(i j:Int) (t u:Tok) (s:af) (Q:ae->af->Prop) (E:ae->af->Prop),C i j->Q (.int (g i j) s.toks) { s with toks:=s.toks+1 }->am (au X.prog X.w) X.A (f (.int i t) (.int j u)) Q E s) :
  Qm X f (rI C fun i j=>.int (g i j)):=by
 intro ad s σ H x y v u Q I rx ry h
 obtain⟨i,j,rfl,rfl,hc,q⟩:=h
 obtain⟨t,rfl⟩:=rx
 obtain⟨t',rfl⟩:=ry
 exact rule i j t t' s _ _ hc ⟨.int (g i j),H,I.tok _,⟨_,rfl⟩,q⟩
def jnB{f:ae->ae->Sem ae}{g:Int->Int->Int}
  (rule:∀(i j:Int) (t u:Tok) (s:af) (Q:ae->af->Prop) (E:ae->af->Prop),Q (.int (g i j) s.toks) { s with toks:=s.toks+1 }->am (au X.prog X.w) X.A (f (.int i t) (.int j u)) Q E s) :
  Qm X f (RR fun i j=>.int (g i j)):=by
 intro ad s σ H x y v u Q I rx ry h
 obtain⟨i,j,rfl,rfl,q⟩:=h
 obtain⟨t,rfl⟩:=rx
 obtain⟨t',rfl⟩:=ry
 exact rule i j t t' s _ _ ⟨.int (g i j),H,I.tok _,⟨_,rfl⟩,q⟩
def jkW{f:ae->ae->Sem ae}{g:Int->Int->Bool}
  (rule:∀(i j:Int) (t u:Tok) (s:af) (Q:ae->af->Prop) (E:ae->af->Prop),Q (.bool (g i j)) s->am (au X.prog X.w) X.A (f (.int i t) (.int j u)) Q E s) :
  Qm X f (RR fun i j=>.bl (g i j)):=by
 intro ad s σ H x y v u Q I rx ry h
 obtain⟨i,j,rfl,rfl,q⟩:=h
 obtain⟨t,rfl⟩:=rx
 obtain⟨t',rfl⟩:=ry
 exact rule i j t t' s _ _ ⟨.bl (g i j),H,I,rfl,q⟩
def jou(i j:Int):Prop:=0<=j/\j<=1000000/\i.natAbs < 2 ^ 64
def Sr(i j:Int):Prop:=(-(2 ^ 64) < i/\i < 2 ^ 64)\/(-(2 ^ 64) < j/\j < 2 ^ 64)
def Sr.ok{i j:Int}(h:Sr i j):IntMulOk i j:=by
 rcases h with⟨h1,h2⟩ | ⟨h1,h2⟩
 .exact .of_left (intBits_le_64 h1 h2)
 .exact .of_right (intBits_le_64 h1 h2)
def qb:Qm X (gE .Add) (RR fun i j=>.int (i+j)):=jnB fun _ _ _ _ _ _ _ q=>add_int q
def Ki:Qm X (gE .Sub) (RR fun i j=>.int (i - j)):=jnB fun _ _ _ _ _ _ _ q=>sub_int q
def yE:Qm X (gE .Mult) (rI Sr fun i j=>.int (i * j)):=opI fun _ _ _ _ _ _ _ hc q=>mul_int q hc.ok
theorem JC:Qm X (gE .Mod) (rI (fun _ j=>0 < j) fun i j=>.int (i % j)):=opI fun i j _ _ _ _ _ hc q=>by have h1:(0:Int) < j:=hc;exact mod_int' N4 (by rw[Int.fmod_eq_emod_of_nonneg i N4];exact q)
def jiO:Qm X (gE .Pow) (rI jou fun i j=>.int (i ^ j.toNat)):=opI fun _ _ _ _ _ _ _ hc q=>pow_int_small hc.1 hc.2.1 hc.2.2 q
def unI{f:ae->Sem ae}{g:Int->Int}
  (rule:∀(i:Int) (t:Tok) (s:af) (Q:ae->af->Prop) (E:ae->af->Prop),Q (.int (g i) s.toks) { s with toks:=s.toks+1 }->am (au X.prog X.w) X.A (f (.int i t)) Q E s) :
  UnR X f (rU fun i=>.int (g i)):=by
 intro ad s σ H x v Q I rx h
 obtain⟨i,rfl,q⟩:=h
 obtain⟨t,rfl⟩:=rx
 exact rule i t s _ _ ⟨.int (g i),H,I.tok _,⟨_,rfl⟩,q⟩
def K8:UnR X (unaryOp .USub) (rU fun i=>.int (-i)):=unI fun _ _ _ _ _ q=>neg_int q
end
def jns:V->V->Bool
 | .non,.non=>true | .non,.int _=>true | .int _,.non=>true | .non,.bl _=>true | .bl _,.non=>true | .non,.str _=>true | .str _,.non=>true
 | .int _,.int _=>true | .bl _,.bl _=>true | .str _,.str _=>true | .byt _,.byt _=>true
 | .int _,.str _=>true | .str _,.int _=>true | .bl _,.str _=>true | .str _,.bl _=>true
 | _,_=>false
def rEq:R2:=fun x y H Q=>jns x y=true/\Q (.bl (decide (x=y))) H
def rNe:R2:=fun x y H Q=>jns x y=true/\Q (.bl (!decide (x=y))) H
def jgz{i j:Int}:decide (V.int i=V.int j)=(i == j):=by rw[dZ];simp
def jjZ{i j:Bool}:decide (V.bl i=V.bl j)=(i == j):=by rw[dZ];simp
def jgy{i j:Str}:decide (V.str i=V.str j)=(i == j):=by rw[dZ];simp
def jgA{i j:Array UInt8}:decide (V.byt i=V.byt j)=(i.toList == j.toList):=by
 rw[dZ]
 cases i
 cases j
 simp
section
variable {a b c:aj}{tc:TE}
def kM{σ:St}{Q:VK}{k k':Bool}(I:xJ X ad σ H s)(q:Q (.bl k) H)(e:k=k'):EP X ad σ Q (.bool k') s:=by subst e;exact⟨.bl k,H,I,rfl,q⟩
def j6:Qm X (dy .Eq) rEq:=by
 intro ad s σ H x y v u Q I rx ry h;obtain⟨hs,q⟩:=h
 cases x with
 | non=>
  cases rx
  cases y with
  | non=>cases ry;exact PySem.EqNone.eq_none_none (kM I q NZ)
  | bl j=>cases ry;exact PySem.EqNone.eq_none_bool (kM I q NZ)
  | int j=>obtain⟨t',rfl⟩:=ry;exact PySem.EqNone.eq_none_int (kM I q NZ)
  | str j=>obtain⟨t',rfl⟩:=ry;exact PySem.EqNone.eq_none_str (kM I q NZ)
  | _=>exact absurd (show false=true from hs) aU
 | bl i=>
  cases rx
  cases y with
  | non=>cases ry;exact PySem.EqNone.eq_bool_none (kM I q NZ)
  | bl j=>cases ry;exact eq_bool (kM I q jjZ)
  | str j=>obtain⟨t',rfl⟩:=ry;exact PySem.EqMixed.eq_bool_str (kM I q NZ)
  | _=>exact absurd (show false=true from hs) aU
 | int i=>
  obtain⟨t,rfl⟩:=rx
  cases y with
  | non=>cases ry;exact PySem.EqNone.eq_int_none (kM I q NZ)
  | int j=>obtain⟨t',rfl⟩:=ry;exact eq_int (kM I q jgz)
  | str j=>obtain⟨t',rfl⟩:=ry;exact PySem.EqMixed.eq_int_str (kM I q NZ)
  | _=>exact absurd (show false=true from hs) aU
 | str i=>
  obtain⟨t,rfl⟩:=rx
  cases y with
  | non=>cases ry;exact PySem.EqNone.eq_str_none (kM I q NZ)
  | bl j=>cases ry;exact PySem.EqMixed.eq_str_bool (kM I q NZ)
  | int j=>obtain⟨t',rfl⟩:=ry;exact PySem.EqMixed.eq_str_int (kM I q NZ)
  | str j=>obtain⟨t',rfl⟩:=ry;exact eq_str (kM I q jgy)
  | _=>exact absurd (show false=true from hs) aU
 | byt i=>
  obtain⟨t,rfl⟩:=rx
  cases y with
  | byt j=>obtain⟨t',rfl⟩:=ry;exact PySem.W.eq_bytes (kM I q jgA)
  | _=>exact absurd (show false=true from hs) aU
 | _=>cases y <;> exact absurd (show false=true from hs) aU
def SE:Qm X (dy .NotEq) rNe:=by
 intro ad s σ H x y v u Q I rx ry h;obtain⟨hs,q⟩:=h
 cases x with
 | non=>
  cases rx
  cases y with
  | non=>cases ry;exact PySem.EqNone.ne_none_none (kM I q NZ)
  | bl j=>cases ry;exact PySem.EqNone.ne_none_bool (kM I q NZ)
  | int j=>obtain⟨t',rfl⟩:=ry;exact PySem.EqNone.ne_none_int (kM I q NZ)
  | str j=>obtain⟨t',rfl⟩:=ry;exact PySem.EqNone.ne_none_str (kM I q NZ)
  | _=>exact absurd (show false=true from hs) aU
 | bl i=>
  cases rx
  cases y with
  | non=>cases ry;exact PySem.EqNone.ne_bool_none (kM I q NZ)
  | bl j=>cases ry;exact ne_bool (kM I q (PR not jjZ))
  | str j=>obtain⟨t',rfl⟩:=ry;exact PySem.EqMixed.ne_bool_str (kM I q NZ)
  | _=>exact absurd (show false=true from hs) aU
 | int i=>
  obtain⟨t,rfl⟩:=rx
  cases y with
  | non=>cases ry;exact PySem.EqNone.ne_int_none (kM I q NZ)
  | int j=>obtain⟨t',rfl⟩:=ry;exact ne_int (kM I q (PR not jgz))
  | str j=>obtain⟨t',rfl⟩:=ry;exact PySem.EqMixed.ne_int_str (kM I q NZ)
  | _=>exact absurd (show false=true from hs) aU
 | str i=>
  obtain⟨t,rfl⟩:=rx
  cases y with
  | non=>cases ry;exact PySem.EqNone.ne_str_none (kM I q NZ)
  | bl j=>cases ry;exact PySem.EqMixed.ne_str_bool (kM I q NZ)
  | int j=>obtain⟨t',rfl⟩:=ry;exact PySem.EqMixed.ne_str_int (kM I q NZ)
  | str j=>obtain⟨t',rfl⟩:=ry;exact ne_str (kM I q (PR not jgy))
  | _=>exact absurd (show false=true from hs) aU
 | byt i=>
  obtain⟨t,rfl⟩:=rx
  cases y with
  | byt j=>obtain⟨t',rfl⟩:=ry;exact PySem.W.ne_bytes (kM I q (PR not jgA))
  | _=>exact absurd (show false=true from hs) aU
 | _=>cases y <;> exact absurd (show false=true from hs) aU
def Se:Qm X (dy .Lt) (RR fun i j=>.bl (decide (i < j))):=jkW fun _ _ _ _ _ _ _ q=>lt_int q
def jlV:Qm X (dy .LtE) (RR fun i j=>.bl (decide (i<=j))):=jkW fun _ _ _ _ _ _ _ q=>le_int q
def Kj:Qm X (dy .Gt) (RR fun i j=>.bl (decide (j < i))):=jkW fun _ _ _ _ _ _ _ q=>gt_int q
def jiP:Qm X (dy .GtE) (RR fun i j=>.bl (decide (j<=i))):=jkW fun _ _ _ _ _ _ _ q=>ge_int q
def jgZ:Qm X (dy .In) (fun x y H Q=>∃i j,x=.str i/\y=.str j/\Q (.bl (!(EL j i 0 j.length 1).isEmpty)) H):=by intro ad s σ H x y v u Q I rx ry h;obtain⟨i,j,rfl,rfl,q⟩:=h;obtain⟨t,rfl⟩:=rx;obtain⟨t',rfl⟩:=ry;exact in_str (kM I q rfl)
def jmv:Qm X (dy .Is) (fun x y H Q=>y=.non/\Q (.bl (decide (x=.non))) H):=by
 intro ad s σ H x y v u Q I rx ry h;obtain⟨rfl,q⟩:=h
 cases ry
 refine is_none_gen (kM I q ?_)
 cases x <;> first
  | (cases rx;rfl)
  | (obtain⟨t,rfl⟩:=rx;rfl)
def jkV:Qm X (dy .IsNot) (fun x y H Q=>y=.non/\Q (.bl (!decide (x=.non))) H):=by
 intro ad s σ H x y v u Q I rx ry h;obtain⟨rfl,q⟩:=h
 cases ry
 refine isnot_none_gen (kM I q ?_)
 cases x <;> first
  | (cases rx;rfl)
  | (obtain⟨t,rfl⟩:=rx;rfl)
def jA(b:aj){op:CmpOp}(h:op≠.In:=by decide)(h2:op≠.NotIn:=by decide):tq op b=false:=by
 have e1:(op == CmpOp.In)=false:=by cases op <;> first | rfl | exact absurd rfl h
 have e2:(op == CmpOp.NotIn)=false:=by cases op <;> first | rfl | exact absurd rfl h2
 cases b <;> simp[tq,e1,e2]
def jlL(t:TE):TT:=fun σ H Q=>t σ H fun x H'=>∃k,x=.bl k/\Q k H'
def jf1{op:CmpOp}{r:R2}(ho:Qm X (dy op) r)(ha:PE X a ta)(hb:PE X b tb)(hm:tq op b=false):PT X (.Compare a [op] [b] x5) (jlL (R4 r ta tb)):=by
 intro ad s σ H Q I h;refine wpAny_isTrue_Compare1 (Nn (ha ad s σ H _ I h) fun v s1 ⟨x,H1,I1,r1,q1⟩=>Nn (hb ad s1 σ H1 _ I1 q1) fun u s2 ⟨y,H2,I2,r2,q2⟩=>
  Nn (ho ad s2 σ H2 x y v u _ I2 r1 r2 q2) fun c s3 ⟨z,H3,I3,r3,k,e,q3⟩=>?_) hm
 subst e
 cases r3
 exact pC ⟨H3,I3,q3⟩
def jkj(K:ao)(x:V)(H:Hp)(k:Bool):Prop:=
 match x with
 | .non=>k=false
 | .bl b=>k=b
 | .int i=>k=(i != 0)
 | .str y=>y.length<=aF/\k=((y.length:Int) != 0)
 | .byt y=>y.size<=aF/\k=((y.size:Int) != 0)
 | .ref p=>(∃xs,ES K H p xs/\k=!xs.isEmpty)\/(∃xs,Nu K H p xs/\k=!xs.isEmpty)\/∃kv,H p=some (.dK kv)/\k=!kv.isEmpty
 | _=>False
def jff{κ:Type}{kv:List (κ×V)}{vs:List (κ×ae)}(r:KV kv vs):(!vs.isEmpty)=!kv.isEmpty:=by
 cases r <;> rfl
def ja0{Nc:List ae}(r:Nb xs Nc):(!Nc.toArray.isEmpty)=!xs.isEmpty:=by
 cases r <;> simp
def Yz:(aF:Nat) < 2 ^ 63:=by rw[nv];decide
theorem jh9:jos X (fun x H Q=>∃k,jkj X.K x H k/\Q k H):=by
 intro ad s σ H x v Q I rx h;obtain⟨k,e,q⟩:=h;have hl:=Yz;have hs:aF=16777216:=nv
 cases x with
 | non=>
  cases rx
  have e':k=false:=e;subst e';exact truthy_none ⟨H,I,q⟩
 | bl b=>
  cases rx
  have e':k=b:=e;subst e';exact pC ⟨H,I,q⟩
 | int i=>
  obtain⟨t,rfl⟩:=rx;have e':k=(i != 0):=e;subst e';exact PySem.P.truthy_int ⟨H,I,q⟩
 | str y=>
  obtain⟨t,rfl⟩:=rx;obtain⟨hy,e'⟩:y.length<=aF/\k=((y.length:Int) != 0):=e;subst e';exact PySem.P.truthy_str N4 ⟨H,I.tok _,q⟩
 | byt y=>
  obtain⟨t,rfl⟩:=rx;obtain⟨hy,e'⟩:y.size<=aF/\k=((y.size:Int) != 0):=e;subst e';exact PySem.W.truthy_bytes N4 ⟨H,I.tok _,q⟩
 | ref p=>
  cases rx
  have e':(∃xs,ES X.K H p xs/\k=!xs.isEmpty)\/(∃xs,Nu X.K H p xs/\k=!xs.isEmpty)\/∃kv,H p=some (.dK kv)/\k=!kv.isEmpty:=e;rcases e' with⟨xs,hx,e'⟩ | ⟨xs,hx,e'⟩ | ⟨ah,hx,e'⟩
  .subst e'
   obtain⟨Nc,r,pl,hz⟩:=I.list hx;have bb:=r.length;exact wpAny_truthy_list pl.isList (by simp only[bQ];omega) ⟨H,I.tok _,by rw[ja0 r];exact q⟩
  .subst e'
   obtain⟨Nc,r,pl,hz⟩:=I.tuple hx;have bb:=r.length;exact truthy_tuple pl (by simp only[bQ];omega) ⟨H,I.tok _,by rw[ja0 r];exact q⟩
  .subst e'
   obtain⟨hz,hS,vs,r,m⟩:ah.length<=aF/\(p == fk)=false/\∃vs,KV ah vs/\s.heap.DictOf (qB X.prog X.w) p vs:=I.hok p _ hx;have bb:ah.length=vs.length:=xX r;exact wpAny_truthy_dict hS m N4 ⟨H,I.tok _,by rw[jff r];exact q⟩
 | _=>exact (show False from e).elim
def jw:Qm X (gE .Add) (fun x y H Q=>∃i j,x=.str i/\y=.str j/\i.length+j.length<=aF/\Q (.str (i++j)) H):=by intro ad s σ H x y v u Q I rx ry h;obtain⟨i,j,rfl,rfl,hz,q⟩:=h;obtain⟨t,rfl⟩:=rx;obtain⟨t',rfl⟩:=ry;exact add_str (fun t' tk=>⟨.str (i++j),H,I.tok _,⟨_,rfl⟩,q⟩) hz
def zB{x:V}(r:Nb [x] us):∃u,us=[u]/\Nh x u:=by
 cases r with
 | cons r1 r2=>cases r2;exact⟨_,rfl,r1⟩
def jdn{x:V}(r:Nb [x,y] us):∃u w',us=[u,w']/\Nh x u/\Nh y w':=by
 cases r with
 | cons r1 r2=>
  cases r2 with
  | cons r3 r4=>cases r4;exact⟨_,_,rfl,r1,r3⟩
def jbk:zO X (.builtin "abs") (fun xs H Q=>∃i,xs=[.int i]/\Q (.int (if i < 0 then -i else i)) H):=by intro ad s σ H xs us Q I r h;obtain⟨i,rfl,q⟩:=h;obtain⟨u,rfl,t,rfl⟩:=zB r;exact call_abs_int fun u tk=>⟨.int (if i < 0 then -i else i),H,I.tok _,⟨_,rfl⟩,q⟩
def ZM(hc:X.calm=true):zO X (.builtin "max") (fun xs H Q=>∃i j,xs=[.int i,.int j]/\Q (.int (if j > i then j else i)) H):=by
 intro ad s σ H xs us Q I r h;obtain⟨i,j,rfl,q⟩:=h;obtain⟨u,w',rfl,⟨t,rfl⟩,⟨t',rfl⟩⟩:=jdn r;refine max_two_ints (I.ok.hd hc) fun h' tk k=>⟨_,H,I.kept k,?_,q⟩
 by_cases hj:j > i
 .rw[PP hj,PP hj];exact⟨_,rfl⟩
 .rw[PN hj,PN hj];exact⟨_,rfl⟩
def jhR(hc:X.calm=true):zO X (.builtin "min") (fun xs H Q=>∃i j,xs=[.int i,.int j]/\Q (.int (if j < i then j else i)) H):=by
 intro ad s σ H xs us Q I r h;obtain⟨i,j,rfl,q⟩:=h;obtain⟨u,w',rfl,⟨t,rfl⟩,⟨t',rfl⟩⟩:=jdn r;refine min_two_ints (I.ok.hd hc) fun h' tk k=>⟨_,H,I.kept k,?_,q⟩
 by_cases hj:j < i
 .rw[PP hj,PP hj];exact⟨_,rfl⟩
 .rw[PN hj,PN hj];exact⟨_,rfl⟩
def Js:zO X (.type "int") (fun xs H Q=>(∃i,xs=[.int i]/\Q (.int i) H)\/∃k,xs=[.bl k]/\Q (.int (if k then 1 else 0)) H):=by
 intro ad s σ H xs us Q I r h;rcases h with⟨i,rfl,q⟩ | ⟨k,rfl,q⟩
 .obtain⟨u,rfl,t,rfl⟩:=zB r
  exact call_int_int ⟨.int i,H,I,⟨_,rfl⟩,q⟩
 .obtain⟨u,rfl,r1⟩:=zB r
  cases r1
  exact call_int_bool ⟨.int (if k then 1 else 0),H,I.tok _,⟨_,rfl⟩,q⟩
def Zl:zO X (.type "str") (fun xs H Q=>∃i,xs=[.int i]/\i.natAbs.log2 < 1920/\Q (.str (nj i)) H):=by intro ad s σ H xs us Q I r h;obtain⟨i,rfl,hz,q⟩:=h;obtain⟨u,rfl,t,rfl⟩:=zB r;exact PySem.P.str_of_int hz ⟨.str _,H,I.tok _,⟨_,rfl⟩,q⟩
end
structure Rk(h:ak)(x dx C:ac)(mA:Str->Option ae):Prop where
 obj:h.get? x=some (lV C dx)
 ns:h.Ns1 dx mA
 ne:dx≠x
variable {dx:ac}{mA:Str->Option ae}
def jbW(n:h.Ns1 dx mA):∃od,h.get? dx=some od/\∀name,Eh name od=some (mA name):=by
 obtain⟨o,es,ep,ho,hd,hk,_,hm⟩:=n;refine⟨o,ho,fun name=>?_⟩;have e:=hm name;unfold nsFind findBy at e;rw[<- Array.find?_toList]at e;unfold Eh;rw[hd];dsimp only;split
 .rename_i y q
  rw[q]at e;exact PR some e
 .rename_i q
  rw[q]at e;have a:es.toList.any (·.refKey)=false:=by rw[Pm];intro y hy;obtain⟨z,t,Ik⟩:=hk y (Array.mem_toList_iff.mp hy);simp[EF.refKey,Ik]
  have a':¬es.toList.any (·.refKey)=true:=by rw[a];exact aU
  rw[PN a'];exact PR some e
variable {C:ac}
def Rk.look{x:ac}(I:Rk h x dx C mA):∃od,PySem.W.InstAt h x (lV C dx) C (some od)/\∀name,Eh name od=some (mA name):=
 let ⟨od,ho,hl⟩:=jbW I.ns
 ⟨od,⟨I.obj,rfl,rfl,ho⟩,hl⟩
variable {f:ac}{kw:List (Str×ae)}
section
variable {prog:aC}{x:ac}{name:Str}{v:ae}
def jlt{fV:Bool}(X:K.In s.heap)(I:Rk s.heap x dx C mA)(hg:tx K C name=true)(hh:nF K C=true)
  (ha:bA K (.ref C) name=some none) (hv:mA name=some v) (Hu:NF v=true) (h:Q v { s with toks:=s.toks+1 }) :
  am (au prog w) A (tj (.ref x) name fV) Q E s:=by
 obtain⟨od,J,hl⟩:=I.look
 exact PySem.W.get_value X J (PySem.W.plainGet_of hg).1 (PySem.W.findObj_own hh ha rfl (by rw[hl,hv])) Hu h
theorem jkE{ns:List Str}{Q:Unit->af->Prop}(X:K.In s.heap)(I:Rk s.heap x dx C mA)
  (hs:bA K (.ref C) "__setattr__" = some (some (.builtin "object.__setattr__"))) (hp:xP K C=true) (ht:Ed K C name=some none) (hh:nF K C=true)
  (hw:xM mA ns) (hsz:ns.length<=aF)
  (h:∀h',Rk h' x dx C (fun y=>if y=name then some v else mA y)->dX dx s.heap h'->Q () { s with heap:=h',toks:=s.toks+2 }) :
  am (au prog w) A (setAttr (.ref x) name v) Q E s:=by
 obtain⟨od,J,hl⟩:=I.look
 refine PySem.W.set_plain X J hs (PySem.W.osa_open (s:={ s with toks:=s.toks+1 }) (r:=none) X J hp ht fun b=>?_)
 obtain⟨cd,hc,gX⟩:=PySem.W.any_some hh
 have hx:s.heap.get? x=some ⟨.ref C,some dx,.plain,#[]⟩:=I.obj
 refine aq (aO (aq (aq (DO hx (aq (PySem.W.Looks.here (s:={ s with toks:=s.toks+1 }) (PySem.W.looks_clsIn X hc) ?_))))))
 rw[gX]
 refine aO (a:=some dx) (aq (aO (aq ?_)))
 refine wpAny_nsSet1 (s:={ s with toks:=s.toks+1 }) I.ns fun h' mI oI=>?_
 obtain⟨oD,LF,LG,vF,QQ,fU⟩:=mI.count (xM.cons name v hw)
 refine aq (MM vF (by rw[QQ];exact M9 (aw fU (by rw[aM];omega))) ?_)
 exact aO (h _ ⟨(oI.2 _ (cj I.ne)).trans I.obj,mI,I.ne⟩ oI)
def jjq{R:tM->af->Prop}{vs:List ae}(X:K.In s.heap)(hm:xQ K C=true)
  (hi:bA K (.ref C) "__init__" = some (some (.ref f))) (hf:PySem.W.typeIn K (.ref f)=some (.type "function"))
  (h:ie (au prog w) (A.under (.builtin "type.__call__" ⟨.ref C :: vs,kw⟩)) (.call (.ref f) ⟨.ref (s.heap.objs.size+1) :: vs,kw⟩) (PySem.W.InitBack (s.heap.objs.size+1) R)
   { s with heap:=(s.heap.push iU).push (lV C s.heap.objs.size) }) :
  ie (au prog w) A (.call (.ref C) ⟨vs,kw⟩) R s:=by
 obtain⟨hh,g,d,t,os⟩:=s
 exact PySem.W.make_core (PySem.W.makes_of X hm) (PySem.W.looks_findIn X hi) (fun self=>PySem.W.bind_fn X self hf) (.inl rfl) h
end
def ze(f:Str)(v:V):List (Str×V)->List (Str×V)
 | []=>[(f,v)]
 | (g,x) :: r=>if g=f then (g,v) :: r else (g,x) :: ze f v r
theorem ZU(f g:Str)(v:V):∀fs:List (Str×V),(ze f v fs).lookup g=if g=f then some v else fs.lookup g
 | []=>by
  show eE g [(f,v)]=_;by_cases h:g=f
  .have hb:(g == f)=true:=beq_iff_eq.mpr h
   simp only[eE,hb,PP h]
  .have hb:(g == f)=false:=PQ.mpr h
   simp only[eE,hb,PN h]
 | (k,x) :: r=>by
  have ih:=ZU f g v r;rw[show ze f v ((k,x) :: r)=(if k=f then (k,v) :: r else (k,x) :: ze f v r) from rfl];by_cases hk:k=f
  .rw[PP hk]
   by_cases h:g=k
   .have hb:(g == k)=true:=beq_iff_eq.mpr h
    simp only[eE,hb,PP (h.trans hk)]
   .have hb:(g == k)=false:=PQ.mpr h
    simp only[eE,hb,PN (fun e:g=f=>h (e.trans hk.symm))]
  .rw[PN hk]
   by_cases h:g=k
   .have hb:(g == k)=true:=beq_iff_eq.mpr h
    simp only[eE,hb,PN (fun e:g=f=>hk (h.symm.trans e))]
   .have hb:(g == k)=false:=PQ.mpr h
    simp only[eE,hb];exact ih
theorem ZK(f:Str)(v:V):∀fs:List (Str×V),f∈(ze f v fs).map (·.1)/\∀g,g∈fs.map (·.1)->g∈(ze f v fs).map (·.1)
 | []=>⟨by simp[ze],fun g h=>by simp at h⟩
 | (k,x) :: r=>by
  obtain⟨i1,i2⟩:=ZK f v r;rw[show ze f v ((k,x) :: r)=(if k=f then (k,v) :: r else (k,x) :: ze f v r) from rfl];by_cases hk:k=f
  .rw[PP hk]
   subst hk;exact⟨NZ,fun g h=>by simpa using h⟩
  .rw[PN hk]
   refine⟨?_,fun g h=>?_⟩
   .rw[bn]
    exact aH _ i1
   .rw[bn]at h |-
    rcases aA.mp h with e | e
    .exact aA.mpr (.inl e)
    .exact aH _ (i2 g e)
theorem ZV(f:Str)(v:V):∀fs:List (Str×V),(ze f v fs).length<=fs.length+1
 | []=>by simp[ze]
 | (k,x) :: r=>by
  have ih:=ZV f v r;rw[show ze f v ((k,x) :: r)=(if k=f then (k,v) :: r else (k,x) :: ze f v r) from rfl];by_cases hk:k=f
  .rw[PP hk,aM,aM];omega
  .rw[PN hk,aM,aM];omega
def P2.some_of{o:Option ae}(r:P2 (some v) o):∃u,o=some u/\Nh v u:=by
 cases o with
 | none=>exact (show False from r).elim
 | some u=>exact⟨u,rfl,r⟩
def jb1(r:Nh v u):NF u=true:=by
 cases v with
 | non=>cases (show u=Value.none from r);rfl
 | bl b=>cases (show u=Value.bool b from r);rfl
 | int i=>obtain⟨t,e⟩:=(show ∃t,u=Value.int i t from r);cases e;rfl
 | str x=>obtain⟨t,e⟩:=(show ∃t,u=Value.str x t from r);cases e;rfl
 | byt b=>obtain⟨t,e⟩:=(show ∃t,u=Value.bytes b t from r);cases e;rfl
 | flt b=>obtain⟨t,e⟩:=(show ∃t,u=Value.float b t from r);cases e;rfl
 | ref a=>cases (show u=Value.ref a from r);rfl
 | ty n=>cases (show u=Value.type n from r);rfl
section
variable {fs fs':List (Str×V)}
def jc4(hok:P6 P w H h)(e:H a=some (.ins C dx fs)):∃mA,Rk h a dx C mA/\(∀f,P2 (fs.lookup f) (mA f))/\xM mA (fs.map (·.1))/\fs.length<=1000/\H dx=some (.own a):=by
 obtain⟨d,z,ne,ob,mA,n,r,q⟩:=(show Ng P w H h a (.ins C dx fs) from hok a _ e)
 exact⟨mA,⟨ob,n,ne⟩,r,q,z,d⟩
end
structure RQ(K:ao)(C:ac):Prop where
 pg:tx K C bC=true
 hd:nF K C=true
 po:xP K C=true
 sa:bA K (.ref C) "__setattr__" = some (some (.builtin "object.__setattr__"))
def RQ.get(c:RQ K C)(f:Str):tx K C f=true:=c.pg
def Pz(K:ao)(C:ac)(f:Str):Prop:=bA K (.ref C) f=some none
def Pz.taker{f:Str}(n:Pz K C f):Ed K C f=some none:=by unfold Ed;rw[show bA K (.ref C) f=some none from n];rfl
section
variable {σ:St}{fs:List (Str×V)}{f:Str}
def jfj{b:Bool}(I:xJ X ad σ H s)(e:H a=some (.ins C dx fs))(c:RQ X.K C)(n:Pz X.K C f)(l:fs.lookup f=some v)
  (h:∀u s',xJ X ad σ H s'->Nh v u->Q u s'):am (au X.prog X.w) A (tj (.ref a) f b) Q E s:=by
 obtain⟨mA,O,r,_,_,_⟩:=jc4 I.hok e
 obtain⟨u,hu,ru⟩:=P2.some_of (v:=v) (o:=mA f) (by rw[<- l];exact r f)
 exact jlt I.kIn O (c.get f) c.hd n hu (jb1 ru) (h u _ (I.tok _) ru)
theorem jeE{Q:Unit->af->Prop}(I:xJ X ad σ H s)(e:H a=some (.ins C dx fs))(c:RQ X.K C)(n:Pz X.K C f)(hl:fs.length < 1000)(ry:Nh y u)
  (h:∀s',xJ X ad σ (upd H a (.ins C dx (ze f y fs))) s'->Q () s'):am (au X.prog X.w) A (setAttr (.ref a) f u) Q E s:=by
 obtain⟨mA,O,r,wi,_,ho⟩:=jc4 I.hok e
 have hz:(fs.map (·.1)).length<=aF:=by rw[av,nv];omega
 refine jkE I.kIn O c.sa c.po n.taker c.hd wi hz fun h' O' sb=>h _ ?_
 have hd:∃o,h'.get? dx=some o:=let ⟨o,_,_,e',_⟩:=O'.ns;⟨o,e'⟩
 refine I.write (x:=a) (e:=dx) (by rw[e];exact True.intro) (.inr ho) (fun b q hb z=>(sb.2 b hb).trans z) hd ?_
 refine⟨by rw[jq O.ne];exact ho,?_,O.ne,O'.obj,_,O'.ns,fun g=>?_,fun g hg=>?_⟩
 .have:=ZV f y fs;omega
 .show P2 ((ze f y fs).lookup g) (if g=f then some u else mA g)
  rw[ZU]
  by_cases q:g=f
  .rw[PP q,PP q];exact ry
  .rw[PN q,PN q];exact r g
 .by_cases q:g=f
  .rw[q];exact (ZK f y fs).1
  .refine (ZK f y fs).2 g (wi g fun z=>hg ?_)
   show (if g=f then some u else mA g)=none
   rw[PN q];exact z
def xJ.made(I:xJ X ad σ H s):xJ X ad σ (upd (upd H s.heap.objs.size (.own (s.heap.objs.size+1))) (s.heap.objs.size+1) (.ins C s.heap.objs.size []))
  { s with heap:=(s.heap.push iU).push (lV C s.heap.objs.size) }:=by
 have e1:(s.heap.push iU).get? s.heap.objs.size=some iU:=dU s.heap rfl
 have e2:((s.heap.push iU).push (lV C s.heap.objs.size)).get? (s.heap.objs.size+1)=some (lV C s.heap.objs.size):=by have:=dU (s.heap.push iU) (o:=lV C s.heap.objs.size) rfl;rwa [pK]at this
 have e3:(s.heap.push iU).Ns s.heap.objs.size (fun _=>none):=⟨iU,#[],_,e1,rfl,(fun e he=>absurd he NZ),fun _=>rfl⟩
 have I1:=I.laid (a:=s.heap.objs.size) (o:=.own (s.heap.objs.size+1)) (h':=s.heap.push iU) (t':=s.toks) (fun b u q=>bu _ q) (aK _) ⟨_,e1⟩
 refine I1.laid (a:=s.heap.objs.size+1) (o:=.ins C s.heap.objs.size []) (t':=s.toks) (fun b u q=>bu _ q) (E3 (pK _ _)) ?_
 have ne:s.heap.objs.size≠s.heap.objs.size+1:=bU (EX _)
 refine⟨by rw[jq ne,jc],cn _,ne,e2,fun _=>none,(N8 e3).at fun o q=>bu _ q,fun _=>True.intro,fun y hy=>absurd rfl hy⟩
def jgE{prog:aC}{Ec:Env}{f:Str}(hb:lT e f Ec (eval e Ec)=eval e Ec)
  (h:am (au prog w) A (eval e Ec) (fun o s₁=>am (au prog w) A (tj o f true) Q E s₁) E s):am (au prog w) A (eval (.Attribute e f x5) Ec) Q E s:=
 Attribute_any_ h (by rw[arm_eval_Attribute,hb])
end
def joa(K:ao)(ta:TE)(f:Str):TE:=fun σ H Q=>ta σ H fun x H1=>∃a C dx fs v,x=.ref a/\H1 a=some (.ins C dx fs)/\RQ K C/\Pz K C f/\fs.lookup f=some v/\Q v H1
def jod(K:ao)(ta tv:TE)(f:Str):TS:=fun D σ H=>tv σ H fun y H1=>ta σ H1 fun x H2=>∃a C dx fs,x=.ref a/\H2 a=some (.ins C dx fs)/\RQ K C/\Pz K C f/\fs.length < 1000/\
 D.nx σ (upd H2 a (.ins C dx (ze f y fs)))
section
variable {σ:St}{c:ae}{b:Bool}
inductive Qs(K:ao)(H:Hp):V->ae->Prop where
 | non:Qs K H .non (.type "NoneType")
 | bl (x:Bool):Qs K H (.bl x) (.type "bool")
 | int (i:Int):Qs K H (.int i) (.type "int")
 | str (x:Str):Qs K H (.str x) (.type "str")
 | flt (x:UInt64):Qs K H (.flt x) (.type "float")
 | lst {a:ac} {xs:List V} (e:H a=some (.lst xs)):Qs K H (.ref a) (.type "list")
 | frz {a:ac} {o:Obj} {xs:List V} (e:H a=some (.frz o (.lst xs))):Qs K H (.ref a) (.type "list")
 | tup {a:ac} {xs:List V} (e:H a=some (.tup xs)):Qs K H (.ref a) (.type "tuple")
 | dK {a:ac} {ah:List (PV×V)} (e:H a=some (.dK ah)):Qs K H (.ref a) (.type "dict")
 | dT {a:ac} {ah:List (List PV×V)} (e:H a=some (.dT ah)):Qs K H (.ref a) (.type "dict")
 | ins {a C dx:ac} {fs:List (Str×V)} (e:H a=some (.ins C dx fs)) (cl:RQ K C) (ha:bA K (.ref C) "__class__" = some (some (.builtin "object.__class__"))) (hn:PySem.W.specialIn K (.builtin "object.__class__") "__get__" = some (some (.builtin "getset_descriptor.__get__"))) (mE:PySem.W.takesIn K (.builtin "object.__class__")=some true) (hm:PySem.W.mroIn K C (.type "object")=some true):Qs K H (.ref a) (.ref C)
def jhw{x:V}{t:ae}(I:xJ X ad σ H s)(rx:Nh x u)(ty:Qs X.K H x t)(e:fZ X.K t c=some b)(h:∀tk,Q (.bool b) { s with toks:=tk }):
  am (au X.prog X.w) A (call (.builtin "isinstance") [u,c]) Q E s:=by
 cases ty with
 | non=>cases (show u=Value.none from rx);exact gF PySem.W.kitx_none I.kIn True.intro e (fun z=>nomatch z) h
 | bl y=>cases (show u=Value.bool y from rx);exact gF PySem.W.kitx_bool I.kIn True.intro e (fun z=>nomatch z) h
 | int i=>obtain⟨t,q⟩:=(show ∃t,u=Value.int i t from rx);cases q;exact gF PySem.W.kitx_int I.kIn True.intro e (fun z=>nomatch z) h
 | str y=>obtain⟨t,q⟩:=(show ∃t,u=Value.str y t from rx);cases q;exact gF PySem.W.kitx_str I.kIn True.intro e (fun z=>nomatch z) h
 | flt y=>obtain⟨t,q⟩:=(show ∃t,u=Value.float y t from rx);cases q;exact gF PySem.W.kitx_float I.kIn True.intro e (fun z=>nomatch z) h
 | @lst a xs ea=>
  cases (show u=Value.ref a from rx)
  obtain⟨_,_,n,_,h1⟩:=(show Ng X.prog X.w H s.heap a (.lst xs) from I.hok a _ ea)
  exact gF NC I.kIn ⟨_,h1,rfl⟩ e (fun z=>nomatch z) h
 | @frz a ob xs ea=>
  cases (show u=Value.ref a from rx)
  obtain⟨_,_,_,n,_,h1⟩:=(show Ng X.prog X.w H s.heap a (.frz ob (.lst xs)) from I.hok a _ ea)
  exact gF NC I.kIn ⟨_,h1,rfl⟩ e (fun z=>nomatch z) h
 | @tup a xs ea=>
  cases (show u=Value.ref a from rx)
  obtain⟨_,_,_,p⟩:=(show Ng X.prog X.w H s.heap a (.tup xs) from I.hok a _ ea)
  obtain⟨o,h1,h2,_⟩:=p
  exact gF PySem.W.kitx_tuple I.kIn ⟨o,h1,h2⟩ e (fun z=>nomatch z) h
 | @dK a ah ea=>
  cases (show u=Value.ref a from rx)
  obtain⟨_,_,vs,_,p⟩:=(show Ng X.prog X.w H s.heap a (.dK ah) from I.hok a _ ea)
  obtain⟨o,es,ep,h1,h2,_⟩:=p
  exact gF ND I.kIn ⟨o,h1,h2.1⟩ e (fun z=>nomatch z) h
 | @dT a ah ea=>
  cases (show u=Value.ref a from rx)
  obtain⟨_,_,xs,_,o,es,ep,h1,h2,_⟩:=(show Ng X.prog X.w H s.heap a (.dT ah) from I.hok a _ ea)
  exact gF ND I.kIn ⟨o,h1,h2.1⟩ e (fun z=>nomatch z) h
 | @ins a C dx fs ea cl ha hn mE hm=>
  cases (show u=Value.ref a from rx)
  obtain⟨mA,O,_⟩:=jc4 I.hok ea
  obtain⟨od,J,_⟩:=O.look
  exact gF (PySem.W.kitx_own (cl.get _) cl.hd ha hn mE hm) I.kIn J e (fun z=>nomatch z) h
end
structure Np(k:Nat)(A:aN):Prop where
 hd:A.handled=none
 dp:A.depth+3 * k+5 < recursionLimit
 un:A.units+16 * k+200 < cLine
 gd:A.guards=some []
theorem Np.mono{j k:Nat}(r:Np k A)(h:j<=k):Np j A:=⟨r.hd,by have:=r.dp;omega,by have:=r.un;omega,r.gd⟩
theorem Np.deeper{k:Nat}(r:Np (k+1) A)(Ec:Env):Np k (A.deeper Ec):=
 ⟨r.hd,by have:=r.dp;show A.depth+1+3 * k+5 < _;omega,by have:=r.un;show A.units+3+16 * k+200 < _;omega,r.gd⟩
theorem Np.in1{k:Nat}(r:Np (k+1) A):Np k A.in1:=
 ⟨r.hd,by have:=r.dp;show A.depth+3 * k+5 < _;omega,by have:=r.un;show A.units+1+16 * k+200 < _;omega,r.gd⟩
def je8:(A.under (.builtin "type.__call__" ⟨.ref C :: us,kw⟩)).depth=A.depth+1:=by first | rfl | simp[EN,Code.weight,Code.isCreation,Code.isGuard,Code.isCaller,Om,EH,guardIds]
def je7:(A.under (.builtin "type.__call__" ⟨.ref C :: us,kw⟩)).units=A.units+1:=by first | rfl | simp[EN,Code.cUnits,Om,EH]
def jdU:(A.under (.builtin "type.__call__" ⟨.ref C :: us,kw⟩)).guards=A.guards:=by first | rfl | (cases A with | mk a b c d e=>cases d <;> rfl)
theorem Np.make{k:Nat}(r:Np (k+1) A)(C:ac)(us:List ae)(kw:List (Str×ae)):Np k (A.under (.builtin "type.__call__" ⟨.ref C :: us,kw⟩)):=
 ⟨r.hd,by have:=r.dp;rw[je8];omega,by have:=r.un;rw[je7];omega,by rw[jdU];exact r.gd⟩
theorem Np.depth{k:Nat}(r:Np k A):A.depth < recursionLimit:=by have:=r.dp;omega
theorem Np.units{k:Nat}(r:Np k A):A.units+64 < cLine:=by have:=r.un;omega
def RI:TA:=fun _ H Q=>Q [] H
def yM(ta:TE)(tr:TA):TA:=fun σ H Q=>ta σ H fun x H1=>tr σ H1 fun xs H2=>Q (x :: xs) H2
variable {es:List aj}
section
variable {te:TE}{t:TA}
def Yu:PA X [] RI:=fun _ _ _ _ H Q I h=>Calls.spliced_nil ⟨[],H,I,.nil,h⟩
def jkU(ha:PE X e te)(hr:PA X es t)(hs:aX (e :: es) X.Ec=(false,eval e X.Ec) :: aX es X.Ec:=by rfl):PA X (e :: es) (yM te t):=by intro x5 ad s σ H Q I h;rw[hs];show am _ _ (spliced ((false,eval e X.Ec) :: cG x5 (aX es X.Ec))) _ _ s;refine Calls.spliced_cons (Nn (ha ad s σ H _ I h) fun u s1 hM=>?_);obtain⟨x,H1,I1,r1,q1⟩:=hM;exact Nn (hr x5 ad s1 σ H1 _ I1 q1) fun us s2 ⟨xs,H2,I2,r2,q2⟩=>⟨x :: xs,H2,I2,.cons r1 r2,q2⟩
def jn7(t:TA):TE:=fun σ H Q=>t σ H fun xs H1=>xs.length<=aF/\∀p,H1 p=none->Q (.ref p) (upd H1 p (.tup xs))
def jky(t:TA):TE:=fun σ H Q=>t σ H fun xs H1=>xs.length<=aF/\∀p,H1 p=none->Q (.ref p) (upd H1 p (.lst xs))
def jiJ(h:PA X es t):PE X (.List es x5) (jky t):=by intro ad s σ H Q I hq;refine wpAny_List_spliced (Nn (h x5 ad s σ H _ I hq) fun us s1 ⟨xs,H1,I1,r,z,q⟩=>⟨by rw[<- r.length];exact z,?_⟩);have hf:H1 s1.heap.objs.size=none:=I1.hok.fresh (aK _);refine⟨.ref s1.heap.objs.size,upd H1 s1.heap.objs.size (.lst xs),I1.laid (t':=s1.toks) (fun b u e=>bu _ e) (aK _) ?_,rfl,q _ hf⟩;exact⟨z,us,0,r,dU _ rfl⟩
end
abbrev Sp:=List V->Hp->VK->XK->Prop
abbrev RH:=List Env->Hp->af->XK->ae->af->Prop
structure QH(P:aC)(w:ax)(K:ao)(mg:Str->Option ae)(base:ak)(A:aN)(iw:List Env)(s:af)(H:Hp):Prop where
 frames:A.frames=some iw
 mod:Mod K mg base
 bs:∀b o,base.get? b=some o->s.heap.get? b=some o/\H b=none
 bsz:base.objs.size<=s.heap.objs.size
 funs:s.heap.FunFrames base iw
 frf:∀b∈No iw,H b=none
 hok:P6 P w H s.heap
 bare:io s.gens
def CE(iw:List Env)(P:aC)(w:ax)(H:Hp)(s:af)(Q:VK)(u:ae)(s':af):Prop:=
 ∃v H',s'.os=s.os/\io s'.gens/\Un (No iw) [] H H' s.heap s'.heap/\P6 P w H' s'.heap/\Nh v u/\Q v H'
def CR(CX:RH)(iw:List Env)(P:aC)(w:ax)(H:Hp)(s:af)(Q:VK)(E:XK)(r:tM)(s':af):Prop:=
 match r with
 | .ok (.ret u)=>CE iw P w H s Q u s'
 | .ok _=>False
 | .error e=>CX iw H s E e s'
structure MT(P:aC)(w:ax)(K:ao)(mg:Str->Option ae)(base:ak)(CX:RH)(k:Nat)(f:ac)(fd:aE)(ps:List Str)(sp:Sp):Prop where
 len:∀vs H Q E,sp vs H Q E->vs.length=ps.length
 run:∀(A:aN) (iw:List Env) (s:af) (H:Hp) (args:Args) (us:List ae) (vs:List V) (Q:VK) (E:XK),Np k A->QH P w K mg base A iw s H->pS s fd args (ps.zip us)->Nb vs us->sp vs H Q E->
  ie (au P w) A (.call (.ref f) args) (CR CX iw P w H s Q E) s
variable {mg:Str->Option ae}{base:ak}{iw:List Env}
def QH.make(e:QH P w K mg base A iw s H)(C:ac)(us:List ae)(kw:List (Str×ae)):
  QH P w K mg base (A.under (.builtin "type.__call__" ⟨.ref C :: us,kw⟩)) iw s H:=⟨by first | exact e.frames | (simpa[EN,Code.envs,EH,pushEnvs]using e.frames),e.mod,e.bs,e.bsz,e.funs,e.frf,e.hok,e.bare⟩
def QH.in1(e:QH P w K mg base A iw s H):
  QH P w K mg base A.in1 iw s H:=⟨e.frames,e.mod,e.bs,e.bsz,e.funs,e.frf,e.hok,e.bare⟩
section
variable {σ:St}
def xJ.env0(I:xJ X ad σ H s):QH X.prog X.w X.K X.mg X.base X.A X.stack s H:=
 ⟨I.ok.frames,I.ok.mod,I.bs,aw I.ok.bsz I.sz,I.stack,I.stkFree,I.hok,I.bare⟩
def xJ.after{Q:VK}(I:xJ X ad σ H s)(h:CE X.stack X.prog X.w H s Q u s'):EP X ad σ Q u s':=by obtain⟨v,H',os,bare,un,hok,r,q⟩:=h;obtain⟨hh,g,d,t,uK⟩:=s';obtain rfl:uK=s.os:=os;exact⟨v,H',I.call (h':=hh) (g':=g) (d':=d) (t':=t) (ch:=[]) un hok bare (fun b z=>absurd z NZ),r,q⟩
end
def zM(sp:Sp)(cb:List V)(E:XK)(t:TA):TE:=fun σ H Q=>t σ H fun vs H1=>sp (vs++cb) H1 Q E
def jfJ(C:ac)(sp:Sp)(cb:List V)(E:XK)(t:TA):TE:=fun σ H Q=>t σ H fun vs H1=>∀x dx,H1 x=none->H1 dx=none->dx≠x->
 sp (.ref x :: (vs++cb)) (upd (upd H1 dx (.own x)) x (.ins C dx [])) (fun v H2=>v=.non/\Q (.ref x) H2) E
def Nr(K:ao)(fd:aE)(ps:List Str)(ds:List ae):Prop:=
 ∀(s:af) (us:List ae),K.In s.heap->(us++ds).length=ps.length->pS s fd ⟨us,[]⟩ (ps.zip (us++ds))
variable {ps:List Str}
def Nr.all{fd:aE}(h:∀us:List ae,us.length=ps.length->bindArgs fd ⟨us,[]⟩=pure (ps.zip us)):Nr K fd ps []:=fun s us _ hl=>by rw[bE]at hl |-;exact .of_eq (h us hl)
def ym(CX:RH)(X:Cx)(E:XK):Prop:=∀(ad:List (ac×Obj)) (σ:St) (H:Hp) (s:af) (e:ae) (s':af),xJ X ad σ H s->CX X.stack H s E e s'->X.xe e s'
variable {CX:RH}{vs:List V}
section
variable {k:Nat}{fd:aE}{sp:Sp}{cb:List V}{ds:List ae}{E:XK}{m:Str}{p dr:Pos}{o:aj}{t:TA}
def jeM{σ:St}{Q:VK}(F:MT X.prog X.w X.K X.mg X.base CX k f fd ps sp)(hr:Np k X.A)(hb:Nr X.K fd ps ds)(hd:Nb cb ds)(hx:ym CX X E)
  (I:xJ X ad σ H s) (r:Nb vs us) (h:sp (vs++cb) H Q E):am (au X.prog X.w) X.A (call (.ref f) us) (EP X ad σ Q) X.xe s:=by
 have r2:Nb (vs++cb) (us++ds):=r.append hd
 have hl:(us++ds).length=ps.length:=by rw[<- r2.length];exact F.len _ _ _ _ h
 refine lP (lS (F.run X.A X.stack s H ⟨us,[]⟩ (us++ds) (vs++cb) Q E hr I.env0 (hb s us I.kIn hl) r2 h) fun r s' hq=>?_)
 cases r with
 | error e=>exact hx ad σ H s e s' I hq
 | ok fl=>
  cases fl with
  | ret u=>exact I.after hq
  | next=>exact db hq
  | brk=>exact db hq
  | cont=>exact db hq
def jcQ(F:MT X.prog X.w X.K X.mg X.base CX k f fd ps sp)(hr:Np k X.A)(hg:Gl X x)(hm:X.mg x=some (.ref f))(hk:di X.K (.ref f)=true)(hb:Nr X.K fd ps ds)(hd:Nb cb ds)(hx:ym CX X E)
  (ha:PA X (e :: es) t) (cV:(x == ("__debug__" : Str))=false:=by decide) (he:aX (e :: es) X.Ec=(false,eval e X.Ec) :: aX es X.Ec:=by rfl) (df:(cG x5 (aX es X.Ec)).any (·.1)=false:=by rfl) :
  PE X (.Call (.Name x p) (e :: es) [] x5) (zM sp cb E t):=by
 intro ad s σ H Q I h
 refine iR (yt I hg hm ?_ cV)
 refine xR (h₀:=X.base) I.ok.mod.kin hk (Nn (ha x5 ad s σ H _ I h) fun us s1 ⟨vs,H1,I1,r,q⟩=>⟨I1.kIn,?_⟩) he df
 exact jeM F hr hb hd hx I1 r q
def jiL(F:MT X.prog X.w X.K X.mg X.base CX k f fd ps sp)(hr:Np k X.A)(hg:Gl X x)(hm:X.mg x=some (.ref f))(hk:di X.K (.ref f)=true)(hb:Nr X.K fd ps ds)(hd:Nb cb ds)(hx:ym CX X E)
  (cV:(x == ("__debug__" : Str))=false:=by decide):PE X (.Call (.Name x p) [] [] x5) (zM sp cb E RI):=by
 intro ad s σ H Q I h
 refine iR (yt I hg hm ?_ cV)
 exact NH I.kIn hk (jeM (us:=[]) F hr hb hd hx I .nil h)
structure Mk(K:ao)(C f:ac):Prop where
 makes:xQ K C=true
 init:bA K (.ref C) "__init__" = some (some (.ref f))
 fn:PySem.W.isFn K (.ref f)=true
 kp:di K (.ref C)=true
def jdB{σ:St}{Q:VK}(M:Mk X.K C f)(F:MT X.prog X.w X.K X.mg X.base CX k f fd ps sp)(hr:Np (k+1) X.A)(hb:Nr X.K fd ps ds)(hd:Nb cb ds)
  (hx:ym CX X E) (I:xJ X ad σ H s) (r:Nb vs us)
  (h:∀x dx,H x=none->H dx=none->dx≠x->sp (.ref x :: (vs++cb)) (upd (upd H dx (.own x)) x (.ins C dx [])) (fun v H2=>v=.non/\Q (.ref x) H2) E) :
  am (au X.prog X.w) X.A (call (.ref C) us) (EP X ad σ Q) X.xe s:=by
 have hq:=h (s.heap.objs.size+1) s.heap.objs.size (I.hok.fresh (fB _)) (I.hok.fresh (aK _)) (bU (EX _))
 have I2:=xJ.made (C:=C) I
 have r2:Nb (V.ref (s.heap.objs.size+1) :: (vs++cb)) (Value.ref (s.heap.objs.size+1) :: (us++ds)):=.cons rfl (r.append hd)
 have hl:(Value.ref (s.heap.objs.size+1) :: us++ds).length=ps.length:=by have e:=r2.length;rw[F.len _ _ _ _ hq]at e;exact e.symm
 refine lP (jjq (f:=f) I.kIn M.makes M.init (beq_iff_eq.mp M.fn) (lS (F.run _ X.stack _ _ ⟨Value.ref (s.heap.objs.size+1) :: us,[]⟩ (Value.ref (s.heap.objs.size+1) :: (us++ds)) _ _ E (hr.make C us [])
  (I2.env0.make C us []) (hb _ (Value.ref (s.heap.objs.size+1) :: us) I2.kIn hl) r2 hq) fun r s' fN=>?_))
 cases r with
 | error e=>exact hx ad σ _ _ e s' I2 fN
 | ok fl=>
  cases fl with
  | ret u=>
   obtain⟨v,H',I3,rv,ev,q3⟩:=I2.after fN
   subst ev
   exact⟨rv,⟨V.ref (s.heap.objs.size+1),H',I3,rfl,q3⟩⟩
  | next=>exact db fN
  | brk=>exact db fN
  | cont=>exact db fN
def jkS(M:Mk X.K C f)(F:MT X.prog X.w X.K X.mg X.base CX k f fd ps sp)(hr:Np (k+1) X.A)(hg:Gl X x)(hm:X.mg x=some (.ref C))(hb:Nr X.K fd ps ds)(hd:Nb cb ds)(hx:ym CX X E)
  (ha:PA X (e :: es) t) (cV:(x == ("__debug__" : Str))=false:=by decide) (he:aX (e :: es) X.Ec=(false,eval e X.Ec) :: aX es X.Ec:=by rfl) (df:(cG x5 (aX es X.Ec)).any (·.1)=false:=by rfl) :
  PE X (.Call (.Name x p) (e :: es) [] x5) (jfJ C sp cb E t):=by
 intro ad s σ H Q I h
 refine iR (yt I hg hm ?_ cV)
 refine xR (h₀:=X.base) I.ok.mod.kin M.kp (Nn (ha x5 ad s σ H _ I h) fun us s1 ⟨vs,H1,I1,r,q⟩=>⟨I1.kIn,?_⟩) he df
 exact jdB M F hr hb hd hx I1 r q
def jiI(M:Mk X.K C f)(F:MT X.prog X.w X.K X.mg X.base CX k f fd ps sp)(hr:Np (k+1) X.A)(hg:Gl X x)(hm:X.mg x=some (.ref C))(hb:Nr X.K fd ps ds)(hd:Nb cb ds)(hx:ym CX X E)
  (cV:(x == ("__debug__" : Str))=false:=by decide):PE X (.Call (.Name x p) [] [] x5) (jfJ C sp cb E RI):=by
 intro ad s σ H Q I h
 refine iR (yt I hg hm ?_ cV)
 exact NH I.kIn M.kp (jdB (us:=[]) M F hr hb hd hx I .nil h)
end
structure tS(N P:List Str)(sc:ce):Prop where
 kind:sc.kind=.function
 co:sc.isCoroutine=false
 gen:sc.isGenerator=false
 nd:N.Nodup
 pre:N.take P.length=P
 par:∀x∈P,sc.names.lookup x=some .local\/sc.names.lookup x=some .cell
 nofree:∀y∈sc.names,y.2≠.free
theorem jcf{kindOf:Str->Option ge}{x:Str}:∀{binds:List (Str×ae)} {m:Str->Option ae},(∀v,(x,v) ∉ binds)->bindL kindOf binds m x=m x
 | [],_,_=>rfl
 | (n,v) :: r,m,h=>by
  unfold bindL;rw[jcf fun w hw=>h w (aH _ hw)];split
  .have:x≠n:=by rintro rfl;exact h v aJ
   simp[this]
  .rfl
theorem jch{kindOf:Str->Option ge}{x:Str}:∀{binds:List (Str×ae)} {m:Str->Option ae},(∀v,(x,v) ∉ binds)->bindC kindOf binds m x=m x
 | [],_,_=>rfl
 | (n,v) :: r,m,h=>by
  unfold bindC;rw[jch fun w hw=>h w (aH _ hw)];split
  .rfl
  .have:x≠n:=by rintro rfl;exact h v aJ
   simp[this]
theorem jcg{kindOf:Str->Option ge}{x:Str}{v:ae}:∀{P:List Str} {vs:List ae} {i:Nat} {m:Str->Option ae},P.Nodup->P[i]?=some x->vs[i]?=some v->kindOf x=some .local->
  bindL kindOf (P.zip vs) m x=some v
 | [],_,_,_,_,h,_,_=>by simp at h
 | _ :: _,[],_,_,_,_,h,_=>by simp at h
 | p :: P,w :: vs,0,m,nd,h1,h2,hk=>by
  simp at h1 h2;subst h1;subst h2;show bindL kindOf ((p,w) :: P.zip vs) m p=_;unfold bindL;rw[jcf fun v hv=>(bM.mp nd).1 (E9 hv).1,PP hk];simp
 | p :: P,w :: vs,i+1,m,nd,h1,h2,hk=>by show bindL kindOf ((p,w) :: P.zip vs) m x=_;unfold bindL;exact jcg (i:=i) (bM.mp nd).2 (by simpa using h1) (by simpa using h2) hk
theorem jci{kindOf:Str->Option ge}{x:Str}{v:ae}:∀{P:List Str} {vs:List ae} {i:Nat} {m:Str->Option ae},P.Nodup->P[i]?=some x->vs[i]?=some v->kindOf x≠some .local->
  bindC kindOf (P.zip vs) m x=some v
 | [],_,_,_,_,h,_,_=>by simp at h
 | _ :: _,[],_,_,_,_,h,_=>by simp at h
 | p :: P,w :: vs,0,m,nd,h1,h2,hk=>by
  simp at h1 h2;subst h1;subst h2;show bindC kindOf ((p,w) :: P.zip vs) m p=_;unfold bindC;rw[jch fun v hv=>(bM.mp nd).1 (E9 hv).1,PN hk];simp
 | p :: P,w :: vs,i+1,m,nd,h1,h2,hk=>by show bindC kindOf ((p,w) :: P.zip vs) m x=_;unfold bindC;exact jci (i:=i) (bM.mp nd).2 (by simpa using h1) (by simpa using h2) hk
def yy(N:List Str)(vs:List V):St:=vs.map some++aS (N.length - vs.length) none
def qF(CX:RH)(P:aC)(w:ax)(K:ao)(mg:Str->Option ae)(base:ak)(N:List Str)(a_:Str)(nP:ce)(f:ac)(cd:ae)(A:aN)(iw:List Env)(s:af)(H:Hp)(E:XK):Cx where
 prog:=P
 w:=w
 K:=K
 mg:=mg
 base:=base
 A:=A.deeper (envOfC a_ nP s.heap.objs.size f cd)
 N:=N
 s₀:=s
 H₀:=H
 Ec:=envOfC a_ nP s.heap.objs.size f cd
 iw:=iw
 stack:=envOfC a_ nP s.heap.objs.size f cd :: iw
 ex:=[]
 calm:=true
 fn:=fun _=>true
 pn:=[]
 xe:=fun e s'=>am (au P w) (A.deeper (envOfC a_ nP s.heap.objs.size f cd)) (leaving (envOfC a_ nP s.heap.objs.size f cd) e) (fun _ dB=>CX iw H s E e dB) (fun e' dB=>CX iw H s E e' dB) s'
def jek{sc:ce}{n:Nat}(h:sc.names.lookup x=some .cell):∃c,(D8 n sc.names []).lookup x=some c:=by have q:=NG sc.names n [] (.inl h);exact pT.mp q
theorem jhx{N:List Str}{a_:Str}{nP:ce}{cd:ae}{s1:af}{E:XK}
  (S:tS N ps nP) (hd:A.handled=none) (e0:QH P w K mg base A iw s H) (hl:vs.length=ps.length) (r:Nb vs us)
  (x:InCallC s s.heap.objs.size (bindL (envOfC a_ nP s.heap.objs.size f cd).kindOf (ps.zip us) fun _=>none) (D8 (s.heap.objs.size+1) nP.names []) (bindC (envOfC a_ nP s.heap.objs.size f cd).kindOf (ps.zip us) fun _=>none) s1) :
  xJ (qF CX P w K mg base N a_ nP f cd A iw s H E) [] (yy N vs) H s1:=by
 have df:ps.length<=N.length:=by have:=PR fE S.pre;rw[cq]at this;omega
 obtain⟨h1,tk,rfl,hk⟩:=x.done
 have ou:∀b:ac,b ∉ (qF CX P w K mg base N a_ nP f cd A iw s H E).ex:=fun b z=>absurd (show b∈([]:List ac) from z) NZ
 refine⟨⟨e0.mod,S.kind,rfl,rfl,aK _,fun y z c h1 h2=>?_,fun y hy=>?_,fun y c _ h=>?_,fun _=>hd,aN.frames_deeper e0.frames,.inr ⟨rfl,rfl⟩,fun b z=>absurd z (ou b),e0.bs,e0.bsz,fun b _ _=>ou b,fun b z=>absurd z (ou b),e0.funs,e0.frf⟩,
  rfl,e0.bare,Un.kept hk,⟨_,x.toInCall.ns,fun i y v h1 h2 h3=>?_⟩,fun y c h=>⟨_,x.cell y c h⟩,e0.hok.fresh (aK _),fun y c h=>?_,fun p hp=>absurd (show p∈([]:List (ac×Obj)) from hp) NZ,e0.hok.kept hk,?_⟩
 .exact name_of_addr x.apart (lR h1) (lR h2)
 .have hy:nP.names.lookup y=some .cell\/nP.names.lookup y=some .free:=hy
  rcases hy with hy | hy
  .exact jek hy
  .exact absurd rfl (S.nofree _ (lR hy))
 .exact cP (x.above y c (lR h))
 .have hi:i < vs.length:=by
   unfold yy at h2;by_cases hi:i < vs.length
   .exact hi
   .rw[pY (by simpa using hi)]at h2
    rw[List.getElem?_replicate]at h2;split at h2 <;> cases h2
  have ha:vs[i]?=some v:=by
   unfold yy at h2;rw[ug (by simpa using hi),bP]at h2
   cases e:vs[i]? with
   | none=>rw[e]at h2;cases h2
   | some a=>rw[e]at h2;cases h2;rfl
  obtain⟨u,hu,rv⟩:=r.get ha;have hp:ps[i]?=some y:=by rw[<- S.pre,List.getElem?_take_of_lt N4];exact h1
  have Br:ps.Nodup:=by rw[<- S.pre];exact S.nd.sublist (List.take_sublist _ _)
  refine⟨u,rv,?_⟩;rcases S.par y (gJ hp) with k | k
  .exact .inl ⟨k,jcg Br hp hu k⟩
  .obtain⟨c,e⟩:=jek (n:=s.heap.objs.size+1) k
   refine .inr ⟨.inl k,c,e,?_⟩;have q:=x.cell y c e;rw[jci Br hp hu (by show nP.names.lookup y≠_;rw[k];decide)]at q;exact q
 .exact e0.hok.fresh (cP (x.above y c (lR h)))
 .unfold yy
  show _=N.length
  rw[az,av,ua]
  omega
def jl3{k:Nat}{name a_:Str}{params:Arguments}{body:List ay}{nP:ce}{dV kV cy pm aB ct oc:ae}{an od:Option ac}
  {gN:Array (Option ae)} {N ps:List Str} {sp:Sp} (lk:K.lookup f=some ⟨oc,od,.func (ig name a_ params body nP dV kV cy pm an aB ct),gN⟩) (eQ:lX K aB a_=true) (S:tS N ps nP)
  (len:∀vs H Q E,sp vs H Q E->vs.length=ps.length)
  (lA:∀(A:aN) (iw:List Env) (s:af) (H:Hp) (vs:List V) (Q:VK) (E:XK),Np k (A.deeper (envOfC a_ nP s.heap.objs.size f aB))->sp vs H Q E->
   ∃t,Rj (qF CX P w K mg base N a_ nP f aB A iw s H E) body t/\t { nx:=fun _ H'=>Q .non H',rt:=Q } (yy N vs) H) :
  MT P w K mg base CX (k+1) f (ig name a_ params body nP dV kV cy pm an aB ct) ps sp:=by
 refine⟨len,fun A iw s H args us vs Q E hr e0 hb r fb=>?_⟩
 have hl:=len _ _ _ _ fb
 have KX:K.In s.heap:=e0.mod.kin.keeps fun b o e=>(e0.bs b o e).1
 have GL:s.heap.NoLimit:=e0.mod.nolimit.keeps fun b o e=>(e0.bs b o e).1
 have Ii:∀y∈ps.zip us,nP.names.lookup y.1=some .local\/(nP.names.lookup y.1=some .cell/\((D8 (s.heap.objs.size+1) nP.names []).lookup y.1).isSome=true):=fun⟨n,v⟩ hy=>by
  rcases S.par n (E9 hy).1 with q | q
  .exact .inl q
  .exact .inr ⟨q,NG _ _ _ (.inl q)⟩
 refine codeAny_call_function hr.depth (KX _ _ lk) rfl S.co S.gen rfl (PySem.W.codeRec_of KX eQ) (hb _ _ _ _ ?_)
 refine wpAny_newFunctionEnv_cells S.kind Ii fun Ec he s1 x=>?_
 subst he
 refine⟨GL.keeps x.toInCall.keep,codeAny_func ?_⟩
 obtain⟨t,ht,hq⟩:=lA A iw s H vs Q E (hr.deeper _) fb
 have I:xJ (qF CX P w K mg base N a_ nP f aB A iw s H E) [] (yy N vs) H s1:=jhx S hr.hd e0 hl r x
 refine bz (ht [] s1 (yy N vs) H _ I hq) (fun fl s' hs=>?_) fun e s' hs=>hs
 have fin:∀{σ':St} {H':Hp} {v:V} {u:ae},xJ (qF CX P w K mg base N a_ nP f aB A iw s H E) [] σ' H' s'->Nh v u->Q v H'->CE iw P w H s Q u s':=
  fun {σ' H' v u} J rv q=>⟨v,H',J.os,J.bare,J.base,J.hok,rv,q⟩
 cases fl with
 | ret u=>
  obtain⟨v,σ',H',J,rv,q⟩:=hs
  exact fin J rv q
 | next=>
  obtain⟨σ',H',J,q⟩:=hs
  exact fin (v:=V.non) (u:=Value.none) J rfl q
 | brk=>
  obtain⟨_,_,_,q⟩:=hs
  exact db q
 | cont=>
  obtain⟨_,_,_,q⟩:=hs
  exact db q
section
variable {p:Pos}{t:TA}{id T:String}{r:List V->Hp->VK->Prop}
def tCB(r:List V->Hp->VK->Prop)(t:TA):TE:=fun σ H Q=>t σ H fun vs H1=>r vs H1 Q
def jiK(hc:zO X (.builtin id) r)(hg:Gl X x)(hm:X.mg x=none)(hv:cO x=some (.builtin id))(ha:PA X (e :: es) t)(hn:x≠"__name__":=by decide)(cV:(x == ("__debug__" : Str))=false:=by decide)
  (he:aX (e :: es) X.Ec=(false,eval e X.Ec) :: aX es X.Ec:=by rfl) (df:(cG x5 (aX es X.Ec)).any (·.1)=false:=by rfl):PE X (.Call (.Name x p) (e :: es) [] x5) (tCB r t):=by
 intro ad s σ H Q I h
 refine iR (ZJ I hg hm hv ?_ hn cV)
 exact PyProof.Rows.callWith_builtin1 (Nn (ha x5 ad s σ H _ I h) fun us s1 ⟨vs,H1,I1,r1,q1⟩=>hc ad s1 σ H1 vs us Q I1 r1 q1) he df
def jgY(hc:zO X (.type T) r)(hg:Gl X x)(hm:X.mg x=none)(hv:cO x=some (.type T))(ha:PA X (e :: es) t)(hn:x≠"__name__":=by decide)(cV:(x == ("__debug__" : Str))=false:=by decide)
  (he:aX (e :: es) X.Ec=(false,eval e X.Ec) :: aX es X.Ec:=by rfl) (df:(cG x5 (aX es X.Ec)).any (·.1)=false:=by rfl):PE X (.Call (.Name x p) (e :: es) [] x5) (tCB r t):=by
 intro ad s σ H Q I h
 refine iR (ZJ I hg hm hv ?_ hn cV)
 exact ER (Nn (ha x5 ad s σ H _ I h) fun us s1 ⟨vs,H1,I1,r1,q1⟩=>hc ad s1 σ H1 vs us Q I1 r1 q1) he df
end
end L2
namespace HT
open PySem PyProof.Rows
section
variable {prog:aC}{w:ax}{A:aN}{E:ae->af->Prop}{s:af}
def sIx(n d:Nat):Option Int->Nat
 | none=>d
 | some v=>if v < 0 then (v+(n:Int)).toNat else min v.toNat n
def sIx_none(n d:Nat):sIx n d none=d:=rfl
theorem sIx_nat(n d k:Nat):sIx n d (some (k:Int))=min k n:=by show (if (k:Int) < 0 then ((k:Int)+(n:Int)).toNat else min (k:Int).toNat n)=min k n;rw[PN N4,dk]
theorem sIx_le(n d:Nat)(hd:d<=n)(o:Option Int):sIx n d o<=n:=by
 cases o with
 | none=>exact hd
 | some v=>
  show (if v < 0 then (v+(n:Int)).toNat else min v.toNat n)<=n;by_cases hv:v < 0
  .rw[PP hv];omega
  .rw[PN hv];exact Nat.min_le_right _ _
end
end HT
namespace L2
open PySem PySem.Spec PyProof.Rows
abbrev TO:=St->Hp->(Option Int->Hp->Prop)->Prop
def PO(X:Cx)(e:Option aj)(t:TO):Prop:=
 ∀(ad:List (ac×Obj)) (s:af) (σ:St) (H:Hp) (Q:Option Int->Hp->Prop),xJ X ad σ H s->t σ H Q->
  am (au X.prog X.w) X.A (evalPart e X.Ec) (fun u s'=>∃o H',xJ X ad σ H' s'/\IsPart u o/\Q o H') X.xe s
def jfI:TO:=fun _ H Q=>Q none H
def jlM(t:TE):TO:=fun σ H Q=>t σ H fun x H1=>∃i,x=.int i/\Q (some i) H1
variable {X:Cx}{x5:Pos}
section
variable {e:aj}{te:TE}{lo hi:Option aj}{tl th:TO}{p2:Pos}
def SlR(X:Cx)(r:V->Option Int->Option Int->Hp->VK->Prop):Prop:=
 ∀(ad:List (ac×Obj)) (s:af) (σ:St) (H:Hp) (x:V) (v vl vu:ae) (lo hi:Option Int) (sl:ac) (Q:VK),xJ X ad σ H s->Nh x v->s.heap.IsSliceOf sl vl vu .none->IsPart vl lo->IsPart vu hi->r x lo hi H Q->
  ∃T id,DT (.type T) "__getitem__" = pure (some (.builtin id))/\s.TypeIs v T/\am (au X.prog X.w) X.A (pE v (.ref sl)) (EP X ad σ Q) X.xe s
def tSl(r:V->Option Int->Option Int->Hp->VK->Prop)(te:TE)(tl th:TO):TE:=fun σ H Q=>te σ H fun x H1=>tl σ H1 fun l H2=>th σ H2 fun u H3=>r x l u H3 Q
def cutV(xs:List V)(lo hi:Option Int):List V:=(xs.drop (HT.sIx xs.length 0 lo)).take (HT.sIx xs.length xs.length hi - HT.sIx xs.length 0 lo)
theorem jeh(xs:List V)(lo hi:Option Int):(cutV xs lo hi).length<=xs.length:=by unfold cutV;rw[cq,eF];omega
end
def RC(n:Nat)(i:Int):Option Nat:=if 0<=i then (if i < n then some i.toNat else none) else if -(n:Int)<=i then some (i+n).toNat else none
def Qd{α:Type}(xs:List α)(i:Int):Option α:=(RC xs.length i).bind fun j=>xs[j]?
variable {n:Nat}
theorem jgj{i:Int}{j:Nat}(h:RC n i=some j):xF i n=some j/\j < n/\-(n:Int)<=i/\i < n:=by
 unfold RC at h;by_cases h0:0<=i
 .rw[PP h0]at h
  by_cases h1:i < n
  .rw[PP h1]at h
   have e:i.toNat=j:=dz h;exact⟨by rw[DX h0 h1,e],N4,N4,h1⟩
  .rw[PN h1]at h;cases h
 .rw[PN h0]at h
  by_cases h1:-(n:Int)<=i
  .rw[PP h1]at h
   have e:(i+n).toNat=j:=dz h;exact⟨by rw[seqIndex_neg N4 h1,e],N4,h1,N4⟩
  .rw[PN h1]at h;cases h
def jdi{α:Type}{xs:List α}{i:Int}{v:α}(h:Qd xs i=some v):∃j,xF i xs.length=some j/\xs[j]?=some v/\j < xs.length/\-(xs.length:Int)<=i/\i < xs.length:=by
 unfold Qd at h
 cases e:RC xs.length i with
 | none=>rw[e]at h;cases h
 | some j=>
  rw[e]at h;obtain⟨h1,h2,h3,h4⟩:=jgj e;exact⟨j,h1,h,h2,h3,h4⟩
theorem ju{α:Type}{xs:List α}{j:Nat}{v:α}(h:xs[j]?=some v):Qd xs (j:Int)=some v:=by
 have hj:j < xs.length:=(dY.mp h).1;have e:RC xs.length (j:Int)=some j:=by unfold RC;rw[PP N4,PP N4];simp
 unfold Qd;rw[e];exact h
theorem jkc{α:Type}(xs:List α)(v:α):Qd (xs++[v]) (-1)=some v:=by
 have hl:(xs++[v]).length=xs.length+1:=by simp
 have e:RC (xs++[v]).length (-1)=some xs.length:=by unfold RC;rw[hl,PN N5,PP N4];congr 1;omega
 unfold Qd;rw[e];show (xs++[v])[xs.length]?=some v;simp
def jgG(b:aj):Prop:=∀o i,subscripted b false o i=operate [o,i] (pE o i)
def Sq(X:Cx)(r:R2):Prop:=
 ∀(value gm:aj) (ad:List (ac×Obj)) (s:af) (σ:St) (H:Hp) (x y:V) (v u:ae) (Q:VK),xJ X ad σ H s->Nh x v->Nh y u->r x y H Q->
  subscripted gm false v u=operate [v,u] (pE v u)->am (au X.prog X.w) X.A (EO value gm v u) (EP X ad σ Q) X.xe s
def QZ(X:Cx)(id:String)(r:V->List V->Hp->VK->Prop):Prop:=
 ∀(ad:List (ac×Obj)) (s:af) (σ:St) (H:Hp) (x:V) (xs:List V) (v:ae) (us:List ae) (Q:VK),xJ X ad σ H s->Nh x v->Nb xs us->r x xs H Q->
  am (au X.prog X.w) X.A (call (.builtin id) (v :: us)) (EP X ad σ Q) X.xe s
variable {ad:List (ac×Obj)}{H:Hp}{s:af}{xs:List V}{Nc:List ae}{A:aN}{y x:V}{u:ae}{T:String}
section
variable {a b:aj}{ta tb:TE}
def jnz(K:ao):R2:=fun x y H Q=>∃p xs i v,x=.ref p/\y=.int i/\ES K H p xs/\Qd xs i=some v/\Q v H
def jny(K:ao):R2:=fun x y H Q=>∃p xs i v,x=.ref p/\y=.int i/\Nu K H p xs/\Qd xs i=some v/\Q v H
def jog:R2:=fun x y H Q=>∃z i c,x=.str z/\y=.int i/\z.length<=aF/\Qd z.cps.toList i=some c/\Q (.str ⟨#[c]⟩) H
theorem jQ:Sq X (jnz X.K):=by
 intro value gm ad s σ H x y v u Q I rx ry h hs;obtain⟨p,xs,i,z,rfl,rfl,hq,he,q⟩:=h
 cases rx
 obtain⟨t,rfl⟩:=ry;obtain⟨Nc,r,pl,hz⟩:=I.list hq;obtain⟨j,h1,h2,h3,h4,h5⟩:=jdi he;obtain⟨w,ew,eJ⟩:=r.get h2;have hl:=r.length;have hn:=Yz;have fin:EP X ad σ Q w s:=⟨z,H,I,eJ,q⟩
 by_cases h0:0<=i
 .have hj:i.toNat=j:=by rw[DX h0 h5]at h1;exact dz h1
  exact item_listR pl.isList h0 N4 (by rw[hj];simpa using ew) fin hs
 .have hj:(i+(Nc.toArray.size:Int)).toNat=j:=by rw[seqIndex_neg N4 h4]at h1;rw[bQ,<- hl];exact dz h1
  exact Ow (x:=w) pl.isList.typeIs MZ.lookup
   (wpAny_getItem_list_neg (Q:=fun r s'=>r=w/\EP X ad σ Q r s') pl.isList N4 (by rw[bQ] <;> omega) N4 (by rw[hj];simpa using ew) ⟨rfl,fin⟩) hs
theorem j0:Sq X (jny X.K):=by
 intro value gm ad s σ H x y v u Q I rx ry h hs;obtain⟨p,xs,i,z,rfl,rfl,hq,he,q⟩:=h
 cases rx
 obtain⟨t,rfl⟩:=ry;obtain⟨Nc,r,pl,hz⟩:=I.tuple hq;obtain⟨j,h1,h2,h3,h4,h5⟩:=jdi he;obtain⟨w,ew,eJ⟩:=r.get h2;have hl:=r.length;have hn:=Yz;have fin:EP X ad σ Q w s:=⟨z,H,I,eJ,q⟩
 exact Ow (x:=w) pl.typeIs slot_tuple_getitem.lookup
  (getItem_tuple (j:=j) (Q:=fun r s'=>r=w/\EP X ad σ Q r s') pl N4 N4 (by rw[bQ,<- hl];exact h1) (by simpa using ew) ⟨rfl,fin⟩) hs
theorem jcZ:Sq X jog:=by
 intro value gm ad s σ H x y v u Q I rx ry h hs;obtain⟨z,i,c,rfl,rfl,hz,he,q⟩:=h;obtain⟨t,rfl⟩:=rx;obtain⟨t',rfl⟩:=ry;obtain⟨j,h1,h2,h3,h4,h5⟩:=jdi he;have hl:z.cps.toList.length=z.length:=by simp[pI]
 rw[hl]at h1 h4 h5;have hn:=Yz;exact tail_any (lQ s z t) Ox.lookup (getItem_str (c:=c) (by
  have e1:decide (i < -(2 ^ 63:Int))=false:=PM N4;have e2:decide (i >= 2 ^ 63)=false:=PM N4;rw[e1,e2,Fl]) (by rw[h1];simpa using h2) ⟨.str ⟨#[c]⟩,H,I.tok _,⟨_,rfl⟩,q⟩) hs
def je6(Nc:List ae)(n j:Nat)(u:ae):tO (·.setIfInBounds j u) { cls:=.type "list",data:=.seq Nc.toArray n }={ cls:=.type "list",data:=.seq (Nc.set j u).toArray n }:=by simp[tO]
def xJ.lst{ad:List (ac×Obj)}{σ:St}{H:Hp}{s:af}{p:ac}{xs:List V}(I:xJ X ad σ H s)(h:H p=some (.lst xs)):
  ∃(Nc:List ae) (n:Nat),Nb xs Nc/\s.heap.get? p=some { cls:=.type "list",data:=.seq Nc.toArray n }/\xs.length<=aF:=by
 obtain⟨z,Nc,n,r,e⟩:=I.hok p _ h
 exact⟨Nc,n,r,e,z⟩
def xJ.lstUpd{σ:St}{p:ac}{ys:List V}{its':List ae}{n':Nat}{f:Obj->Obj}(I:xJ X ad σ H s)(h:H p=some (.lst xs))
  (ho:s.heap.get? p=some { cls:=.type "list",data:=.seq Nc.toArray n }) (hf:f { cls:=.type "list",data:=.seq Nc.toArray n }={ cls:=.type "list",data:=.seq its'.toArray n' }) (r:Nb ys its') (hz:ys.length<=aF) (t:Nat) :
  xJ X ad σ (upd H p (.lst ys)) { s with heap:=s.heap.update p f,toks:=t }:=by
 have e:(s.heap.update p f).get? p=some { cls:=.type "list",data:=.seq its'.toArray n' }:=by rw[tQ f ho (by rw[hf] <;> rfl),hf]
 refine I.write (x:=p) (e:=p) (by rw[h];trivial) (.inl rfl) (fun b u hb q=>(pL _ _ (cj hb)).trans q) ⟨_,e⟩ ?_
 exact⟨hz,its',n',r,e⟩
def jnx:V->V->V->Hp->(Hp->Prop)->Prop:=fun o i v H Q=>∃p xs k j,o=.ref p/\i=.int k/\H p=some (.lst xs)/\RC xs.length k=some j/\Q (upd H p (.lst (xs.set j v)))
theorem jdw:jn6 X jnx:=by
 intro ad s σ H o i v ov iv u Q I ro ri rv h;obtain⟨p,xs,k,j,rfl,rfl,hp,hj,q⟩:=h
 cases ro
 obtain⟨t,rfl⟩:=ri;obtain⟨Nc,n,r,ho,hz⟩:=I.lst hp;obtain⟨h1,h2,h3,h4⟩:=jgj hj;have hl:=r.length;have hn:=Yz;have I':xJ X ad σ (upd H p (.lst (xs.set j v))) { s with heap:=s.heap.update p (tO (·.setIfInBounds j u)) }:=
  I.lstUpd hp ho (je6 Nc n j u) (r.set rv j) (by rw[List.length_set];exact hz) s.toks
 by_cases h0:0<=k
 .have hk:k.toNat=j:=by rw[DX h0 h4]at h1;exact dz h1
  exact PySem.W.ki_setAt ho h0 N4 (by rw[bQ,<- hl];exact h4) (by rw[hk];exact⟨_,I',q⟩)
 .have hk:(k+(Nc.toArray.size:Int)).toNat=j:=by rw[seqIndex_neg N4 h3]at h1;rw[bQ,<- hl];exact dz h1
  exact PySem.W.ki_setBack ho N4 (by rw[bQ,<- hl];exact h3) N4 (by rw[hk];exact⟨_,I',q⟩)
theorem jcy(lo hi:Option Int)(n:Nat):(nu lo hi none n).1=((HT.sIx n 0 lo:Nat):Int)/\(nu lo hi none n).2.1=((HT.sIx n n hi:Nat):Int)/\(nu lo hi none n).2.2=1:=by
 refine⟨?_,?_,rfl⟩
 .cases lo with
  | none=>simp[nu,HT.sIx]
  | some i=>
   simp only[nu,HT.sIx,OG,show (1:Int) > 0 from N5,if_true];by_cases h:i < 0
   .simp only[h,if_true] <;> omega
   .simp only[h,if_false] <;> omega
 .cases hi with
  | none=>simp[nu,HT.sIx]
  | some i=>
   simp only[nu,HT.sIx,OG,show (1:Int) > 0 from N5,if_true];by_cases h:i < 0
   .simp only[h,if_true] <;> omega
   .simp only[h,if_false] <;> omega
def jbr(Nc:List ae)(lo hi:Option Int):slicePick Nc.toArray lo hi none=((Nc.drop (HT.sIx Nc.length 0 lo)).take (HT.sIx Nc.length Nc.length hi - HT.sIx Nc.length 0 lo)).toArray:=by obtain⟨h1,h2,h3⟩:=jcy lo hi Nc.toArray.size;unfold slicePick;rw[h1,h2,h3];simp only[sliceRange_one,pick_run,bQ] <;> rfl
def jnw(K:ao):V->Option Int->Option Int->Hp->VK->Prop:=fun x lo hi H Q=>∃a xs,x=.ref a/\ES K H a xs/\∀p,H p=none->Q (.ref p) (upd H p (.lst (cutV xs lo hi)))
theorem qv:SlR X (jnw X.K):=by
 intro ad s σ H x v vl vu lo hi sl Q I rx hs pl pu h;obtain⟨a,xs,rfl,hx,q⟩:=h
 cases rx
 obtain⟨Nc,r,ht,hz⟩:=I.list hx;have bb:=r.length;refine⟨"list",_,MZ.lookup,ht.isList.typeIs,?_⟩;refine wpAny_getItem_list_slice ht.isList hs pl pu .none NZ ?_ (by rw[bQ] <;> omega);rw[jbr,<- bb];refine⟨.ref s.heap.objs.size,_,I.laid (t':=s.toks) (o:=.lst (cutV xs lo hi)) (fun b ob q=>bu _ q) (aK _) ?_,rfl,q _ (I.hok.fresh (aK _))⟩;exact⟨aw (jeh xs lo hi) hz,_,0,(r.drop (HT.sIx xs.length 0 lo)).take (HT.sIx xs.length xs.length hi - HT.sIx xs.length 0 lo),dU _ rfl⟩
def K5:V->Bool
 | .non=>true
 | .bl _=>true
 | .int _=>true
 | .str _=>true
 | _=>false
def RE:V->V->Bool
 | .non,.non=>true
 | .bl a,.bl b=>a == b
 | .bl a,.int b=>(if a then 1 else 0) == b
 | .int a,.bl b=>a == (if b then 1 else 0)
 | .int a,.int b=>a == b
 | .str a,.str b=>a == b
 | _,_=>false
def jmS{v:ae}(ry:Nh y u)(rx:Nh x v)(fy:K5 y=true)(fx:K5 x=true):dR A s u v (RE y x):=by
 cases y with
 | non=>
  cases ry
  cases x with
  | non=>cases rx;exact dR.same _
  | bl b=>cases rx;exact dR.none_bool b
  | int b=>obtain⟨t,rfl⟩:=rx;exact dR.none_int b t
  | str b=>obtain⟨t,rfl⟩:=rx;exact dR.none_str b t
  | _=>exact absurd (show false=true from fx) aU
 | bl a=>
  cases ry
  cases x with
  | non=>cases rx;exact dR.bool_none a
  | bl b=>cases rx;exact dR.bool_bool a b
  | int b=>obtain⟨t,rfl⟩:=rx;exact dR.bool_int a b t
  | str b=>obtain⟨t,rfl⟩:=rx;exact dR.bool_str a b t
  | _=>exact absurd (show false=true from fx) aU
 | int a=>
  obtain⟨t',rfl⟩:=ry
  cases x with
  | non=>cases rx;exact dR.int_none a t'
  | bl b=>cases rx;exact dR.int_bool a t' b
  | int b=>obtain⟨t,rfl⟩:=rx;exact dR.int_int a t' b t
  | str b=>obtain⟨t,rfl⟩:=rx;exact NX a t' b t
  | _=>exact absurd (show false=true from fx) aU
 | str a=>
  obtain⟨t',rfl⟩:=ry
  cases x with
  | non=>cases rx;exact dR.str_none a t'
  | bl b=>cases rx;exact dR.str_bool a t' b
  | int b=>obtain⟨t,rfl⟩:=rx;exact NW a t' b t
  | str b=>obtain⟨t,rfl⟩:=rx;exact NV a t' b t
  | _=>exact absurd (show false=true from fx) aU
 | _=>exact absurd (show false=true from fy) aU
def Q5(x:V)(u:ae):Bool:=match u with
 | .none=>RE .non x
 | .bool b=>RE (.bl b) x
 | .int i _=>RE (.int i) x
 | .str z _=>RE (.str z) x
 | _=>false
def jjQ(r:Nh y u)(f:K5 y=true):Q5 x u=RE y x:=by
 cases y with
 | non=>cases r;rfl
 | bl b=>cases r;rfl
 | int i=>obtain⟨t,rfl⟩:=r;rfl
 | str z=>obtain⟨t,rfl⟩:=r;rfl
 | _=>exact absurd (show false=true from f) aU
theorem Zn{x:V}:∀{xs:List V} {us:List ae},Nb xs us->xs.all K5=true->us.any (Q5 x)=xs.any fun y=>RE y x
 | _,_,.nil,_=>rfl
 | y :: xs,u :: us,.cons r t,f=>by rw[eX,bg]at f;rw[nZ,nZ,jjQ r f.1,Zn t f.2]
theorem Kp{A:aN}{s:af}{x:V}{v:ae}(rx:Nh x v)(fx:K5 x=true):∀{xs:List V} {us:List ae},Nb xs us->xs.all K5=true->∀u∈us,dR A s u v (Q5 x u)
 | _,_,.nil,_=>fun u hu=>by cases hu
 | y :: xs,u :: us,.cons r t,f=>fun u' hu=>by
  rw[eX,bg]at f;rcases aA.mp hu with rfl | hu
  .rw[jjQ r f.1];exact jmS r rx f.1 fx
  .exact Kp rx fx t f.2 u' hu
def RD(x:V)(xs:List V):Bool:=xs.any fun y=>RE y x
def rIn(K:ao)(neg:Bool):R2:=fun x y H Q=>∃p xs,y=.ref p/\(ES K H p xs\/Nu K H p xs)/\K5 x=true/\xs.all K5=true/\Q (.bl (if neg then !RD x xs else RD x xs)) H
def KL:Qm X (dy .In) (rIn X.K false):=by
 intro ad s σ H x y v u Q I rx ry h;obtain⟨p,xs,rfl,hq,fx,fs,q⟩:=h
 cases ry
 rcases hq with hq | hq
 .obtain⟨Nc,r,pl,hz⟩:=I.list hq
  refine SeqAt.in_listAt (Q5 x) pl.isList (fun w hw=>Kp rx fx r fs w (by simpa using hw)) ⟨.bl _,H,I,rfl,?_⟩;rw[show Nc.toArray.any (Q5 x)=Nc.any (Q5 x) from NZ,Zn r fs];exact q
 .obtain⟨Nc,r,pl,hz⟩:=I.tuple hq
  refine SeqAt.in_tupleAt (Q5 x) pl (fun w hw=>Kp rx fx r fs w (by simpa using hw)) ⟨.bl _,H,I,rfl,?_⟩;rw[show Nc.toArray.any (Q5 x)=Nc.any (Q5 x) from NZ,Zn r fs];exact q
def Y1:Qm X (dy .NotIn) (rIn X.K true):=by
 intro ad s σ H x y v u Q I rx ry h;obtain⟨p,xs,rfl,hq,fx,fs,q⟩:=h
 cases ry
 rcases hq with hq | hq
 .obtain⟨Nc,r,pl,hz⟩:=I.list hq
  refine SeqAt.notIn_listAt (Q5 x) pl.isList (fun w hw=>Kp rx fx r fs w (by simpa using hw)) ⟨.bl _,H,I,rfl,?_⟩;rw[show Nc.toArray.any (Q5 x)=Nc.any (Q5 x) from NZ,Zn r fs];exact q
 .obtain⟨Nc,r,pl,hz⟩:=I.tuple hq
  refine SeqAt.notIn_tupleAt (Q5 x) pl (fun w hw=>Kp rx fx r fs w (by simpa using hw)) ⟨.bl _,H,I,rfl,?_⟩;rw[show Nc.toArray.any (Q5 x)=Nc.any (Q5 x) from NZ,Zn r fs];exact q
theorem jE:zO X (.builtin "len") (fun xs H Q=>∃p ys,xs=[.ref p]/\(ES X.K H p ys\/Nu X.K H p ys)/\Q (.int ys.length) H):=by
 intro ad s σ H xs us Q I r h;obtain⟨p,ys,rfl,hq,q⟩:=h;obtain⟨u,rfl,rx⟩:=zB r
 cases rx
 have hn:=Yz;rcases hq with hq | hq
 .obtain⟨Nc,r',pl,hz⟩:=I.list hq
  have bb:=r'.length;exact Calls.call_len_list pl.isList (by simp only[bQ] <;> omega) ⟨.int ys.length,H,I.tok _,⟨s.toks+1,by rw[bQ,bb]⟩,q⟩
 .obtain⟨Nc,r',pl,hz⟩:=I.tuple hq
  have bb:=r'.length;exact len_tuple pl (by simp only[bQ] <;> omega) ⟨.int ys.length,H,I.tok _,⟨s.toks+1,by rw[bQ,bb]⟩,q⟩
theorem zd:zO X (.builtin "len") (fun xs H Q=>∃z,xs=[.str z]/\z.length<=aF/\Q (.int z.length) H):=by intro ad s σ H xs us Q I r h;obtain⟨z,rfl,hz,q⟩:=h;obtain⟨u,rfl,t,rfl⟩:=zB r;have hn:=Yz;exact len_str N4 ⟨.int z.length,H,I.tok _,⟨_,rfl⟩,q⟩
theorem zL:zO X (.type "list") (fun xs H Q=>∃p ys,xs=[.ref p]/\(ES X.K H p ys\/Nu X.K H p ys)/\∀l,H l=none->Q (.ref l) (upd H l (.lst ys))):=by
 intro ad s σ H xs us Q I r h;obtain⟨p,ys,rfl,hq,q⟩:=h;obtain⟨u,rfl,rx⟩:=zB r
 cases rx
 have fin:∀(Nc:List ae),Nb ys Nc->ys.length<=aF->∀(h':ak) (c':Nat),(∀b o',s.heap.get? b=some o'->h'.get? b=some o')->
   h'.get? s.heap.objs.size=some { cls:=.type "list",dict:=none,data:=.seq Nc.toArray c',slots:=#[] }->EP X ad σ Q (.ref s.heap.objs.size) { s with heap:=h' }:=fun Nc r' hz h' c' kp e=>
  ⟨.ref s.heap.objs.size,_,I.laid (t':=s.toks) kp (aK _) (show Ng X.prog X.w _ h' _ (.lst ys) from⟨hz,Nc,c',r',e⟩),rfl,q _ (I.hok.fresh (aK _))⟩
 rcases hq with hq | hq
 .obtain⟨Nc,r',pl,hz⟩:=I.list hq
  have bb:=r'.length;obtain⟨o,ho,hc,n,hd⟩:=pl.isList;exact call_list_seq p (.inl rfl) ho hc hd (fun h' c' kp e=>fin Nc r' hz h' c' kp e) (by simp only[bQ] <;> omega)
 .obtain⟨Nc,r',pl,hz⟩:=I.tuple hq
  have bb:=r'.length;obtain⟨o,ho,hc,n,hd⟩:=pl;exact call_list_seq p (.inr rfl) ho hc hd (fun h' c' kp e=>fin Nc r' hz h' c' kp e) (by simp only[bQ] <;> omega)
theorem jZ:zO X (.type "tuple") (fun xs H Q=>∃p ys,xs=[.ref p]/\((ES X.K H p ys/\∀l,H l=none->Q (.ref l) (upd H l (.tup ys)))\/(Nu X.K H p ys/\Q (.ref p) H))):=by
 intro ad s σ H xs us Q I r h;obtain⟨p,ys,rfl,h⟩:=h;obtain⟨u,rfl,rx⟩:=zB r
 cases rx
 rcases h with⟨hq,q⟩ | ⟨hq,q⟩
 .obtain⟨Nc,r',pl,hz⟩:=I.list hq
  have bb:=r'.length;refine call_tuple_list pl.isList (fun h' kp=>?_) (by simp only[bQ] <;> omega);have I1:xJ X ad σ H { s with heap:=h' }:=I.kept (t':=s.toks) kp;have I2:xJ X ad σ (upd H h'.objs.size (.tup ys)) { s with heap:=h'.push { cls:=.type "tuple",data:=.seq Nc.toArray } }:=
   I1.laid (t':=s.toks) (fun b o e=>bu _ e) (aK _) (show Ng X.prog X.w _ _ _ (.tup ys) from⟨hz,Nc,r',IsTup.new _ _⟩)
  exact⟨.ref h'.objs.size,_,I2,rfl,q _ (I1.hok.fresh (aK _))⟩
 .obtain⟨Nc,r',pl,hz⟩:=I.tuple hq
  exact call_tuple_same pl ⟨.ref p,H,I,rfl,q⟩
def tyV(K:ao)(T:String)(x:V)(H:Hp):Prop:=match x with
 | .str _=>T = "str"
 | .int _=>T = "int"
 | .ref p=>(T = "list"/\∃xs,ES K H p xs)\/(T = "tuple"/\∃o,K.lookup p=some o/\o.cls=.type "tuple"/\o.dict=none)\/
   (T = "dict"/\((∃ah,H p=some (.dK ah))\/∃ah,H p=some (.dT ah)))\/(T = "set"/\∃S n,H p=some (.set S n))
 | _=>False
def jh8{σ:St}{v:ae}(I:xJ X ad σ H s)(r:Nh x v)(ty:tyV X.K T x H):
  s.TypeIs v T/\∀a,v=.ref a->∃ob,s.heap.get? a=some ob/\ob.dict=none:=by
 cases x with
 | str z=>
  obtain⟨t,rfl⟩:=r
  cases (show T = "str" from ty)
  exact⟨lQ s z t,fun _ e=>nomatch e⟩
 | int i=>
  obtain⟨t,rfl⟩:=r
  cases (show T = "int" from ty)
  exact⟨DU s i t,fun _ e=>nomatch e⟩
 | ref p=>
  cases r
  rcases ty with⟨rfl,xs,hq⟩ | ⟨rfl,o,hk,hc,hd⟩ | ⟨rfl,hk⟩ | ⟨rfl,S,n,hk⟩
  .obtain⟨Nc,_,pl,_⟩:=I.list hq
   refine⟨pl.isList.typeIs,fun a e=>?_⟩
   cases e
   obtain⟨o,n,e,c,hd,_⟩:=pl
   exact⟨o,e,hd⟩
  .refine⟨⟨o,I.kIn p o hk,hc⟩,fun a e=>?_⟩
   cases e
   exact⟨o,I.kIn _ o hk,hd⟩
  .have z:∃o,s.heap.get? p=some o/\o.ExactDict:=by
    rcases hk with⟨ah,hk⟩ | ⟨ah,hk⟩
    .obtain⟨_,_,_,_,o,_,_,e,ex,_⟩:=I.hok p _ hk
     exact⟨o,e,ex⟩
    .obtain⟨_,_,_,_,o,_,_,e,ex,_⟩:=I.hok p _ hk
     exact⟨o,e,ex⟩
   obtain⟨o,e,ex⟩:=z;refine⟨⟨o,e,ex.1⟩,fun a e2=>?_⟩
   cases e2
   exact⟨o,e,ex.2.1⟩
  .obtain⟨o,_,_,_,e,ex,_⟩:=I.hok p _ hk
   refine⟨⟨o,e,ex.1⟩,fun a e2=>?_⟩
   cases e2
   exact⟨o,e,ex.2.1⟩
 | _=>exact db ty
def job(K:ao)(T:String)(r:V->List V->Hp->VK->Prop)(to:TE):TE:=fun σ H Q=>to σ H fun x H1=>tyV K T x H1/\r x [] H1 Q
def tBM(K:ao)(T:String)(r:V->List V->Hp->VK->Prop)(to:TE)(t:TA):TE:=fun σ H Q=>to σ H fun x H1=>tyV K T x H1/\t σ H1 fun xs H2=>r x xs H2 Q
variable {o e:aj}{es:List aj}{to:TE}{t:TA}{name:Str}{dr bO:Pos}{id:String}{r:V->List V->Hp->VK->Prop}
def jiM(pa:xV T)(slot:Slot T name id)(j_:sU (.builtin id)=pure (.type "method_descriptor"))(hm:QZ X id r)(ho:PE X o to)(ha:PA X (e :: es) t)
  (eS:lT o name X.Ec (eval o X.Ec)=eval o X.Ec:=by rfl)
  (vS:((cG bO (aX (e :: es) X.Ec)).all (fun x=>!x.1) && (tu bO (sZ [] X.Ec)).all (fun x=>x.1.isSome)
   && decide ((e :: es).length+([]:List Keyword).length+(if ([]:List Keyword).isEmpty then 0 else 1) < 30))=true:=by rfl)
  (oV:(dr.endLine == bO.line)=true:=by rfl) (hs:aX (e :: es) X.Ec=(false,eval e X.Ec) :: aX es X.Ec:=by rfl) (mG:(cG bO (aX es X.Ec)).any (·.1)=false:=by rfl) :
  PE X (.Call (.Attribute o name dr) (e :: es) [] bO) (tBM X.K T r to t):=by
 intro ad s σ H Q I h
 refine wpAny_Call_method_late eS vS oV rfl (Nn (ho ad s σ H _ I h) fun v s1 hM=>?_)
 obtain⟨x,H1,I1,r1,ty,q1⟩:=hM
 obtain⟨h1,h2⟩:=jh8 I1 r1 ty
 refine⟨T,id,pa,slot,j_,h1,h2,?_⟩
 have hA:=ha bO ad s1 σ H1 _ I1 q1
 rw[hs]at hA |-
 refine EJ (by show (false || (cG bO (aX es X.Ec)).any (·.1))=false;rw[mG] <;> rfl) (EI ?_)
 exact Nn hA fun us s2 ⟨vs,H2,I2,r2,q2⟩=>hm ad s2 σ H2 x vs v us Q I2 r1 r2 q2
end
def MtM(X:Cx)(id:String)(r:V->List V->Hp->VK->Prop):Prop:=
 ∀(ad:List (ac×Obj)) (s:af) (σ:St) (H:Hp) (x:V) (xs:List V) (v:ae) (us:List ae) (Q:VK),xJ X ad σ H s->Nh x v->Nb xs us->r x xs H Q->
  am (au X.prog X.w) X.A (call (.builtin id) (v :: us)) (EP X ad σ Q) X.xe s
variable {us:List ae}
def Nb.one(h:Nb [x] us):∃u,us=[u]/\Nh x u:=by
 cases h with
 | cons r t=>cases t;exact⟨_,rfl,r⟩
def Nb.zero:∀{us:List ae},Nb [] us->us=[]
 | _,.nil=>rfl
def Nb.dropLast(h:Nb xs us):Nb xs.dropLast us.dropLast:=by
 induction h with
 | nil=>exact .nil
 | cons r t ih=>
  cases t with
  | nil=>exact .nil
  | cons q t'=>exact .cons r ih
theorem Nb.eraseIdx:∀{xs:List V} {us:List ae} (i:Nat),Nb xs us->Nb (xs.eraseIdx i) (us.eraseIdx i)
 | _,_,_,.nil=>.nil
 | _,_,0,.cons _ t=>t
 | _,_,i+1,.cons r t=>.cons r (Nb.eraseIdx i t)
def Nb.reverse(h:Nb xs us):Nb xs.reverse us.reverse:=by
 induction h with
 | nil=>exact .nil
 | cons r t ih=>rw[tY,tY];exact Nb.append ih (.cons r .nil)
theorem Nb.rep{xs:List V}{us:List ae}(h:Nb xs us):∀k:Nat,Nb (aS k xs).flatten (aS k us).flatten
 | 0=>.nil
 | k+1=>by rw[iZ,iZ,Ap,Ap];exact Nb.append h (Nb.rep h k)
theorem jfm{α:Type}(l:List α):l.eraseIdx (l.length - 1)=l.dropLast:=by
 induction l with
 | nil=>rfl
 | cons a r ih=>
  cases r with
  | nil=>rfl
  | cons b r=>
   have e:(a :: b :: r).length - 1=((b :: r).length - 1)+1:=by have h1:(a :: b :: r).length=r.length+2:=rfl;have h2:(b :: r).length=r.length+1:=rfl;omega
   rw[e,List.eraseIdx_cons_succ,ih]
   all_goals rfl
theorem jbX{α:Type}:∀(l:List α) (i:Nat),(l.eraseIdx i).length<=l.length
 | [],_=>aK _
 | _ :: _,0=>fB _
 | _ :: r,i+1=>iX (jbX r i)
theorem jb3(Nc:List ae):∀(k:Nat) (aV:List ae),
  Ff (fun x1 x2=>x1++x2) aV.toArray (aS k Nc.toArray)=(aV++(aS k Nc).flatten).toArray
 | 0,aV=>by simp
 | k+1,aV=>by
  have e:aV.toArray++Nc.toArray=(aV++Nc).toArray:=by simp
  have e2:(aV++Nc)++(aS k Nc).flatten=aV++(aS (k+1) Nc).flatten:=by rw[iZ,Ap,bq]
  rw[<- e2,<- jb3 Nc k (aV++Nc),<- e,iZ,List.foldl_cons]
variable {b:ac}{t':Nat}
section
variable {σ:St}{l:ac}{ys zs:List V}
def xJ.lset{its':List ae}{f:Array ae->Array ae}(I:xJ X ad σ H s)(hH:H l=some (.lst xs))
  (e:s.heap.get? l=some { cls:=.type "list",data:=.seq Nc.toArray n }) (hf:f Nc.toArray=its'.toArray) (hv:Nb ys its') (hz:ys.length<=aF) :
  xJ X ad σ (upd H l (.lst ys)) { s with heap:=s.heap.update l (tO f),toks:=t' }:=by
 have q:=PySem.IsL.update e f
 rw[hf]at q
 refine I.write (x:=l) (e:=l) (by rw[hH];exact trivial) (.inl rfl) (fun b' u hb hu=>(pL s.heap (tO f) (cj hb)).trans hu) ⟨_,q⟩ ?_
 exact⟨hz,its',_,hv,q⟩
def xJ.lnew(I:xJ X ad σ H s)(hv:Nb ys Nc)(hz:ys.length<=aF):
  xJ X ad σ (upd H s.heap.objs.size (.lst ys)) { s with heap:=s.heap.push { cls:=.type "list",data:=.seq Nc.toArray },toks:=t' }:=
 I.laid (fun _ _ q=>bu _ q) (aK _) ⟨hz,Nc,0,hv,dU _ rfl⟩
def xJ.fresh(I:xJ X ad σ H s):H s.heap.objs.size=none:=I.hok.fresh (aK _)
def xJ.lstM(I:xJ X ad σ H s)(hH:H l=some (.lst xs)):xs.length<=aF/\∃(Nc:List ae) (n:Nat),Nb xs Nc/\xs.length=Nc.length/\s.heap.get? l=some { cls:=.type "list",data:=.seq Nc.toArray n }:=by obtain⟨z,Nc,n,r,e⟩:=I.hok l _ hH;exact⟨z,Nc,n,r,r.length,e⟩
theorem jjf(h:n<=aF):EM n=false:=by unfold EM;exact PM N4
end
section
def jkM:V->List V->Hp->VK->Prop:=fun x vs H Q=>∃l xs y,x=.ref l/\vs=[y]/\H l=some (.lst xs)/\xs.length < aF/\Q .non (upd H l (.lst (xs++[y])))
theorem ke:MtM X "list.append" jkM:=by
 intro ad s σ H x vs v us Q I rx rv h;obtain⟨l,xs,y,rfl,rfl,hH,hz,q⟩:=h
 cases rx
 obtain⟨u,rfl,ru⟩:=rv.one;obtain⟨z,Nc,n,r,hl,e⟩:=I.lstM hH;refine gD F.slot_list_append ⟨_,e,rfl⟩ F.entry_list_append (F.args_list_append_2 _ _) (PySem.list_append l Nc.toArray n u (by rw[bQ];omega)) ⟨e,?_⟩;refine⟨.non,_,I.lset (its':=Nc++[u]) hH e NZ (r.append (.cons ru .nil)) ?_,rfl,q⟩;rw[az,List.length_singleton];omega
def jof:V->List V->Hp->VK->Prop:=fun x vs H Q=>∃l xs y,x=.ref l/\vs=[]/\H l=some (.lst xs)/\xs[xs.length - 1]?=some y/\Q y (upd H l (.lst xs.dropLast))
theorem jjj:MtM X "list.pop" jof:=by
 intro ad s σ H x vs v us Q I rx rv h;obtain⟨l,xs,y,rfl,rfl,hH,hy,q⟩:=h
 cases rx
 have cw:=rv.zero;subst cw;obtain⟨z,Nc,n,r,hl,e⟩:=I.lstM hH;obtain⟨u,hu,ru⟩:=r.get hy;have Hm:Nc.toArray[Nc.toArray.size - 1]?=some u:=by show Nc.toArray[Nc.length - 1]?=some u;rw[<- PF,<- hl];exact hu
 refine gD pR ⟨_,e,rfl⟩ Og (F.args_list_pop_1 _) (MeetsSeq.list_pop_last l Nc.toArray n u Hm (by rw[bQ];omega)) ⟨e,?_⟩;refine⟨y,_,I.lset (its':=Nc.dropLast) hH e ?_ r.dropLast ?_,ru,q⟩
 .show Nc.toArray.eraseIdxIfInBounds (Nc.toArray.size - 1)=Nc.dropLast.toArray
  rw[bQ,Ph,jfm]
 .rw[O9]
  omega
def jmm:V->List V->Hp->VK->Prop:=fun x vs H Q=>∃l xs i k y,x=.ref l/\vs=[.int i]/\H l=some (.lst xs)/\-(2 ^ 63)<=i/\i < 2 ^ 63/\xF i xs.length=some k/\xs[k]?=some y/\Q y (upd H l (.lst (xs.eraseIdx k)))
theorem jdR:MtM X "list.pop" jmm:=by
 intro ad s σ H x vs v us Q I rx rv h;obtain⟨l,xs,i,k,y,rfl,rfl,hH,h1,h2,hk,hy,q⟩:=h
 cases rx
 obtain⟨u,rfl,ru⟩:=rv.one;obtain⟨t,rfl⟩:=ru;obtain⟨z,Nc,n,r,hl,e⟩:=I.lstM hH;obtain⟨w,hw,eJ⟩:=r.get hy;refine gD pR ⟨_,e,rfl⟩ Og (F.args_list_pop_2 _ _)
  (MeetsSeq.list_pop_at l Nc.toArray n i t k w (fitsIndex_both h1 h2) (by rw[bQ,<- hl];exact hk) (by rw[<- PF];exact hw) (by rw[bQ];omega)) ⟨e,?_⟩
 refine⟨y,_,I.lset (its':=Nc.eraseIdx k) hH e ?_ (r.eraseIdx k) ?_,eJ,q⟩
 .show Nc.toArray.eraseIdxIfInBounds k=(Nc.eraseIdx k).toArray
  rw[Ph]
 .have:=jbX xs k
  omega
def RL:R2:=fun x y H Q=>∃l b xs zs,x=.ref l/\y=.ref b/\H l=some (.lst xs)/\H b=some (.lst zs)/\xs.length+zs.length<=aF/\∀p,H p=none->Q (.ref p) (upd H p (.lst (xs++zs)))
theorem j9:Qm X (gE .Add) RL:=by
 intro ad s σ H x y v u Q I rx ry h;obtain⟨l,b,xs,zs,rfl,rfl,hH,hB,hz,q⟩:=h
 cases rx
 cases ry
 obtain⟨z,Nc,n,r,hl,e⟩:=I.lstM hH;obtain⟨z2,BK,n2,r2,cD,e2⟩:=I.lstM hB;refine PySem.P.add_list e e2 ?_ (by rw[bQ,bQ];omega);have ea:Nc.toArray++BK.toArray=(Nc++BK).toArray:=by simp
 rw[ea];exact⟨.ref _,_,I.lnew (t':=s.toks) (r.append r2) (by rw[az];omega),rfl,q _ I.fresh⟩
def joe:R2:=fun x y H Q=>∃l k xs,x=.ref l/\y=.int k/\H l=some (.lst xs)/\-(2 ^ 63)<=k/\k < 2 ^ 63/\xs.length * k.toNat<=aF/\
 ∀p,H p=none->Q (.ref p) (upd H p (.lst (aS k.toNat xs).flatten))
def jge{α:Type}(xs:List α)(k:Nat):(aS k xs).flatten.length=k * xs.length:=by
 induction k with
 | zero=>simp
 | succ k ih=>rw[iZ,Ap,az,ih,Ab,Ah]
theorem jmu:Qm X (gE .Mult) joe:=by
 intro ad s σ H x y v u Q I rx ry h;obtain⟨l,k,xs,rfl,rfl,hH,h1,h2,hz,q⟩:=h
 cases rx
 obtain⟨t,rfl⟩:=ry;obtain⟨z,Nc,n,r,hl,e⟩:=I.lstM hH;have bb:Nc.toArray.size * k.toNat<=aF:=by rw[bQ,<- hl];exact hz
 have II:¬Nc.toArray.size * k.toNat > (2 ^ 63 - 1) / 8:=by
  have:(aF:Nat)<=(2 ^ 63 - 1) / 8:=by decide
  omega
 have fS:¬(!Builtin.List.listFitsIndex k)=true:=by rw[fitsIndex_both h1 h2];exact aU
 have H_:¬EM (Nc.toArray.size * k.toNat)=true:=by rw[jjf bb];exact aU
 have HV:Ff (fun x1 x2=>x1++x2) #[] (aS (if Nc.toArray.isEmpty=true then 0 else k.toNat) Nc.toArray)=(aS k.toNat Nc).flatten.toArray:=by
  have f0:∀m:Nat,Ff (fun x1 x2=>x1++x2) #[] (aS m Nc.toArray)=(aS m Nc).flatten.toArray:=fun m=>by have:=jb3 Nc m [];rw[tZ]at this;exact this
  rw[f0]
  cases Nc with
  | nil=>simp
  | cons a r'=>rw[PN NZ]
 refine wpAny_binaryOp_repeat_ref (T:="list") (U:="int") N5 ⟨_,e,rfl⟩ (fun s'=>DU s' k t) noFill_list_mul F.fills_int_mul Oe repeat_list F.slot_int_index.lookup
  (gD Oe (DU s k t) F.entry_int_rmul (F.args_int_rmul_2 _ _) (int___rmul___int_list k t l Nc.toArray n)
   ⟨e,rfl,⟨_,e,rfl⟩,gD F.slot_list_mul ⟨_,e,rfl⟩ F.entry_list_mul (F.args_list_mul_2 _ _) (AutoListH.list___mul___list_int_3 l Nc.toArray n k t fS II H_) ⟨e,?_⟩⟩)
 rw[HV];exact⟨.ref _,_,I.lnew (t':=s.toks) (r.rep k.toNat) (by rw[jge,Nat.mul_comm];exact hz),rfl,q _ I.fresh⟩
end
variable {o:Option V}
section
variable {κ:Type}[DecidableEq κ]
def zP(ah:List (κ×V))(k:κ):Option V:=(ah.find? fun kv=>decide (kv.1=k)).map (·.2)
def yk(ah:List (κ×V))(k:κ)(v:V):List (κ×V):=
 if (ah.any fun kv=>decide (kv.1=k))=true then ah.map (fun kv=>if kv.1=k then (kv.1,v) else kv) else ah++[(k,v)]
def qV{p:κ×V}{r:List (κ×V)}{k:κ}(e:p.1=k):zP (p :: r) k=some p.2:=by simp[zP,iu,e]
def qW{p:κ×V}{r:List (κ×V)}{k:κ}(e:¬p.1=k):zP (p :: r) k=zP r k:=by simp[zP,iu,e]
theorem JS(k:κ):∀ah:List (κ×V),(ah.any fun kv=>decide (kv.1=k))=(zP ah k).isSome
 | []=>rfl
 | p :: r=>by
  rw[nZ];by_cases e:p.1=k
  .simp only[qV e,PL e,Bool.true_or,Option.isSome_some]
  .rw[qW e,PM e,uq];exact JS k r
theorem jdo(k j:κ)(y:V):∀ah:List (κ×V),zP (ah.map fun kv=>if kv.1=k then (kv.1,y) else kv) j=(zP ah j).map fun x=>if j=k then y else x
 | []=>rfl
 | p :: r=>by
  have ih:=jdo k j y r;rw[bn];by_cases h:p.1=k
  .rw[PP h]
   by_cases e:p.1=j
   .rw[qV (p:=(p.1,y)) e,qV e,z_,PP (e.symm.trans h)]
   .rw[qW (p:=(p.1,y)) e,qW e,ih]
  .rw[PN h]
   by_cases e:p.1=j
   .rw[qV (p:=p) e,qV e,z_,PN (fun z=>h (e.trans z))]
   .rw[qW (p:=p) e,qW e,ih]
theorem jbE(k j:κ)(y:V):∀ah:List (κ×V),zP ah k=none->zP (ah++[(k,y)]) j=if j=k then some y else zP ah j
 | [],_=>by
  by_cases e:k=j
  .rw[PP e.symm];exact qV (p:=(k,y)) e
  .rw[PN (fun z=>e z.symm)];exact qW (p:=(k,y)) e
 | p :: r,hn=>by
  rw[cJ];have hk:¬p.1=k:=fun z=>by rw[qV z]at hn;cases hn
  rw[qW hk]at hn;have ih:=jbE k j y r hn;by_cases e:p.1=j
  .rw[qV e,qV e,PN (fun z=>hk (e.trans z))]
  .rw[qW e,qW e,ih]
def JR(ah:List (κ×V))(k j:κ)(y:V):zP (yk ah k y) j=if j=k then some y else zP ah j:=by
 unfold yk;by_cases a:(ah.any fun kv=>decide (kv.1=k))=true
 .rw[PP a,jdo]
  rw[JS]at a;by_cases e:j=k
  .obtain⟨x,hx⟩:=pT.mp a
   rw[PP e,e,hx,z_,PP rfl]
  .rw[PN e]
   cases zP ah j with
   | none=>rfl
   | some x=>rw[z_,PN e]
 .rw[PN a]
  refine jbE k j y ah ?_;rw[JS]at a
  cases q:zP ah k with
  | none=>rfl
  | some x=>rw[q]at a;exact (a rfl).elim
theorem Kr(ah:List (κ×V))(k:κ)(v:V):(yk ah k v).length<=ah.length+1:=by
 unfold yk;split
 .rw[av];omega
 .rw[az,aM,cZ];omega
def P2.isSome_eq{u:Option ae}(r:P2 o u):o.isSome=u.isSome:=by
 cases o with
 | none=>cases u with
  | none=>rfl
  | some _=>exact (show False from r).elim
 | some _=>cases u with
  | none=>exact (show False from r).elim
  | some _=>rfl
def P2.getD{u:Option ae}{d:V}{d':ae}(r:P2 o u)(rd:Nh d d'):Nh (o.getD d) (u.getD d'):=by
 cases o with
 | none=>cases u with
  | none=>exact rd
  | some _=>exact (show False from r).elim
 | some _=>cases u with
  | none=>exact (show False from r).elim
  | some _=>exact r
def KV.val{ah:List (κ×V)}{vs:List (κ×ae)}(r:KV ah vs)(k:κ):P2 (zP ah k) (nq vs k):=by
 unfold KV at r;induction r with
 | nil=>exact True.intro
 | @cons p q ps qs h t ih=>
  obtain⟨h1,h2⟩:=h;by_cases e:p.1=k
  .have e':q.1=k:=h1.symm.trans e
   have b:nq (q :: qs) k=some q.2:=by simp[nq,iu,e']
   rw[qV e,b];exact h2
  .have e':¬q.1=k:=fun z=>e (h1.trans z)
   have b:nq (q :: qs) k=nq qs k:=by simp[nq,iu,e']
   rw[qW e,b];exact ih
def KV.any{ah:List (κ×V)}{vs:List (κ×ae)}(r:KV ah vs)(k:κ):(ah.any fun kv=>decide (kv.1=k))=vs.any fun kv=>decide (kv.1=k):=by
 unfold KV at r;induction r with
 | nil=>rfl
 | cons h t ih=>rw[nZ,nZ,ih,h.1]
def KV.repl{ah:List (κ×V)}{vs:List (κ×ae)}(r:KV ah vs)(k:κ)(ry:Nh y u):
  KV (ah.map fun kv=>if kv.1=k then (kv.1,y) else kv) (vs.map fun kv=>if kv.1=k then (kv.1,u) else kv):=by
 unfold KV at r |-
 induction r with
 | nil=>exact .nil
 | @cons p q ps qs h t ih=>
  rw[bn,bn]
  refine .cons ?_ ih
  obtain⟨h1,h2⟩:=h
  by_cases e:p.1=k
  .rw[PP e,PP (h1.symm.trans e)];exact⟨h1,ry⟩
  .rw[PN e,PN (fun z=>e (h1.trans z))];exact⟨h1,h2⟩
def KV.put{ah:List (κ×V)}{vs:List (κ×ae)}(r:KV ah vs)(k:κ)(ry:Nh y u):KV (yk ah k y) (stored vs k u):=by
 unfold yk stored;rw[r.any k];by_cases e:(vs.any fun kv=>decide (kv.1=k))=true
 .rw[PP e,PP e];exact r.repl k ry
 .rw[PN e,PN e];exact N0 r ⟨rfl,ry⟩
def KV.keys{ah:List (κ×V)}{vs:List (κ×ae)}(r:KV ah vs):ah.map (·.1)=vs.map (·.1):=by
 unfold KV at r;induction r with
 | nil=>rfl
 | cons h t ih=>rw[bn,bn,ih,h.1]
def KV.length{ah:List (κ×V)}{vs:List (κ×ae)}(r:KV ah vs):ah.length=vs.length:=xX r
end
variable {P:aC}{w:ax}
def jgh{k:PV}(r:Nh (kV k) u):(qB P w).is k u=true:=by
 cases k with
 | inl i=>obtain⟨t,e⟩:=(show ∃t,u=Value.int i t from r);subst e;exact jdT P w i t
 | inr x=>obtain⟨t,e⟩:=(show ∃t,u=Value.str x t from r);subst e;exact jdS P w x t
theorem jb0{P:aC}{w:ax}:∀{ks:List PV} {us:List ae},Nb (ks.map kV) us->ItemsAre (qB P w) ks us
 | [],_,r=>by rw[Fb]at r;cases r;exact .nil
 | k :: ks,_,r=>by
  rw[bn]at r
  cases r with
  | cons h t=>exact .cons (jgh h) (jb0 t)
abbrev KT(H:Hp):List (List PV×V)->List (List PV×ac×ae)->Prop:=Paired fun p q=>p.1=q.1/\H q.2.1=some (.tup (p.1.map kV))/\Nh p.2 q.2.2
variable {ah:List (List PV×V)}
def KT.val{xs:List (List PV×ac×ae)}(r:KT H ah xs)(k:List PV):P2 (zP ah k) ((atKey xs k).map (·.2)):=by
 induction r with
 | nil=>exact True.intro
 | @cons p q ps qs h t ih=>
  obtain⟨h1,_,h2⟩:=h;by_cases e:p.1=k
  .have e':q.1=k:=h1.symm.trans e
   have b:atKey (q :: qs) k=some q.2:=by simp[atKey,iu,e']
   rw[qV e,b];exact h2
  .have e':¬q.1=k:=fun z=>e (h1.trans z)
   have b:atKey (q :: qs) k=atKey qs k:=by simp[atKey,iu,e']
   rw[qW e,b];exact ih
def KT.repl{xs:List (List PV×ac×ae)}(r:KT H ah xs)(k:List PV)(ry:Nh y u):
  KT H (ah.map fun kv=>if kv.1=k then (kv.1,y) else kv) (xs.map (putAt k u)):=by
 induction r with
 | nil=>exact .nil
 | @cons p q ps qs h t ih=>
  rw[bn,bn]
  refine .cons ?_ ih
  obtain⟨h1,h2,h3⟩:=h
  unfold putAt
  by_cases e:p.1=k
  .rw[PP e,PP (h1.symm.trans e)];exact⟨h1,h2,ry⟩
  .rw[PN e,PN (fun z=>e (h1.trans z))];exact⟨h1,h2,h3⟩
def KT.put{xs:List (List PV×ac×ae)}(r:KT H ah xs)(k:List PV)(hb:H b=some (.tup (k.map kV)))(ry:Nh y u):
  KT H (yk ah k y) (storedH xs k b u):=by
 have e:(ah.any fun kv=>decide (kv.1=k))=(atKey xs k).isSome:=by rw[JS,(r.val k).isSome_eq,Option.isSome_map]
 unfold yk storedH
 rw[e]
 by_cases q:(atKey xs k).isSome=true
 .rw[PP q,PP q];exact r.repl k ry
 .rw[PN q,PN q];exact N0 r ⟨rfl,hb,ry⟩
variable {H':Hp}
def KT.keeps{xs:List (List PV×ac×ae)}(r:KT H ah xs)(ht:∀b ys,H b=some (.tup ys)->H' b=some (.tup ys)):KT H' ah xs:=
 Paired.mapP r fun _ _ z=>⟨z.1,ht _ _ z.2.1,z.2.2⟩
variable {a:ac}
section
variable {h:ak}
def jlQ{u:HO}(ok:P6 P w H h)(e:Rd H a u):Ng P w H h a u:=e.ok ok
def jjT{ah:List (PV×V)}(ok:P6 P w H h)(e:Rd H a (.dK ah)):ah.length<=aF/\(a == fk)=false/\∃vs,KV ah vs/\h.DictOf (qB P w) a vs:=
 show Ng P w H h a (.dK ah) from jlQ ok e
def jl5{ah:List (PV×V)}(ok:P6 P w H h)(e:H a=some (.dK ah)):ah.length<=aF/\(a == fk)=false/\∃vs,KV ah vs/\h.DictOf (qB P w) a vs:=jjT ok (.inl e)
def jfe{ks:List PV}(ok:P6 P w H h)(e:H a=some (.tup (ks.map kV))):(sV (qB P w)).is h ks a:=by
 obtain⟨_,Nc,r,o,h1,h2,n,h3⟩:=(show Ng P w H h a (.tup (ks.map kV)) from ok a _ e)
 exact⟨o,Nc.toArray,n,h1,h2,h3,by simpa using jb0 r⟩
def jjS(ok:P6 P w H h)(e:Rd H a (.dT ah)):ah.length<=aF/\(a == fk)=false/\
  ∃xs,KT H ah xs/\h.DictOfH (sV (qB P w)) a xs:=by
 obtain⟨z,y,xs,r,o,es,ep,h1,h2,h3,h4,h5⟩:=(show Ng P w H h a (.dT ah) from jlQ ok e)
 refine⟨z,y,xs,r,o,es,ep,h1,h2,h3,h4,fun x hx=>?_,h5⟩
 have all:∀{l:List (List PV×V)} {m:List (List PV×ac×ae)},KT H l m->∀x∈m,(sV (qB P w)).is h x.1 x.2.1:=by
  intro l m q;induction q with
  | nil=>intro x hx;exact nomatch hx
  | @cons p q ps qs hq t ih=>
   intro x hx;rcases aA.mp hx with e | hx
   .subst e
    exact jfe ok (by rw[<- hq.1];exact hq.2.1)
   .exact ih x hx
 exact all r x hx
def jn3(ok:P6 P w H h)(e:H a=some (.dT ah)):ah.length<=aF/\(a == fk)=false/\
  ∃xs,KT H ah xs/\h.DictOfH (sV (qB P w)) a xs:=jjS ok (.inl e)
end
def Ra(H:Hp)(a:ac)(y:V)(r:Option V):Prop:=
 (∃ah k,Rd H a (.dK ah)/\y=kV k/\r=zP ah k)\/∃ah k b,Rd H a (.dT ah)/\y=.ref b/\H b=some (.tup (k.map kV))/\r=zP ah k
def Rl(H:Hp)(a:ac)(y v:V)(H':Hp):Prop:=
 (∃ah k,H a=some (.dK ah)/\y=kV k/\ah.length < aF/\H'=upd H a (.dK (yk ah k v)))\/
 ∃ah k b,H a=some (.dT ah)/\y=.ref b/\H b=some (.tup (k.map kV))/\ah.length < aF/\H'=upd H a (.dT (yk ah k v))
def Ra.k{ah:List (PV×V)}{k:PV}(e:H a=some (.dK ah)):Ra H a (kV k) (zP ah k):=.inl ⟨ah,k,.inl e,rfl,rfl⟩
def Ra.t{k:List PV}(e:H a=some (.dT ah))(eb:H b=some (.tup (k.map kV))):Ra H a (.ref b) (zP ah k):=.inr ⟨ah,k,b,.inl e,rfl,eb,rfl⟩
variable {v:V}
def Rl.k{ah:List (PV×V)}{k:PV}(e:H a=some (.dK ah))(hl:ah.length < aF):Rl H a (kV k) v (upd H a (.dK (yk ah k v))):=.inl ⟨ah,k,e,rfl,hl,rfl⟩
def Rl.t{k:List PV}(e:H a=some (.dT ah))(eb:H b=some (.tup (k.map kV)))(hl:ah.length < aF):
  Rl H a (.ref b) v (upd H a (.dT (yk ah k v))):=.inr ⟨ah,k,b,e,rfl,eb,hl,rfl⟩
section
variable {σ:St}{r:ae}{E:ae->af->Prop}
def xJ.big(I:xJ X ad σ H s):fk < s.heap.objs.size:=by have h:ba < s.heap.objs.size:=(I.mod.glob.keeps I.bk).lt;exact l_ N5 h
def jhN{Q:ae->af->Prop}(hu:A.units+1 < cLine)(I:xJ X ad σ H s)(g:Ra H a y (some v))(ry:Nh y u)(h:∀w' s',xJ X ad σ H s'->Nh v w'->Q w' s'):
  am (au X.prog X.w) A (pE (.ref a) u) Q E s:=by
 rcases g with⟨ah,k,e,ey,l⟩ | ⟨ah,k,b,e,ey,eb,l⟩
 .subst ey
  obtain⟨z,hd,vs,dE,dd⟩:=jjT I.hok e
  obtain⟨w',hw,eJ⟩:=P2.some_of (v:=v) (o:=nq vs k) (by rw[l];exact dE.val k)
  exact wpAny_getItem_of (jgh ry) dd.mapOf hw (h w' _ (I.tok _) eJ)
 .subst ey
  cases (show u=Value.ref b from ry)
  obtain⟨z,hd,xs,dE,dd⟩:=jjS I.hok e
  obtain⟨w',hw,eJ⟩:=P2.some_of (v:=v) (o:=(atKey xs k).map (·.2)) (by rw[l];exact dE.val k)
  obtain⟨p,hp,aQ⟩:=tT.mp hw
  refine wpAny_getItem_heap (MU hu) (jfe I.hok eb) dd hp ?_
  rw[aQ]
  exact h w' _ (I.tok _) eJ
def jdc{h':ak}{ob:HO}(I:xJ X ad σ H s)(mu:SN (H a))(hs:dX a s.heap h')(he:∃q,h'.get? a=some q)(new:Ng X.prog X.w (upd H a ob) h' a ob):
  xJ X ad σ (upd H a ob) { s with heap:=h',toks:=t' }:=
 I.write (x:=a) (e:=a) mu (.inl rfl) (fun b q hb z=>(hs.2 b hb).trans z) he new
def jjU{h':ak}{ah:List (PV×V)}{vs:List (PV×ae)}(z:ah.length<=aF)(hd:(a == fk)=false)(dE:KV ah vs)(dd:h'.DictOf (qB P w) a vs):
  Ng P w H' h' a (.dK ah):=⟨z,hd,vs,dE,dd⟩
theorem jhM{Q:Unit->af->Prop}(hu:A.units+1 < cLine)(I:xJ X ad σ H s)(g:Rl H a y v H')(ry:Nh y u)(rv:Nh v r)(h:∀s',xJ X ad σ H' s'->Q () s'):
  am (au X.prog X.w) A (setItem (.ref a) u r) Q E s:=by
 rcases g with⟨ah,k,e,ey,l,eH⟩ | ⟨ah,k,b,e,ey,eb,l,eH⟩
 .subst ey eH
  obtain⟨z,hd,vs,dE,dd⟩:=jl5 I.hok e
  have hz:vs.length<=aF:=by rw[<- dE.length];exact z
  have hl:(yk ah k v).length<=aF:=by have:=Kr ah k v;omega
  refine wpAny_setItem_pairs (hsz:=hz) (jgh ry) dd fun h' fW hs=>h _ ?_
  have he:∃q,h'.get? a=some q:=let ⟨q,_,_,hq,_⟩:=fW;⟨q,hq⟩
  exact jdc I (by rw[e];exact True.intro) hs he (jjU hl hd (dE.put k rv) fW)
 .subst ey eH
  cases (show u=Value.ref b from ry)
  obtain⟨z,hd,xs,dE,dd⟩:=jn3 I.hok e
  have hz:xs.length<=aF:=by rw[<- xX dE];exact z
  have hl:(yk ah k v).length<=aF:=by have:=Kr ah k v;omega
  refine wpAny_setItem_heap (hsz:=hz) (MU hu) (jfe I.hok eb) dd fun h' fW hs=>h _ ?_
  obtain⟨q,es,ep,hq,h2,h3,h4,_,h5⟩:=fW
  refine jdc I (by rw[e];exact True.intro) hs ⟨q,hq⟩ ⟨hl,hd,_,(dE.put k eb rv).keeps fun c ys ec=>?_,q,es,ep,hq,h2,h3,h4,h5⟩
  rw[jq (jnN ec e (fun z=>nomatch z))]
  exact ec
end
def jm7(i:aj):Prop:=∀ov iv,subscripted i false ov iv=operate [ov,iv] (pE ov iv)
def jfK{prog:aC}{E:ae->af->Prop}{Ec:Env}{value gm:aj}{id:String}{Q:ae->af->Prop}
  (hl:DT (.type T) "__getitem__" = pure (some (.builtin id))) (hs:jm7 gm)
  (h:am (au prog w) A (eval value Ec) (fun o s₁=>am (au prog w) A (eval gm Ec) (fun i s₂=>s₂.TypeIs o T/\am (au prog w) A (pE o i) Q E s₂) E s₁) E s) :
  am (au prog w) A (eval (.Subscript value gm x5) Ec) Q E s:=by
 refine ET (bz h (fun o s₁ h₁=>bz h₁ (fun i s₂ h₂=>?_) fun _ _ x=>x) fun _ _ x=>x)
 obtain⟨hT,h₂⟩:=h₂
 unfold EO
 refine aq ?_
 rw[getitemInPython_of_ne hT.not_modules]
 refine aq (wpAny_specialOf hT hl ?_)
 have fin:am (au prog w) A (subscripted gm false o i) (fun r s₃=>am (au prog w) A (letTemporaryGo value o r >>= fun _=>pure r) Q E s₃) E s₂:=by rw[hs o i];exact wpAny_operating (bz h₂ (fun r s₃ h₃=>aq (wpAny_letTemporaryGo (aO h₃))) fun _ _ x=>x)
 first
  | exact aO (aq fin)
  | exact aq (aO (aq fin))
  | exact aq fin
def jee{σ:St}(I:xJ X ad σ H s)(g:Ra H a y o):s.TypeIs (.ref a) "dict":=by
 rcases g with⟨ah,k,e,_,_⟩ | ⟨ah,k,b,e,_,_,_⟩
 .obtain⟨_,_,vs,_,dd⟩:=jjT I.hok e
  exact dd.typeIs
 .obtain⟨_,_,xs,_,dd⟩:=jjS I.hok e
  exact dd.typeIs
def jno(td ty:TE):TE:=fun σ H Q=>td σ H fun x H1=>ty σ H1 fun y H2=>∃a v,x=.ref a/\Ra H2 a y (some v)/\Q v H2
def jnu(td ty tv:TE):TS:=fun D σ H=>tv σ H fun v H1=>td σ H1 fun x H2=>ty σ H2 fun y H3=>∃a H4,x=.ref a/\Rl H3 a y v H4/\D.nx σ H4
def jjV(h:ak)(hb:fk < h.objs.size):Ng P w H (h.push { cls:=.type "dict",data:=.dict #[] }) h.objs.size (.dK []):=
 ⟨cn _,PQ.mpr (cj (bU hb)),[],.nil,ak.DictOf.new h⟩
def jey:List (TE×TE)->St->Hp->(List (V×V)->Hp->Prop)->Prop
 | [],_,H,Q=>Q [] H
 | (tk,tv) :: r,σ,H,Q=>tk σ H fun x H1=>tv σ H1 fun y H2=>jey r σ H2 fun ps H3=>Q ((x,y) :: ps) H3
abbrev VV:List (V×V)->List (ae×ae)->Prop:=Paired fun p q=>Nh p.1 q.1/\Nh p.2 q.2
def PPs(X:Cx)(x5:Pos)(keys:List (Option aj))(n_:List aj)(gK:List (TE×TE)):Prop:=
 ∀(ad:List (ac×Obj)) (s:af) (σ:St) (H:Hp) (Q:List (V×V)->Hp->Prop),xJ X ad σ H s->jey gK σ H Q->
  am (au X.prog X.w) X.A (evalPairs (pairTrees keys n_ X.Ec x5)) (fun vs s'=>∃ps H',xJ X ad σ H' s'/\VV ps vs/\Q ps H') X.xe s
def Kn(ah more:List (PV×V)):List (PV×V):=more.foldl (fun aV kv=>yk aV kv.1 kv.2) ah
def KV.merge:∀{more:List (PV×V)} {rs:List (PV×ae)} {ah:List (PV×V)} {vs:List (PV×ae)},KV more rs->KV ah vs->KV (Kn ah more) (merged vs rs):=by
 intro more rs ah vs r;unfold KV at r;induction r generalizing ah vs with
 | nil=>intro q;exact q
 | @cons p q ps qs h t ih=>
  intro r0;have e:KV (yk ah p.1 p.2) (stored vs q.1 q.2):=by have:=r0.put p.1 h.2;rw[<- h.1];exact this
  exact ih e
theorem y7:∀(more ah:List (PV×V)),(Kn ah more).length<=ah.length+more.length
 | [],ah=>by show ah.length<=ah.length+0;omega
 | p :: r,ah=>by have h1:=y7 r (yk ah p.1 p.2);have h2:=Kr ah p.1 p.2;show (Kn (yk ah p.1 p.2) r).length<=_;rw[aM];omega
theorem jbj{P:aC}{w:ax}:∀{ah:List (PV×V)} {ws:List (ae×ae)},VV (ah.map fun kv=>(kV kv.1,kv.2)) ws->∃rs,Carries (qB P w) ws rs/\KV ah rs
 | [],_,r=>by rw[Fb]at r;cases r;exact⟨[],True.intro,.nil⟩
 | p :: ah,_,r=>by
  rw[bn]at r
  cases r with
  | @cons a b as bs h t=>
   obtain⟨rs,c,q⟩:=jbj (P:=P) (w:=w) t;obtain⟨b1,b2⟩:=b;exact⟨(p.1,b2) :: rs,⟨jgh h.1,rfl,c⟩,.cons ⟨rfl,h.2⟩ q⟩
def jnn(gK:List (TE×TE)):TE:=fun σ H Q=>∀p,H p=none->jey gK σ (upd H p (.dK [])) fun ps H2=>H2 p=some (.dK [])/\∃ah:List (PV×V),ps=ah.map (fun kv=>(kV kv.1,kv.2))/\ah.length<=15/\Q (.ref p) (upd H2 p (.dK (Kn [] ah)))
end L2
namespace Att
open PySem PySem.W PySem.Calls PyProof.Rows
def Z2{P:nM}{h:ak}:∀(ns:List Int) (vs:List ae),WellAll P h vs (ns.map WData.int)->tR vs ns:=by
 intro ns;induction ns with
 | nil=>
  intro vs w;rw[Fb]at w
  cases w
  exact .nil
 | cons n ns ih=>
  intro vs w;rw[bn]at w
  cases w with
  | cons a b=>
   cases a
   exact .cons _ _ (ih _ b)
theorem jgT{l:OpenLaw}{n:Nat}(hn:l.most=some n){P:nM}{h:ak}{args:List WData}{uu:List ae}
  (oM:l.row.toRowW.claim.pre args=true) (gR:WellAll P h uu args) :
  ∃a vs ns,uu=[Value.ref a]/\args=[WData.list (ns.map WData.int)]/\h.get? a=some { cls:=.type "list",data:=.seq vs.toArray }/\tR vs ns/\ns.length<=n:=by
 have gu:WShape.hasAll [] args [.list .int]=true:=(pre_splitW oM).1
 have hc:l.pre.holds [] { args:=args }=true:=(pre_splitW oM).2
 obtain⟨d,r,rfl,h1,h2⟩:=hasAllW_cons gu
 obtain rfl:=hasAllW_nil h2
 obtain⟨xs,rfl,h3⟩:=hasW_list h1
 obtain⟨ns,rfl⟩:=items_int h3
 have bb:ns.length<=n:=by
  unfold OpenLaw.pre at hc;have h4:(WTm.not (.lt (.lit (.int (n:Int))) (.len (.arg 0)))).holds [] { args:=[.list (ns.map .int)] }=true:=by have h4:=(holds_andW hc).1;rw[hn]at h4;exact h4
  have h5:=condW_of h4 (w_not (w_lt w_lit (w_len_list (w_arg rfl))));rw[av]at h5;refine Nat.le_of_not_lt fun q=>?_
  have q':(n:Int) < ((ns.length:Nat):Int):=by omega
  first
   | (rw[PL q']at h5;exact absurd h5 N5)
   | (simp at h5;omega)
 cases gR with
 | cons w1 w2=>
  cases w2
  cases w1 with
  | list ho mV=>exact⟨_,_,ns,rfl,rfl,ho,Z2 ns _ mV,bb⟩
def jgV(l:OpenLaw)(args:List WData):l.row.toRowW.claim.post args (.bool true) args=true:=
 postW_of (r:=l.row.toRowW) (X:=(true == true))
  (show NK [] (.bool true) .bool=true by first | rfl | decide | simp[NK,WShape.arms,WShape.armsAll])
  (show (WTm.eq .res (.lit (.bool true))).value [] { args:=args,res:=some (.bool true),after:=args }=some (.bool (true == true)) from w_eq_bool (w_res rfl) w_lit) rfl
def attach_call{l:OpenLaw}{n:Nat}{q:aC}{my:List Str}{XP:(Str->Option ae)->ak->Prop}{YP:ax->ak->Prop}{d:DefRec}
  (hn:l.most=some n) (o0:d.params.defaults=[])
  (call:∀(w:ax) (s₀ s₁:af) (mg mb:Str->Option ae) (fa:ac) (o:Obj) (pm cd cy:ae) (a:ac) (vs:List ae) (ns:List Int),
   Ground q my [] XP w s₀ mg mb s₁.heap->YP w s₁.heap->
   s₁.heap.get? fa=some o->o.data=.func (docDef d.name d.params d.body d.scope pm cd cy)->s₁.heap.CodeRec cd d.name->mg d.name=some (.ref fa)->
   s₁.heap.get? a=some { cls:=.type "list",data:=.seq vs.toArray }->tR vs ns->ns.length<=n->s₁.gens=#[]->
   ie (au l.prog w) nC (.call (.ref fa) ⟨[.ref a],[]⟩) (fun r s'=>r=.ok (.ret (.bool true))/\OldK s₁.heap s'.heap/\s'.os=s₁.os/\io s'.gens) s₁) :
  WalkO q my XP YP l.row.toRowW d [] (fun f vs=>Ea f vs):=by
 intro w s₀ s₁ mg mb G Y fa o pm cd cy dV kV ho hd eQ hD oP hg args uu as oM hlay hrd gR oR
 obtain rfl:dV=.none:=Dflts.none hD o0
 obtain rfl:kV=.none:=Dflts.noKw hD
 obtain⟨a,vs,ns,rfl,rfl,vE,vN,bb⟩:=jgT hn oM gR
 refine enter_call (lS (call w s₀ s₁ mg mb fa o pm cd cy a vs ns G Y ho (fd_plain hd) eQ oP vE vN bb hg) fun r s' hq=>?_)
 obtain⟨rfl,h2,h3,h4⟩:=hq
 exact⟨.inl ⟨.bool true,.bool true,[],rfl,fun _=>rfl,.bool true,jgV l _,fun _=>⟨List.Pairwise.nil,fun _ hm=>(nomatch hm)⟩⟩,h2,h3,h4⟩
end Att
namespace L2
open PySem PySem.Spec PyProof.Rows
theorem jbD:∀{vs:List ae} {ns:List Int},tR vs ns->Nb (ns.map V.int) vs
 | _,_,.nil=>.nil
 | _,_,.cons n t h=>.cons ⟨t,rfl⟩ (jbD h)
def jm6(H:Hp):Prop:=∀b,H b=none\/∃o xs,H b=some (.frz o (.lst xs))
variable {P:aC}{w:ax}{K:ao}{mg:Str->Option ae}{a:ac}{fd:aE}{x:Str}{sp:Sp}
def jjx{mb:Str->Option ae}{CX:RH}{k:Nat}{fa:ac}{s₁:af}{vs:List ae}{ns:List Int}
  (KX:K.In s₁.heap) (rR:s₁.heap.Ns ba mg) (hb:s₁.heap.Ns Eb mb) (pc:∀x:Str,x≠"__name__"->mb x=cO x) (Ia:s₁.heap.NoLimit) (hg:s₁.gens=#[])
  (ha:s₁.heap.get? a=some { cls:=.type "list",data:=.seq vs.toArray }) (hi:tR vs ns) (hl:ns.length<=aF) (hr:Np k nC)
  (F:∀base:ak,K.In base->base.Ns ba mg->MT P w K mg base CX k fa fd [x] sp) (IL:∀(s:af) (u:ae),pS s fd ⟨[u],[]⟩ [(x,u)])
  (fb:∀H:Hp,jm6 H->ES K H a (ns.map V.int)->sp [.ref a] H (fun v _=>v=.bl true) fun _ _ _=>False)
  (wm:∀H e s',CX [] H s₁ (fun _ _ _=>False) e s'->False) :
  ie (au P w) nC (.call (.ref fa) ⟨[.ref a],[]⟩) (fun r s'=>r=.ok (.ret (.bool true))/\OldK s₁.heap s'.heap/\s'.os=s₁.os/\io s'.gens) s₁:=by
 have rv:=jbD hi
 have GM:=hi.length
 have core:∀H:Hp,jm6 H->ES K H a (ns.map V.int)->P6 P w H s₁.heap->(∀b,H b≠none->b=a)->(H a≠none->K.lookup a=none)->
   ie (au P w) nC (.call (.ref fa) ⟨[.ref a],[]⟩) (fun r s'=>r=.ok (.ret (.bool true))/\OldK s₁.heap s'.heap/\s'.os=s₁.os/\io s'.gens) s₁:=by
  intro H hO hS hok hA hK
  have CY:∀{b:ac} {o:Obj},s₁.heap.get? b=some o->H b=none->(RM s₁.heap H).get? b=some o:=fun e n=>jjz e n
  have ou:∀{b:ac} {o:Obj} {es:Array EF} {ep:Nat},s₁.heap.get? b=some o->o.data=.dict es ep->H b=none:=fun {b o es ep} e d=>by
   cases q:H b with
   | none=>rfl
   | some u=>
    have e':b=a:=hA b (by rw[q];simp);subst e';rw[ha]at e;cases e;have d':Data.seq vs.toArray _=Data.dict es ep:=d
    cases d'
  have rD:∀{b:ac} {m:Str->Option ae},s₁.heap.Ns b m->(RM s₁.heap H).Ns b m:=fun {b m} ⟨o,es,ep,e,d,r⟩=>⟨o,es,ep,CY e (ou e d),d,r⟩
  have Ch:K.In (RM s₁.heap H):=fun b o e=>CY (KX b o e) (by
   cases q:H b with
   | none=>rfl
   | some u=>
    have e':b=a:=hA b (by rw[q];simp);subst e';rw[hK (by rw[q];simp)]at e;cases e)
  have hM:Mod K mg (RM s₁.heap H):=⟨Ch,rD rR,⟨mb,rD hb,pc⟩,let ⟨mc,h1,h2⟩:=Ia;⟨mc,rD h1,h2⟩⟩
  have e0:QH P w K mg (RM s₁.heap H) nC [] s₁ H:=⟨rfl,hM,fun b o e=>jk9 e,E3 (jhy _ _),trivial,fun b hb=>absurd (show b∈([]:List ac) from hb) NZ,hok,.of_eq hg⟩
  refine lS ((F _ Ch (rD rR)).run nC [] s₁ H ⟨[.ref a],[]⟩ [.ref a] [.ref a] _ _ hr e0 (IL s₁ (.ref a)) (.cons rfl .nil) (fb H hO hS)) fun r s' h=>?_
  cases r with
  | error e=>exact (wm H e s' h).elim
  | ok fl=>
   cases fl with
   | next=>exact db h
   | brk=>exact db h
   | cont=>exact db h
   | ret u=>
    obtain⟨v,H',os,bare,un,HP,r',q⟩:=h
    have q':v=.bl true:=q
    subst q'
    obtain rfl:u=Value.bool true:=r'
    refine⟨rfl,OldK.of_keep fun b o e=>?_,os,bare⟩
    cases q:H b with
    | none=>exact un.keep b o e q (by intro z;exact absurd (show b∈([]:List ac) from z) NZ) NZ
    | some u=>
     rcases hO b with z | ⟨ob,xs,z⟩
     .rw[q]at z;cases z
     .have z2:=un.frzs b ob _ z
      obtain⟨e1,_⟩:=hok b _ z
      obtain⟨e2,_⟩:=HP b _ z2
      rw[e]at e1;cases e1
      exact e2
 cases hk:K.lookup a with
 | some o=>
  have e:=KX a o hk
  rw[ha]at e
  cases e
  refine core (fun _=>none) (fun _=>.inl rfl) (.inr ⟨_,vs.toArray,_,hk,rfl,rfl,rfl,by rw[bQ,GM];exact hl,by simpa using rv⟩) (fun b u z=>by have z':(none:Option HO)=some u:=z;cases z') (fun b z=>absurd rfl z) fun z=>absurd rfl z
 | none=>
  refine core (fun b=>if b=a then some (.frz { cls:=.type "list",data:=.seq vs.toArray } (.lst (ns.map V.int))) else none) (fun b=>?_) (.inl (.inr ⟨{ cls:=.type "list",data:=.seq vs.toArray },PP rfl⟩)) (fun b u z=>?_) (fun b z=>?_) fun _=>hk
  .by_cases hb:b=a
   .exact .inr ⟨_,_,PP hb⟩
   .exact .inl (PN hb)
  .by_cases hb:b=a
   .have z':=(PP hb).symm.trans z
    cases z'
    subst hb
    exact⟨ha,by rw[av];exact hl,vs,_,rv,ha⟩
   .have z':=(PN hb).symm.trans z
    cases z'
  .by_cases hb:b=a
   .exact hb
   .exact absurd (PN hb) z
variable {n:Nat}
def walk_of{l:El}{k:Nat}{q:aC}{my:List Str}{XP:(Str->Option ae)->ak->Prop}{YP:ax->ak->Prop}{d:DefRec}{K:nM->ao}{CX:ax->RH}{sp:ax->Sp}
  (hn:l.most=some n) (mI:n<=aF) (o0:d.params.defaults=[]) (hr:Np k nC)
  (hY:∀(w:ax) (h:ak),YP w h->(K w.params).In h)
  (F:∀(w:ax) (mg:Str->Option ae) (fa:ac) (h:ak),(K w.params).In h->h.Ns ba mg->mg d.name=some (.ref fa)->
   ∃fd:aE,(∀(s:af) (u:ae),pS s fd ⟨[u],[]⟩ [(x,u)])/\
    ∀base:ak,(K w.params).In base->base.Ns ba mg->MT l.prog w (K w.params) mg base (CX w) k fa fd [x] (sp w))
  (fb:∀(w:ax) (H:Hp) (a:ac) (ns:List Int),ns.length<=n->jm6 H->ES (K w.params) H a (ns.map V.int)->sp w [.ref a] H (fun v _=>v=.bl true) fun _ _ _=>False)
  (wm:∀(w:ax) (H:Hp) (s:af) (e:ae) (s':af),CX w [] H s (fun _ _ _=>False) e s'->False) :
  NJ q my XP YP l.row.toRowW d [] (fun f vs=>Ea f vs):=by
 refine Att.attach_call hn o0 fun w s₀ s₁ mg mb fa o pm cd cy a vs ns G Y ho hd eQ oP vE vN bb hg=>?_
 have KX:=hY w _ Y
 obtain⟨fd,hb,hF⟩:=F w mg fa _ KX G.T.g oP
 exact jjx KX G.T.g G.T.b G.T.builtins G.T.nolimit hg vE vN (aw bb mI) hr hF hb (fun H hO hS=>fb w H a ns bb hO hS) fun H e s'=>wm w H s₁ e s'
def jc5(s:ay)(j:Nat):ay:=match s with
 | .ClassDef _ _ _ body _ _ _ _ _ _ _=>body.getD j (.Pass ⟨0,0,0,0⟩)
 | _=>.Pass ⟨0,0,0,0⟩
def yQ(s:ay):Arguments:=match s with
 | .FunctionDef _ a _ _ _ _ _ _ _ _=>a
 | _=>{ posonlyargs:=[],args:=[],vararg:=none,kwonlyargs:=[],kw_defaults:=[],kwarg:=none,defaults:=[] }
def zK(s:ay):List ay:=match s with
 | .FunctionDef _ _ b _ _ _ _ _ _ _=>b
 | _=>[]
def jo(s:ay):ce:=match s with
 | .FunctionDef _ _ _ _ _ _ sc _ _ _=>sc
 | _=>{ kind:=.function,names:=[],isGenerator:=false,isCoroutine:=false }
abbrev PU:RH:=fun _ _ _ _ _ _=>False
abbrev E0:XK:=fun _ _ _=>False
variable {X:Cx}
def jf7:ym PU X E0:=fun _ _ _ _ _ _ _ h=>h.elim
structure Fun(K:ao)(x a_:Str)(st:ay)(f:ac)(fd:aE):Prop where
 ex:∃(oc:ae) (od:Option ac) (kV cy pm:ae) (an:Option ac) (aB ct:ae) (gN:Array (Option ae)),
  fd=ig x a_ (yQ st) (zK st) (jo st) .none kV cy pm an aB ct/\K.lookup f=some ⟨oc,od,.func fd,gN⟩/\lX K aB a_=true
 kp:di K (.ref f)=true
variable {a_:Str}{st:ay}{f:ac}{ps:List Str}
section
variable {base:ak}
def Fun.ok{N:List Str}{k:Nat}(F:Fun K x a_ st f fd)(S:tS N ps (jo st))(len:∀vs H Q E,sp vs H Q E->vs.length=ps.length)
  (lA:∀(aB:ae) (A:aN) (iw:List Env) (s:af) (H:Hp) (vs:List V) (Q:VK) (E:XK),Np k (A.deeper (envOfC a_ (jo st) s.heap.objs.size f aB))->sp vs H Q E->
   ∃t,Rj (qF PU P w K mg base N a_ (jo st) f aB A iw s H E).nox (zK st) t/\t { nx:=fun _ H'=>Q .non H',rt:=Q } (yy N vs) H):MT P w K mg base PU (k+1) f fd ps sp:=by
 obtain⟨oc,od,kV,cy,pm,an,aB,ct,gN,rfl,lk,eQ⟩:=F.ex
 refine jl3 lk eQ S len fun A iw s H vs Q E hr fb=>?_
 obtain⟨t,h,q⟩:=lA aB A iw s H vs Q E hr fb
 exact⟨t,h.nox,q⟩
def Fun.binds(F:Fun K x a_ st f fd)
  (h:∀(kV cy pm:ae) (an:Option ac) (aB ct:ae) (us:List ae),us.length=ps.length->bindArgs (ig x a_ (yQ st) (zK st) (jo st) .none kV cy pm an aB ct) ⟨us,[]⟩=pure (ps.zip us)):Nr K fd ps []:=by
 obtain⟨oc,od,kV,cy,pm,an,aB,ct,gN,rfl,lk,eQ⟩:=F.ex
 exact .all (h kV cy pm an aB ct)
def ja4{oc:ae}{od an:Option ac}{gN:Array (Option ae)}{kV cy pm aB ct:ae}(l:K.lookup f=some ⟨oc,od,.func (ig x a_ (yQ st) (zK st) (jo st) .none kV cy pm an aB ct),gN⟩)
  (c:lX K aB a_=true) (k:di K (.ref f)=true):Fun K x a_ st f (ig x a_ (yQ st) (zK st) (jo st) .none kV cy pm an aB ct):=⟨⟨oc,od,kV,cy,pm,an,aB,ct,gN,rfl,l,c⟩,k⟩
end
def jl0{A:aN}{k:Nat}(hr:Np k A):A.units+1 < cLine:=Af (Nat.add_le_add_left (by decide:1<=64) _) hr.units
def kA(h:n<=1000):n < aF:=Af h N5
section
def pv(i:Nat){x:Str}{x5:Pos}(hN:X.N[i]?=some x:=by rfl)(hv:Vis X.Ec.scope x:=by first | exact Or.inl rfl | exact Or.inr (Or.inl rfl) | exact Or.inr (Or.inr rfl))(hd:(x == ("__debug__" : Str))=false:=by decide)
  (eQ:(x == ("__classdict__" : Str))=false:=by decide):PE X (.Name x x5) (RJ i):=jmr hN hv hd eQ
end
variable {A B:Prop}
def kT(h:B):if false=true then A else B:=by rw[PN aU];exact h
def k9(h:A):if true=true then A else B:=by rw[PP rfl];exact h
def kW{c:Prop}[Decidable c](h1:c->A)(h2:¬c->B):if c then A else B:=by
 by_cases h:c
 .rw[PP h]
  exact h1 h
 .rw[PN h]
  exact h2 h
def ML(H H':Hp):Prop:=∀b o,H b=some o->H' b=some o
def ML.refl(H:Hp):ML H H:=fun _ _ h=>h
variable {H:Hp}
def ML.trans{H1 H2:Hp}(a:ML H H1)(b:ML H1 H2):ML H H2:=fun c o h=>b c o (a c o h)
variable {H':Hp}
def ML.free(e:ML H H'){l:ac}(h:H' l=Option.none):H l=Option.none:=by
 cases q:H l with
 | none=>rfl
 | some o=>
  rw[e l o q]at h
  cases h
variable {xs:List V}
def ML.seq(e:ML H H')(h:ES K H a xs):ES K H' a xs:=by
 rcases h with (h | ⟨o,h⟩) | h
 .exact .inl (.inl (e _ _ h))
 .exact .inl (.inr ⟨o,e _ _ h⟩)
 .exact .inr h
def jjM:(NameKind.free == NameKind.free)=true:=rfl
def K0(cells:List (Str×ac)):List (Str×ge)->List (Str×ac)->List (Str×ac)
 | [],aV=>aV
 | (n,k) :: r,aV=>if k == .free then K0 cells r ((n,(cells.lookup n).getD 0) :: aV) else K0 cells r aV
theorem jd9{Ec:Env}:∀(names:List (Str×ge)) (aV:List (Str×ac)),(∀x∈names,x.2=.free->(Ec.cells.lookup x.1).isSome=true)->
  (forIn names aV fun x (cs:List (Str×ac))=>(match x with | (name,kind)=>if (kind == NameKind.free)=true then do let c <- cellOf Ec name;pure (ForInStep.yield ((name,c) :: cs)) else pure (ForInStep.yield cs):Sem (ForInStep (List (Str×ac)))))=(pure (K0 Ec.cells names aV):Sem (List (Str×ac)))
 | [],aV,_=>by simp only[Pf];rfl
 | (n,k) :: r,aV,h=>by
  have ih:=fun a=>jd9 (Ec:=Ec) r a fun x hx=>h x (aH _ hx)
  rw[pZ];by_cases hk:k=.free
  .subst hk
   have q:=h (n,.free) aJ rfl;obtain⟨c,hc⟩:=pT.mp q;have e:cellOf Ec n=pure c:=by unfold cellOf;rw[show Ec.cells.lookup n=some c from hc]
   simp only[beq_self_eq_true,if_true,e,pure_bind];rw[ih];show _=pure (if (NameKind.free == NameKind.free)=true then K0 Ec.cells r ((n,(Ec.cells.lookup n).getD 0) :: aV) else _);rw[PP jjM,show Ec.cells.lookup n=some c from hc];rfl
  .have hb:(k == NameKind.free)=false:=by simpa using hk
   simp only[hb,Bool.false_eq_true,if_false,pure_bind];rw[ih];show _=pure (if (k == NameKind.free)=true then _ else K0 Ec.cells r aV);rw[hb];rfl
variable {nP:ce}
def jfs{Ec:Env}(h:∀x∈nP.names,x.2=.free->(Ec.cells.lookup x.1).isSome=true):closureFor nP Ec=pure (K0 Ec.cells nP.names []):=by unfold closureFor;have e:=jd9 (Ec:=Ec) nP.names [] h;simp only[bind_pure]at *;exact e
theorem jft{cells:List (Str×ac)}:∀(names:List (Str×ge)) (aV:List (Str×ac)),(∀x∈names,x.2=.free->(cells.lookup x.1).isSome=true)->(∀x c,aV.lookup x=some c->cells.lookup x=some c)->
  ∀x c,(K0 cells names aV).lookup x=some c->cells.lookup x=some c
 | [],aV,_,ha=>ha
 | (n,k) :: r,aV,h,ha=>by
  unfold K0;by_cases hk:k=.free
  .subst hk
   rw[PP jjM];refine jft r _ (fun x hx=>h x (aH _ hx)) fun x c e=>?_
   by_cases hx:x=n
   .subst hx
    rw[i4]at e;obtain⟨d,hd⟩:=pT.mp (h (x,.free) aJ rfl);have gX:cells.lookup x=some d:=hd;rw[gX]at e |-;exact e
   .rw[gj,PQ.mpr hx]at e
    exact ha x c e
  .rw[PN (by simpa using hk)]
   exact jft r _ (fun x hx=>h x (aH _ hx)) ha
theorem jdf{cells:List (Str×ac)}:∀(names:List (Str×ge)) (aV:List (Str×ac)) (x:Str),(aV.lookup x).isSome=true->((K0 cells names aV).lookup x).isSome=true
 | [],aV,_,ha=>ha
 | (n,k) :: r,aV,x,ha=>by
  unfold K0;split
  .refine jdf r _ x ?_
   rw[gj];split
   .rfl
   .exact ha
  .exact jdf r _ x ha
theorem jfv{cells:List (Str×ac)}:∀(names:List (Str×ge)) (aV:List (Str×ac)) (x:Str),(x,NameKind.free)∈names->((K0 cells names aV).lookup x).isSome=true
 | [],_,_,h=>by simp at h
 | (n,k) :: r,aV,x,h=>by
  unfold K0;rcases aA.mp h with e | h
  .obtain⟨e1,e2⟩:=Prod.mk.inj e
   subst e1 e2;rw[PP jjM];refine jdf r _ _ ?_;rw[i4];rfl
  .split
   .exact jfv r _ x h
   .exact jfv r _ x h
theorem yG{Ec:Env}:∀{names:List (Str×ge)} {x:Str} {k:ge},
  (names.map fun (n,k)=>if (k == NameKind.free && Ec.scope.kind == .function && Ec.kindOf n == some .cell) then (n,NameKind.cell) else (n,k)).lookup x=some k->
   names.lookup x=some k\/(k=.cell/\names.lookup x=some .free)
 | [],_,_,h=>by simp at h
 | (n,k') :: r,x,k,h=>by
  rw[bn]at h;by_cases hx:x=n
  .subst hx
   rw[i4];by_cases hc:(k' == NameKind.free && Ec.scope.kind == .function && Ec.kindOf x == some .cell)=true
   .simp only[hc,if_true]at h
    rw[i4]at h;have hk:k'=.free:=by simp only[bg,beq_iff_eq]at hc;exact hc.1.1
    exact .inr ⟨(dz h).symm,by rw[hk]⟩
   .simp only[hc]at h
    rw[PN NZ,i4]at h;exact .inl h
  .have e:(x == n)=false:=PQ.mpr hx
   have h':(r.map fun (n,k)=>if (k == NameKind.free && Ec.scope.kind == .function && Ec.kindOf n == some .cell) then (n,NameKind.cell) else (n,k)).lookup x=some k:=by
    by_cases hc:(k' == NameKind.free && Ec.scope.kind == .function && Ec.kindOf n == some .cell)=true
    .simp only[hc,if_true]at h
     rw[gj,e]at h;exact h
    .simp only[hc]at h
     rw[PN NZ,gj,e]at h;exact h
   have ih:=@yG Ec r x k h';rw[gj,e];exact ih
theorem YX{Ec:Env}:∀{names:List (Str×ge)} {x:Str},names.lookup x=some .free->
  (names.map fun (n,k)=>if (k == NameKind.free && Ec.scope.kind == .function && Ec.kindOf n == some .cell) then (n,NameKind.cell) else (n,k)).lookup x=some .cell\/
  (names.map fun (n,k)=>if (k == NameKind.free && Ec.scope.kind == .function && Ec.kindOf n == some .cell) then (n,NameKind.cell) else (n,k)).lookup x=some .free
 | [],_,h=>by simp at h
 | (n,k') :: r,x,h=>by
  rw[bn];by_cases hx:x=n
  .subst hx
   rw[i4]at h
   cases h
   by_cases hc:(NameKind.free == NameKind.free && Ec.scope.kind == .function && Ec.kindOf x == some .cell)=true
   .simp only[hc,if_true]
    exact .inl i4
   .simp only[hc]
    rw[PN NZ];exact .inr i4
  .have e:(x == n)=false:=PQ.mpr hx
   rw[gj,e]at h;have ih:=@YX Ec r x h;by_cases hc:(k' == NameKind.free && Ec.scope.kind == .function && Ec.kindOf n == some .cell)=true
   .simp only[hc,if_true]
    rw[gj,e];exact ih
   .simp only[hc]
    rw[PN NZ,gj,e];exact ih
def blk(X:Cx)(nP:ce)(own:List Str)(fr:List Nat)(s:af)(H:Hp)(ex:List ac):Cx where
 prog:=X.prog
 w:=X.w
 K:=X.K
 mg:=X.mg
 base:=X.base
 A:=X.A
 N:=own++fr.map fun j=>X.N.getD j (aa "")
 s₀:=s
 H₀:=H
 Ec:=compEnvC nP (K0 X.Ec.cells nP.names []) s.heap.objs.size X.Ec
 iw:=X.stack
 stack:=X.stack
 ex:=ex
 fn:=fun _=>false
 calm:=X.calm
 pn:=[]
 xe:=fun _ _=>False
def jj9(own:List Str)(fr:List Nat)(σ:St):St:=own.map (fun _=>none)++fr.map fun j=>(σ[j]?).join
structure P3(X:Cx)(nP:ce)(fr:List Nat):Prop where
 kind:nP.kind=.function
 nocell:∀y∈nP.names,y.2≠.cell
 loc:∀y∈nP.names,y.2=.local->nP.names.lookup y.1=some .local
 frees:∀y∈nP.names,y.2=.free->X.Ec.scope.names.lookup y.1=some .cell\/X.Ec.scope.names.lookup y.1=some .free
 fr:∀j∈fr,nP.names.lookup (X.N.getD j (aa ""))=some .free
variable {s:af}
def jlr{own:List Str}{fr:List Nat}{ad:List (ac×Obj)}{σ:St}{ex:List ac}{h1:ak}{t1:Nat}(I:xJ X ad σ H s)(O:P3 X nP fr)
  (hex:∀b∈ex,Z5 X ad H b/\b < s.heap.objs.size) (rR:h1.Ns s.heap.objs.size fun _=>none) (hk:∀b o,s.heap.get? b=some o->h1.get? b=some o) :
  xJ (blk X nP own fr s H ex) [] (jj9 own fr σ) H { s with heap:=h1,toks:=t1 }:=by
 have vk:∀x∈nP.names,x.2=.free->(X.Ec.cells.lookup x.1).isSome=true:=fun x hx e=>by obtain⟨c,hc⟩:=I.ok.has x.1 (O.frees x hx e);rw[hc];rfl
 have sub:∀x c,(K0 X.Ec.cells nP.names []).lookup x=some c->X.Ec.cells.lookup x=some c:=jft nP.names [] vk fun x c e=>by simp at e
 have v0:∀x,nP.names.lookup x=some .free->∃c,(K0 X.Ec.cells nP.names []).lookup x=some c:=fun x e=>pT.mp (jfv nP.names [] x (lR e))
 have hcne:∀x c,X.Ec.cells.lookup x=some c->c < s.heap.objs.size:=fun x c e=>by obtain⟨v,q⟩:=I.cell x c e;exact q.lt
 have hN:σ.length=X.N.length:=I.len
 refine⟨⟨I.ok.mod,O.kind,I.ok.glob,I.ok.blt,aK _,fun x y c e1 e2=>I.ok.inj x y c (sub x c e1) (sub y c e2),fun x hx=>?_,fun x c z=>absurd z (by simp[blk]),I.ok.hd,I.ok.frames,.inl rfl,fun b hb=>⟨bU (hex b hb).2,fun x c e=>(hex b hb).1.2.2.2.2.1 x c (sub x c e)⟩,
  fun b o e=>I.bs b o e,aw I.ok.bsz I.sz,fun b o e hb=>?_,fun b hb z=>?_,I.stack,I.stkFree⟩,
  rfl,I.bare,Un.kept hk,⟨_,rR,fun i x v e1 e2 e3=>?_⟩,fun x c e=>?_,I.fresh,fun x c e=>I.freeC x c (sub x c e),fun p hp=>absurd hp (by simp[blk]),I.hok.kept hk,?_⟩
 .have cL:(relabel nP X.Ec).names.lookup x=some .cell\/(relabel nP X.Ec).names.lookup x=some .free:=hx
  rcases cL with hx | hx
  .rcases yG hx with q | ⟨_,q⟩
   .exact absurd rfl (O.nocell _ (lR q))
   .exact v0 x q
  .rcases yG hx with q | ⟨q,_⟩
   .exact v0 x q
   .cases q
 .rcases (hex b hb).1.2.2.2.1 with z | z
  .exact I.ok.noex b o e z
  .exact absurd (bY (aY e) (aw I.ok.bsz z)) (iY _)
 .obtain⟨_,f1,f2,_⟩:=(hex b hb).1
  rcases aA.mp (I.stkSub b z) with q | q
  .exact f1 q
  .exact f2 q
 .have px:(own++fr.map fun j=>X.N.getD j (aa ""))[i]?=some x:=e1
  unfold jj9 at e2
  have hi:own.length<=i:=by
   by_cases h:own.length<=i
   .exact h
   .rw[ug (by simpa using Nat.lt_of_not_le h),bP]at e2
    cases q:own[i]? with
    | none=>rw[q]at e2;cases e2
    | some z=>rw[q]at e2;cases e2
  rw[pY hi,bP]at px
  rw[pY (by simpa using hi),bP,av]at e2
  cases q:fr[i - own.length]? with
  | none=>rw[q]at e2;cases e2
  | some j=>
   rw[q]at px e2
   have CM:X.N.getD j (aa "")=x:=dz px
   have gz:(σ[j]?).join=some v:=dz e2
   have CI:σ[j]?=some (some v):=by
    cases z:σ[j]? with
    | none=>rw[z]at gz;cases gz
    | some y=>rw[z]at gz;rw[<- gz];rfl
   have hj:j < X.N.length:=by rw[<- hN];exact (dY.mp CI).1
   have LK:X.N[j]?=some x:=by rw[aP hj,<- CM,eI,aP hj];rfl
   have hf:=O.fr j (gJ q)
   rw[CM]at hf
   have hv:=O.frees _ (lR hf) rfl
   obtain⟨m,_,hl⟩:=I.loc
   obtain⟨u,ru,lk⟩:=hl j x v LK CI (.inr hv)
   refine⟨u,ru,.inr ⟨?_,?_⟩⟩
   .exact YX hf
   .obtain⟨c,hc⟩:=v0 x hf
    refine⟨c,hc,?_⟩
    rcases lk with⟨k,_⟩ | ⟨_,c',cF,z⟩
    .have k':X.Ec.scope.names.lookup x=some .local:=k
     rcases hv with hv | hv <;> · rw[k']at hv;cases hv
    .have:=sub x c hc
     rw[cF]at this
     cases this
     obtain⟨o,ho,hd⟩:=z
     exact⟨o,hk _ _ ho,hd⟩
 .obtain⟨v,o,ho,hd⟩:=I.cell x c (sub x c e)
  exact⟨v,o,hk _ _ ho,hd⟩
 .show (jj9 own fr σ).length=(own++fr.map fun j=>X.N.getD j (aa "")).length
  unfold jj9
  rw[az,az,av,av,av]
def jbn{own:List Str}{fr:List Nat}{ad:List (ac×Obj)}{σ σ':St}{s':af}{ex:List ac}(I:xJ X ad σ H s)(hex:∀b∈ex,Z5 X ad H b/\b < s.heap.objs.size)
  (J:xJ (blk X nP own fr s H ex) [] σ' H' s') {h':ak} (hs:dX s.heap.objs.size s'.heap h'):xJ X ad σ H' { s' with heap:=h' }:=by
 have hC:H' s.heap.objs.size=none:=J.free
 have u:Un (No X.stack) ex H H' s.heap s'.heap:=J.base
 have ne:∀b o,s.heap.get? b=some o->b≠s.heap.objs.size:=fun b o e=>bU (aY e)
 have pz:∀b o,b≠s.heap.objs.size->s'.heap.get? b=some o->h'.get? b=some o:=fun b o hb e=>(hs.2 b hb).trans e
 refine I.call' (ch:=ex) J.os ⟨fun b o e n hb hx=>?_,fun b o e n hb hx=>?_,u.free,fun b o e hx=>?_,u.tups,u.frzs,u.tbls,fun b o xs q e hb hx=>pz b o (ne b o e) (u.stay b o xs q e hb hx)⟩ (fun b o e=>?_) J.bare fun b hb=>?_
 .exact pz b o (ne b o e) (u.keep b o e n hb hx)
 .obtain⟨sl,q⟩:=u.slot b o e n hb hx
  exact⟨sl,pz b _ (ne b o e) q⟩
 .obtain⟨o',q⟩:=u.there b o e hx
  exact⟨o',pz b _ (ne b o e) q⟩
 .refine (J.hok b o e).stay (fun c v hc q=>pz c v ?_ q) (fun _ q=>q) fun _ _ q=>q
  rintro z
  rcases hc with y | y
  .rw[y]at z;rw[z,hC]at e;cases e
  .rw[z,hC]at y;cases y
 .obtain⟨f0,f1,f2,f3,f4,f5⟩:=(hex b hb).1
  exact⟨f3,f1,f4,f5⟩
def SL(X:Cx)(ifs:List aj)(t:TT):Prop:=
 ∀(ad:List (ac×Obj)) (s:af) (σ:St) (H:Hp) (Q:Bool->Hp->Prop),xJ X ad σ H s->t σ H Q->
  am (au X.prog X.w) X.A (forIn ifs true fun c r=>if r=true then do let ok <- isTrue c X.Ec (eval c X.Ec);pure (ForInStep.yield ok) else pure (ForInStep.yield r)) (TP X ad σ Q) X.xe s
def K9:TT:=fun _ H Q=>Q true H
def YF(J:It)(p:ac)(g:TG)(tt:TT)(te:TE)(Q:VK)(σ:St)(H:Hp):Prop:=∃W:Nat->Nat->St->Hp->Prop,(∃m,W 0 m σ H)/\
 ∀i m σ' H',W i m σ' H'->(J.stop i H'/\Q (.ref p) H')\/(J.go i H'/\∃N:St->Hp->Prop,(∀σ3 H3,N σ3 H3->∃m',m' < m/\W (i+1) m' σ3 H3)/\∀x H2,J.yld i H' x H2->g x σ' H2 fun σ3 H3=>tt σ3 H3 fun c H4=>
  if c=true then te σ3 H4 fun y H5=>∃ys,H5 p=some (.lst ys)/\ys.length < aF/\N σ3 (upd H5 p (.lst (ys++[y]))) else N σ3 H4)
def ZQ(own:List Str)(fr:List Nat)(wi:TI)(g:TG)(tt:TT)(te:TE):TE:=fun σ H Q=>wi σ H fun J H1=>∀p,H1 p=none->YF J p g tt te Q (jj9 own fr σ) (upd H1 p (.lst []))
def Ze(M:dj)(A:aN)(C:ac)(XE:ae->af->Prop)(x:ae)(s':af):Prop:=
 ∃m,s'.heap.Ns C m/\∀h',dX C s'.heap h'->∀mZ:Env,mZ.locals=C->am M A (M_ "comprehension.variables-let-go" x mZ:Sem ae) (fun _ _=>False) XE { s' with heap:=h' }
variable {bt iter:aj}{ifs:List aj}{x5:Pos}
def jby{prog:aC}{A:aN}{target:aj}{it aV:ae}{Ec:Env}{R:tM->af->Prop}{E:ae->af->Prop}(no:∀x s',E x s'->notedBy (au prog w) A Ec (fun e s'=>R (.error e) s') x s')(I:Nat->af->Prop)
  (i6:∀n s,I n s->am (au prog w) A (ny it) (fun r s1=>match r with
   | none=>R (.ok .next) s1
   | some v=>am (au prog w) A (xH target it v) (fun _ AU=>am (au prog w) A (assign target Ec v) (fun _ s2=>
     am (au prog w) A (forIn ifs true fun c r=>if r=true then do let ok <- isTrue c Ec (eval c Ec);pure (ForInStep.yield ok) else pure (ForInStep.yield r)) (fun ok s3=>
      if ok=true then am (au prog w) A (eval bt Ec) (fun x s4=>
       am (au prog w) A (call (.builtin "list.append") [aV,x]) (fun _ s5=>∃m,m < n/\I m s5) E s4) E s3
      else ∃m,m < n/\I m s3) E s2) E AU) E s1) E s)
  (n:Nat) (h:I n s):ie (au prog w) A (.compLoop (.ListComp bt [⟨target,iter,ifs,0⟩] nP x5) 0 it aV Ec) R s:=by
 refine codeAny_loop rfl I (fun n s hI=>?_) n h
 show am _ A ((compTurn (.ListComp bt [⟨target,iter,ifs,0⟩] nP x5) 0 it aV Ec).onRaise (fun x=>do fY x Ec;theTreesLotGoes x)) _ _ s
 refine wpAny_noted ?_
 rw[compTurn_list]
 refine aq (lO (aq (bz (i6 n s hI) (fun r s1 h1=>?_) no)))
 cases r with
 | none=>exact aO h1
 | some v=>
  refine aq (bz h1 (fun _ AU pk=>?_) no)
  refine aq (bz pk (fun _ s2 h2=>aq (bz h2 (fun ok s3 h3=>?_) no)) no)
  cases ok with
  | false=>exact aO ⟨rfl,h3⟩
  | true=>
   exact aq (aq (bz h3 (fun x s4 h4=>aq (bz h4 (fun _ s5 h5=>aO (aO ⟨rfl,h5⟩)) no)) no))
variable {g:TG}{tt:TT}{te:TE}
def jb9{tg:aj}{wi:TI}{use:Option (ae->Sem Unit)}{own:List Str}{fr:List Nat}(hc:X.calm=true)(O:P3 X nP fr)(hi:PI X tg iter wi)
  (hb:∀{ad:List (ac×Obj)} {σ:St} {H:Hp} {s:af} {ex:List ac},xJ X ad σ H s->(∀b∈ex,Z5 X ad H b/\b < s.heap.objs.size)->∃xe:ae->af->Prop,(∀x s',xe x s'->notedBy (au X.prog X.w) X.A (blk X nP own fr s H ex).Ec (Ze (au X.prog X.w) X.A s.heap.objs.size X.xe) x s')/\PG ((blk X nP own fr s H ex).wish xe) tg g/\SL ((blk X nP own fr s H ex).wish xe) ifs tt/\PE ((blk X nP own fr s H ex).wish xe) bt te)
  (hs:∀x,iT iter X.Ec x=pure x) {ad:List (ac×Obj)} {s:af} {σ:St} {H:Hp} {Q:VK} {R:ae->af->Prop} (I:xJ X ad σ H s) (h:ZQ own fr wi g tt te σ H Q)
  (fin:∀(p C:ac) (H':Hp) (s':af) (m:Str->Option ae),s'.heap.Ns C m->H' C=none->C≠X.Ec.locals->(∀x c,X.Ec.cells.lookup x=some c->c≠C)->X.s₀.heap.objs.size<=C->(∀p∈X.pn++ad,p.1≠C)->xJ X ad σ H' s'->(∀h',dX C s'.heap h'->xJ X ad σ H' { s' with heap:=h' })->Q (.ref p) H'->
   xK (au X.prog X.w) X.A X.xe use R (.ref p) C (.ok .next) s') :
  am (au X.prog X.w) X.A (comprehension (.ListComp bt [⟨tg,iter,ifs,0⟩] nP x5) nP X.Ec (D3 [⟨tg,iter,ifs,0⟩] x5) (sY []) false (eval iter X.Ec) use) R X.xe s:=by
 have vk:∀x∈nP.names,x.2=.free->(X.Ec.cells.lookup x.1).isSome=true:=fun x cL e=>by obtain⟨c,hc⟩:=I.ok.has x.1 (O.frees x cL e);rw[hc];rfl
 refine wpAny_comprehension_free (cl:=K0 X.Ec.cells nP.names []) rfl hs (jfs vk) O.kind O.loc ?_
 refine Nn (hi ad s σ H _ I h) fun v s1 h1=>Nn h1 fun uV s2 h2=>?_
 obtain⟨it,fp,tn,J,H2,e,I2,T,ml,f2,q2⟩:=h2
 subst e
 refine MJ ?_
 have nw:H2 s2.heap.objs.size=none:=I2.fresh
 obtain⟨W2,⟨m0,w0⟩,i6⟩:=q2 _ nw
 generalize hp:s2.heap.objs.size=p at *
 have I3:xJ X ad σ (upd H2 p (.lst [])) { s2 with heap:=s2.heap.push { cls:=.type "list",dict:=none,data:=.seq ([]:List ae).toArray } }:=by have:=I2.lnew (ys:=[]) (Nc:=[]) (t':=s2.toks) .nil (cn _);rw[hp]at this;exact this
 have By:∀b∈fp,b < s2.heap.objs.size:=fun b hb=>by obtain⟨o,ho,_⟩:=T.obj _ _ ml b hb;exact aY ho
 have CD:∀b∈fp,(upd H2 p (.lst [])) b=none:=fun b hb=>by rw[jq (by rw[<- hp];exact bU (By b hb))];exact (f2 b hb).1
 generalize hs3:({ s2 with heap:=s2.heap.push { cls:=.type "list",dict:=none,data:=.seq ([]:List ae).toArray } }:af)=s3 at *
 have FL:s3.heap.objs.size=p+1:=by rw[<- hs3];show (s2.heap.push _).objs.size=_;rw[pK,hp]
 have gL:tn 0 s3.heap:=T.keep 0 _ _ ml fun b hb o e=>by rw[<- hs3];exact bu _ e
 refine wpAny_newFunctionEnv O.nocell (by intro y hy;simp at hy) (fun h4 BW HE=>?_) O.kind
 have k4:∀b o,s3.heap.get? b=some o->h4.get? b=some o:=fun b o e=>HE.extBut b o (bU (aY e)) (bu _ e)
 have HR:h4.Ns s3.heap.objs.size fun _=>none:=by
  have z:(fun x:Str=>([]:List (Str×ae)).reverse.lookup x)=fun _=>none:=by funext x;rfl
  rw[z]at BW;exact BW
 have fo:∀b∈fp,Z5 X ad (upd H2 p (.lst [])) b/\b < s3.heap.objs.size:=fun b hb=>⟨⟨CD b hb,(f2 b hb).2⟩,by rw[FL,<- hp];exact Nat.lt_succ_of_lt (By b hb)⟩
 obtain⟨xe,Hn,hg,ht,he⟩:=hb I3 fo
 have I4:=(jlr (own:=own) (fr:=fr) (t1:=s3.toks+([]:List (Str×ae)).length) I3 O fo HR k4).wish xe
 have mj:tn 0 h4:=T.keep 0 _ _ gL fun b hb o e=>k4 b o e
 have i7:∀{H':Hp} {pn:List (ac×Obj)} {s':af} {σ':St},xJ ((blk X nP own fr s3 (upd H2 p (.lst [])) fp).wish xe) [] σ' H' s'->(∀b∈fp,H' b=none)->∀b∈fp,Z5 ((blk X nP own fr s3 (upd H2 p (.lst [])) fp).wish xe) [] H' b:=fun {H' pn s' σ'} J hn b cm=>
  ⟨hn b cm,(J.ok.exf b cm).1,J.ok.exfs b cm,.inl cm,(J.ok.exf b cm).2,fun p hp=>absurd hp (by simp[blk])⟩
 have Gm:∀x c,X.Ec.cells.lookup x=some c->c≠s3.heap.objs.size:=fun x c e=>by obtain⟨v,q⟩:=I3.cell x c e;exact bU q.lt
 have Bz:∀s5:af,s5={ s3 with heap:=h4,toks:=s3.toks+([]:List (Str×ae)).length }->
   ie (au X.prog X.w) X.A (.compLoop (.ListComp bt [⟨tg,iter,ifs,0⟩] nP x5) 0 (.ref it) (.ref p) (blk X nP own fr s3 (upd H2 p (.lst [])) fp).Ec) (xK (au X.prog X.w) X.A X.xe use R (.ref p) s3.heap.objs.size) s5:=by
  rintro s5 rfl
  refine jby (E:=xe) Hn (fun n s'=>∃i σ' H',xJ ((blk X nP own fr s3 (upd H2 p (.lst [])) fp).wish xe) [] σ' H' s'/\tn i s'.heap/\(∀b∈fp,H' b=none)/\W2 i n σ' H') ?_ m0 ⟨0,_,_,I4,mj,CD,w0⟩
  rintro n s6 ⟨i,σ6,H6,I6,AJ,Cz,w6⟩
  rcases i6 i n σ6 H6 w6 with⟨stop,qn⟩ | ⟨go,N,hN,step⟩
  .refine Nn (T.done ((blk X nP own fr s3 (upd H2 p (.lst [])) fp).wish xe) rfl rfl rfl hc i [] s6 σ6 H6 _ I6 (i7 (pn:=[]) I6 Cz) AJ stop) fun r s7 ⟨hr,I7⟩=>?_
   subst hr
   obtain⟨m,hm,_⟩:=I7.loc
   exact fin p _ H6 s7 m hm I7.free (EW I3.lt) Gm I3.sz (fun p hp=>bU (aY (I3.pin p hp).1)) (jbn I3 fo I7.unwish (N7 ..)) (fun h' cu=>jbn I3 fo I7.unwish cu) qn
  .refine Nn (T.item ((blk X nP own fr s3 (upd H2 p (.lst [])) fp).wish xe) rfl rfl rfl hc i [] s6 σ6 H6 _ I6 (i7 (pn:=[]) I6 Cz) AJ go) fun r s7 ⟨u,hr,h7⟩=>?_
   subst hr
   refine Nn h7 fun _ s8 hM=>?_
   obtain⟨x,H8,I8,r8,y8,uC,Lv⟩:=hM
   have My:=I8.pinned (i7 (pn:=[]) I8 Lv) (T.obj _ _ uC)
   refine Nn (hg _ s8 σ6 H8 x u _ My r8 (step x H8 y8)) fun _ s9 hM=>?_
   obtain⟨σ9,H9,I9,q9⟩:=hM
   refine Nn (ht _ s9 σ9 H9 _ I9 q9) fun ok gr hM=>?_
   obtain⟨DH,DE,rq⟩:=hM
   have again:∀{m7:Hp} {cK:af},xJ ((blk X nP own fr s3 (upd H2 p (.lst [])) fp).wish xe) ([]++ZC fp s8.heap) σ9 m7 cK->(∃m',m' < n/\W2 (i+1) m' σ9 m7)->
     ∃m,m < n/\∃i σ' H',xJ ((blk X nP own fr s3 (upd H2 p (.lst [])) fp).wish xe) [] σ' H' cK/\tn i cK.heap/\(∀b∈fp,H' b=none)/\W2 i m σ' H':=fun {m7 cK} pA ⟨m',hm,mf⟩=>by
    refine⟨m',hm,i+1,σ9,m7,pA.unpinned,T.keep _ _ _ uC fun b cm o e=>(pA.pin (b,o) (bV _ (bV _ (JD cm e)))).1,fun b cm=>?_,mf⟩
    obtain⟨o,e,d⟩:=T.obj _ _ uC b cm
    exact (pA.pin (b,o) (bV _ (bV _ (JD cm e)))).2.1
   cases ok with
   | false=>
    rw[PN aU]at rq |-
    exact again DE (hN _ _ rq)
   | true=>
    rw[PP rfl]at rq |-
    refine Nn (he _ gr σ9 DH _ DE rq) fun yv cK hM=>?_
    obtain⟨y,m7,pA,oj,ys,Hl,bb,FV⟩:=hM
    have ap:=ke (X:=(blk X nP own fr s3 (upd H2 p (.lst [])) fp).wish xe) ([]++ZC fp s8.heap) cK σ9 m7 (.ref p) [y] (.ref p) [yv] (fun _ DF=>∃m',m' < n/\W2 (i+1) m' σ9 DF) pA rfl (.cons oj .nil) ⟨p,ys,y,rfl,rfl,Hl,bb,hN _ _ FV⟩
    exact Nn ap fun _ bR ⟨_,DF,MA,_,FU⟩=>again MA FU
 exact codeAny_compStart_list (Bz _ rfl) (T.self X.A 0 _ _ _ mj (Bz _ rfl))
def jca{own:List Str}{fr:List Nat}{tg:aj}{wi:TI}{use:Option (ae->Sem Unit)}(hc:X.calm=true)(O:P3 X nP fr)(hi:PI X tg iter wi)
  (hb:∀s H ex,PG (blk X nP own fr s H ex) tg g/\SL (blk X nP own fr s H ex) ifs tt/\PE (blk X nP own fr s H ex) bt te)
  (hs:∀x,iT iter X.Ec x=pure x) {ad:List (ac×Obj)} {s:af} {σ:St} {H:Hp} {Q:VK} {R:ae->af->Prop} (I:xJ X ad σ H s) (h:ZQ own fr wi g tt te σ H Q) (hx:∀e s',X.xe e s'↔False)
  (fin:∀(p C:ac) (H':Hp) (s':af) (m:Str->Option ae),s'.heap.Ns C m->H' C=none->C≠X.Ec.locals->(∀x c,X.Ec.cells.lookup x=some c->c≠C)->X.s₀.heap.objs.size<=C->(∀p∈X.pn++ad,p.1≠C)->xJ X ad σ H' s'->(∀h',dX C s'.heap h'->xJ X ad σ H' { s' with heap:=h' })->Q (.ref p) H'->
   xK (au X.prog X.w) X.A X.xe use R (.ref p) C (.ok .next) s') :
  am (au X.prog X.w) X.A (comprehension (.ListComp bt [⟨tg,iter,ifs,0⟩] nP x5) nP X.Ec (D3 [⟨tg,iter,ifs,0⟩] x5) (sY []) false (eval iter X.Ec) use) R X.xe s:=by
 exact jb9 hc O hi (fun {_ _ H s ex} _ _=>⟨(blk X nP own fr s H ex).xe,fun x s' z=>z.elim,hb s H ex⟩) hs I h fin
def jkT{X:Cx}{nP:ce}{bt tg iter:aj}{ifs:List aj}{x5:Pos}{wi:TI}{g:TG}{tt:TT}{te:TE}(own:List Str)(fr:List Nat)(hc:X.calm=true)(O:P3 X nP fr)(hi:PI X.nox tg iter wi)
  (hb:∀s H ex,PG (blk X.nox nP own fr s H ex) tg g/\SL (blk X.nox nP own fr s H ex) ifs tt/\PE (blk X.nox nP own fr s H ex) bt te)
  (hs:∀x,iT iter X.Ec x=pure x:=by intro _;rfl):PE X.nox (.ListComp bt [⟨tg,iter,ifs,0⟩] nP x5) (ZQ own fr wi g tt te):=by
 intro ad s σ H Q I h
 rw[eval_ListComp]
 refine jca (X:=X.nox) (use:=none) (Q:=Q) hc ⟨O.kind,O.nocell,O.loc,O.frees,O.fr⟩ hi hb hs I h (fun _ _=>Iff.rfl) fun p C H' s' m hm hC _ _ _ _ I' back q=>?_
 exact⟨m,hm,fun h' cu=>⟨.ref p,H',back h' cu,rfl,q⟩⟩
section
variable {p:ac}{σ:St}{Q:VK}
theorem jde(J:It)(n:Nat)(Pv:Nat->St->Hp->Prop)(h0:Pv 0 σ H)(stop:∀σ' H',Pv n σ' H'->J.stop n H')(go:∀i σ' H',i < n->Pv i σ' H'->J.go i H')
  (hs:∀i σ' H',i < n->Pv i σ' H'->∀x H2,J.yld i H' x H2->g x σ' H2 fun σ3 H3=>tt σ3 H3 fun c H4=>if c=true then te σ3 H4 fun y H5=>∃ys,H5 p=some (.lst ys)/\ys.length < aF/\Pv (i+1) σ3 (upd H5 p (.lst (ys++[y]))) else Pv (i+1) σ3 H4)
  (hd:∀σ' H',Pv n σ' H'->Q (.ref p) H'):YF J p g tt te Q σ H:=by
 refine⟨fun i m σ H=>m=n - i/\i<=n/\Pv i σ H,⟨n,NZ,cn _,h0⟩,?_⟩
 rintro i m σ1 H1 ⟨rfl,hi,pv⟩
 by_cases cS:i < n
 .exact .inr ⟨go i σ1 H1 cS pv,Pv (i+1),fun σ3 H3 q=>⟨n - (i+1),N4,rfl,cS,q⟩,hs i σ1 H1 cS pv⟩
 .have e:i=n:=by omega
  subst e
  exact .inl ⟨stop σ1 H1 pv,hd σ1 H1 pv⟩
def qg{lo:Int}(Pv:Nat->St->Hp->Prop)(h0:Pv 0 σ H)
  (hs:∀i σ' H',i < n->Pv i σ' H'->g (.int (lo+i)) σ' H' fun σ3 H3=>tt σ3 H3 fun c H4=>if c=true then te σ3 H4 fun y H5=>∃ys,H5 p=some (.lst ys)/\ys.length < aF/\Pv (i+1) σ3 (upd H5 p (.lst (ys++[y]))) else Pv (i+1) σ3 H4)
  (hd:∀σ' H',Pv n σ' H'->Q (.ref p) H'):YF (RP lo n) p g tt te Q σ H:=
 jde (RP lo n) n Pv h0 (fun _ _ _=>aK _) (fun i _ _ h _=>h) (fun i σ' H' h pv x H2 y=>by obtain⟨e1,e2⟩:=y;subst e1 e2;exact hs i σ' _ h pv) hd
def jei(Pv:Nat->St->Hp->Prop)(h0:Pv 0 σ H)(hl:∀i σ' H',i<=xs.length->Pv i σ' H'->Nu K H' a xs)
  (hs:∀i x σ' H',xs[i]?=some x->Pv i σ' H'->g x σ' H' fun σ3 H3=>tt σ3 H3 fun c H4=>if c=true then te σ3 H4 fun y H5=>∃ys,H5 p=some (.lst ys)/\ys.length < aF/\Pv (i+1) σ3 (upd H5 p (.lst (ys++[y]))) else Pv (i+1) σ3 H4)
  (hd:∀σ' H',Pv xs.length σ' H'->Q (.ref p) H'):YF (RY K a) p g tt te Q σ H:=
 jde (RY K a) xs.length Pv h0 (fun σ' H' pv=>⟨xs,hl _ σ' H' (aK _) pv,aK _⟩) (fun i σ' H' h pv=>⟨xs,xs[i],hl i σ' H' (cP h) pv,by simp[h]⟩) (fun i σ' H' h pv x H2 y=>by obtain⟨e1,e2⟩:=y;subst e1;exact hs i x σ' _ (e2 xs (hl i σ' _ (cP h) pv)) pv) hd
def jcb(Pv:Nat->St->Hp->Prop)(h0:Pv 0 σ H)(hl:∀i σ' H',i<=xs.length->Pv i σ' H'->ES K H' a xs)
  (hs:∀i x σ' H',xs[i]?=some x->Pv i σ' H'->g x σ' H' fun σ3 H3=>tt σ3 H3 fun c H4=>if c=true then te σ3 H4 fun y H5=>∃ys,H5 p=some (.lst ys)/\ys.length < aF/\Pv (i+1) σ3 (upd H5 p (.lst (ys++[y]))) else Pv (i+1) σ3 H4)
  (hd:∀σ' H',Pv xs.length σ' H'->Q (.ref p) H'):YF (RZ K a) p g tt te Q σ H:=
 jde (RZ K a) xs.length Pv h0 (fun σ' H' pv=>⟨xs,hl _ σ' H' (aK _) pv,aK _⟩) (fun i σ' H' h pv=>⟨xs,xs[i],hl i σ' H' (cP h) pv,by simp[h]⟩) (fun i σ' H' h pv x H2 y=>by obtain⟨e1,e2⟩:=y;subst e1;exact hs i x σ' _ (e2 xs (hl i σ' _ (cP h) pv)) pv) hd
end
inductive D where
 | int (i:Int) | str (x:Str) | tup (ds:List D)
mutual
def Na(H:Hp):D->V->Prop
 | .int i,v=>v=.int i
 | .str x,v=>v=.str x
 | .tup ds,v=>∃a xs,v=.ref a/\H a=some (.tup xs)/\MN H ds xs
def MN(H:Hp):List D->List V->Prop
 | [],vs=>vs=[]
 | d :: ds,vs=>∃v r,vs=v :: r/\Na H d v/\MN H ds r
end
mutual
theorem Na.mono{H H':Hp}(e:ML H H'):∀{d:D} {v:V},Na H d v->Na H' d v
 | .int i,v,h=>by unfold Na at h |-;exact h
 | .str x,v,h=>by unfold Na at h |-;exact h
 | .tup ds,v,h=>by unfold Na at h |-;obtain⟨a,xs,e1,e2,e3⟩:=h;exact⟨a,xs,e1,e a _ e2,MN.mono e e3⟩
theorem MN.mono{H H':Hp}(e:ML H H'):∀{ds:List D} {vs:List V},MN H ds vs->MN H' ds vs
 | [],vs,h=>by unfold MN at h |-;exact h
 | d :: ds,vs,h=>by unfold MN at h |-;obtain⟨v,r,e1,e2,e3⟩:=h;exact⟨v,r,e1,Na.mono e e2,MN.mono e e3⟩
end
def kL{i:Int}:Na H (.int i) (.int i):=by unfold Na;rfl
def jD:Na H (.str x) (.str x):=by unfold Na;rfl
def jK{ds:List D}(e:H a=some (.tup xs))(h:MN H ds xs):Na H (.tup ds) (.ref a):=by unfold Na;exact⟨a,xs,rfl,e,h⟩
def jF:MN H [] []:=by unfold MN;rfl
def jf{d:D}{ds:List D}{v:V}{r:List V}(h:Na H d v)(t:MN H ds r):MN H (d :: ds) (v :: r):=by unfold MN;exact⟨v,r,rfl,h,t⟩
theorem MN.length{H:Hp}:∀{ds:List D} {vs:List V},MN H ds vs->ds.length=vs.length
 | [],vs,h=>by unfold MN at h;subst h;rfl
 | d :: ds,vs,h=>by unfold MN at h;obtain⟨v,r,e1,_,e3⟩:=h;subst e1;rw[aM,aM,MN.length e3]
theorem MN.get{H:Hp}:∀{ds:List D} {vs:List V} {j:Nat} {d:D},MN H ds vs->ds[j]?=some d->∃v,vs[j]?=some v/\Na H d v
 | [],_,_,_,_,e=>by simp at e
 | d :: ds,vs,0,d',h,e=>by
  unfold MN at h;obtain⟨v,r,e1,e2,e3⟩:=h;simp at e;subst e e1;exact⟨v,rfl,e2⟩
 | d :: ds,vs,j+1,d',h,e=>by unfold MN at h;obtain⟨v,r,e1,e2,e3⟩:=h;subst e1;obtain⟨w,h1,h2⟩:=MN.get (j:=j) (d:=d') e3 (by simpa using e);exact⟨w,by simpa using h1,h2⟩
theorem Y2:Qm X (gE .FloorDiv) (rI (fun _ j=>0 < j/\j < 2 ^ 200) fun i j=>.int (i / j)):=opI fun i j _ _ _ _ _ hc q=>by
 refine floordiv_int N4 ?_ (.inl (PyProof.noPylong_of_log2 ?_))
 .rw[Int.fdiv_eq_ediv_of_nonneg _ N4]
  exact q
 .have h0:j.natAbs≠0:=by omega
  exact l_ ((EZ h0).mpr (show j.natAbs < 2 ^ 200 from N4)) N5
def jem:zO X (.builtin "isinstance") (fun xs H Q=>∃x t T b,xs=[x,.ty T]/\Qs X.K H x t/\fZ X.K t (.type T)=some b/\Q (.bl b) H):=by
 intro ad s σ H xs us Q I r h;obtain⟨x,t,T,b,rfl,ty,e,q⟩:=h;obtain⟨u,v,rfl,ru,rv⟩:=jdn r
 cases rv
 exact jhw I ru ty e fun tk=>⟨.bl b,H,I.tok _,rfl,q⟩
def qD:aj->Bool
 | .Starred _ _=>false
 | _=>true
def qX{e:aj}(h:qD e=true)(qm:List aj)(Ec:Env):aX (e :: qm) Ec=(false,eval e Ec) :: aX qm Ec:=by
 cases e <;> first | rfl | cases h
theorem yV(x5:Pos)(Ec:Env):∀es:List aj,es.all qD=true->(cG x5 (aX es Ec)).any (·.1)=false
 | [],_=>rfl
 | e :: es,h=>by rw[eX,bg]at h;rw[qX h.1];have ih:=yV x5 Ec es h.2;show (false || (cG x5 (aX es Ec)).any (·.1))=false;rw[ih];rfl
def RA{X:Cx}{e:aj}{es:List aj}{te:TE}{t:TA}(ha:PE X e te)(hr:PA X es t)(hp:qD e=true:=by rfl):PA X (e :: es) (yM te t):=jkU ha hr (qX hp es X.Ec)
def jdL{X:Cx}{x:Str}{p x5:Pos}{e:aj}{es:List aj}{t:TA}{id:String}{r:List V->Hp->VK->Prop}(hc:zO X (.builtin id) r)(hg:Gl X x)(hm:X.mg x=none)(hv:cO x=some (.builtin id))(ha:PA X (e :: es) t)(hp:(e :: es).all qD=true:=by rfl)(hn:x≠"__name__":=by decide)(cV:(x == ("__debug__" : Str))=false:=by decide):
  PE X (.Call (.Name x p) (e :: es) [] x5) (tCB r t):=by
 rw[eX,bg]at hp
 exact jiK hc hg hm hv ha hn cV (qX hp.1 es X.Ec) (yV x5 X.Ec es hp.2)
structure Fn(P:aC)(w:ax)(K:ao)(mg:Str->Option ae)(base:ak)(k:Nat)(x:Str)(ps:List Str)(sp:Sp):Prop where
 ex:∃f fd,MT P w K mg base PU k f fd ps sp/\Nr K fd ps []/\di K (.ref f)=true/\mg x=some (.ref f)
def jlU{X:Cx}{k k':Nat}{x:Str}{ps:List Str}{sp:Sp}{e:aj}{es:List aj}{t:TA}{p x5:Pos}(F:Fn X.prog X.w X.K X.mg X.base k x ps sp)(hr:Np k' X.A)(ha:PA X (e :: es) t)(hk:k<=k':=by decide)(hg:Gl X x:=by rfl)
  (hd:(x == ("__debug__" : Str))=false:=by decide) (hp:(e :: es).all qD=true:=by rfl):PE X (.Call (.Name x p) (e :: es) [] x5) (zM sp [] E0 t):=by
 obtain⟨f,fd,G,b,kp,m⟩:=F.ex
 rw[eX,bg]at hp
 exact jcQ G (hr.mono hk) hg m kp b .nil jf7 ha hd (qX hp.1 es X.Ec) (yV x5 X.Ec es hp.2)
def Fn.mk'{base:ak}{k:Nat}(F:Fun K x x st f fd)(b:Nr K fd ps [])(m:mg x=some (.ref f))(G:MT P w K mg base PU k f fd ps sp):Fn P w K mg base k x ps sp:=⟨f,fd,G,b,F.kp,m⟩
def qr{fr:List Nat}{sc:ce}{N:List Str}(h1:X.Ec.scope=sc)(h2:X.N=N) (h:nP.kind=.function/\(∀y∈nP.names,y.2≠.cell)/\(∀y∈nP.names,y.2=.local->nP.names.lookup y.1=some .local)/\
  (∀y∈nP.names,y.2=.free->sc.names.lookup y.1=some .cell\/sc.names.lookup y.1=some .free)/\∀j∈fr,nP.names.lookup (N.getD j (aa ""))=some .free):P3 X nP fr:=by
 obtain⟨a,b,c,d,e⟩:=h
 exact⟨a,b,c,by rw[h1];exact d,by rw[h2];exact e⟩
def ku:cO "len" = some (.builtin "len"):=N3
def jfy:cO "max" = some (.builtin "max"):=N3
def jm1:cO "min" = some (.builtin "min"):=N3
def zn:cO "isinstance" = some (.builtin "isinstance"):=N3
def jfz:cO "abs" = some (.builtin "abs"):=N3
def JI:cO "int" = some (.type "int"):=N3
def jj5:cO "str" = some (.type "str"):=N3
def jlB:cO "bool" = some (.type "bool"):=N3
def kX:cO "tuple" = some (.type "tuple"):=N3
def Zm:cO "list" = some (.type "list"):=N3
structure Ni(mg:Str->Option ae):Prop where
 len_:mg "len" = none
 max_:mg "max" = none
 min_:mg "min" = none
 all_:mg "all" = none
 isinstance_:mg "isinstance" = none
 abs_:mg "abs" = none
 sorted_:mg "sorted" = none
 int_:mg "int" = none
 str_:mg "str" = none
 bool_:mg "bool" = none
 tuple_:mg "tuple" = none
 list_:mg "list" = none
 dict_:mg "dict" = none
 range_:mg "range" = none
 set_:mg "set" = none
def Y6(h:X.K=K:=by rfl):Sq X (jnz K):=by subst h;exact jQ
def jlp(h:X.K=K:=by rfl):Sq X (jny K):=by subst h;exact j0
def Jc(h:X.K=K:=by rfl):zO X (.builtin "len") (fun xs H Q=>∃p ys,xs=[.ref p]/\(ES K H p ys\/Nu K H p ys)/\Q (.int ys.length) H):=by subst h;exact jE
structure QS(X:Cx)(st:ay)(t:TS):Prop where
 h:PS X st t
structure Rv(X:Cx)(st:List ay)(t:TS):Prop where
 h:Rj X st t
def qs{t:TS}(h:PS X st t):QS X st t:=⟨h⟩
theorem jaN:Qm X (gE .Mult) (fun x y H Q=>∃i j,x=.str i/\y=.int j/\i.length<=16/\0<=j/\j<=1000/\Q (.str (ii i j)) H):=by intro ad s σ H x y v u Q I rx ry h;obtain⟨i,j,rfl,rfl,h1,h2,h3,q⟩:=h;obtain⟨t,rfl⟩:=rx;obtain⟨t',rfl⟩:=ry;exact SB.mul (mulOk_of 16 1000 h1 N4 N4 N5 N5) fun t' k=>⟨.str (ii i j),H,I.tok _,⟨_,rfl⟩,q⟩
open PySem PySem.Spec PyProof.Rows PySem.W
def OkP(N:Nat)(p:Array Nat):Prop:=p.toList.Perm (ir N)
def OkP.size{N:Nat}{p:Array Nat}(h:OkP N p):p.size=N:=by have:=h.length_eq;rw[ub]at this;simpa using this
end L2
namespace PySem
open Sem (wp)
namespace F
end F
end PySem
namespace L2
open PySem PySem.Spec PyProof.Rows PySem.W
def xJ.more{X:Cx}{ad:List (ac×Obj)}{σ:St}{H H':Hp}{s:af}{h':ak}{t':Nat}(I:xJ X ad σ H s)(k:∀b u,s.heap.get? b=some u->h'.get? b=some u)(same:ML H H')
  (new:∀b o,H b=none->H' b=some o->s.heap.objs.size<=b/\Ng X.prog X.w H' h' b o):xJ X ad σ H' { s with heap:=h',toks:=t' }:=by
 refine I.un ⟨fun b u q _ _ _=>k b u q,fun b u q _ _ _=>⟨u.slots,k b u q⟩,fun b u q n _=>?_,fun b u q _=>⟨u,k b u q⟩,fun b xs q=>same _ _ q,fun b u xs q=>same _ _ q,fun b ps q=>⟨#[],by rw[same _ _ q];simp⟩,fun b u _ _ q _ _=>k b u q⟩ fun b o e=>?_
 .cases e:H' b with
  | none=>rfl
  | some o=>exact absurd (aY q) (Ad.mpr (new b o n e).1)
 .cases q:H b with
  | none=>exact (new b o q e).2
  | some u=>
   have:=same _ _ q
   rw[e]at this
   cases this
   exact (I.hok b o q).stay (fun c v _ q=>k c v q) (fun c q=>same _ _ q) fun c xs q=>same _ _ q
abbrev Up(xs:Array Nat):Prop:=xs.toList.Pairwise (· < ·)
structure TabOk(led:Bool)(t:iV):Prop where
 led_:t.led=led
 none_:t.dummies=#[]
 up:Up t.place
end L2
namespace PySem
namespace F
end F
end PySem
namespace L2
open PySem PySem.Spec PyProof.Rows PySem.W
abbrev jmj(es:Array (Int×ae))(ep:Nat)(t:iV):Obj:={ cls:=.type "set",dict:=none,data:=.set es ep t }
open PySem PySem.Spec PySem.Calls PyProof.Rows PySem.W
def xJ.drawn{X:Cx}{ad:List (ac×Obj)}{σ:St}{H:Hp}{s:af}{h':ak}{d':Drawn}(I:xJ X ad σ H s)(k:∀b u,s.heap.get? b=some u->h'.get? b=some u):xJ X ad σ H { s with heap:=h',drawn:=d' }:=
 I.call (g':=s.gens) (t':=s.toks) (d':=d') (ch:=[]) (Un.kept k) (I.hok.kept k) I.bare fun _ z=>nomatch z
def jeS{X:Cx}{nP:ce}{bt tg iter:aj}{ifs:List aj}{x5:Pos}{wi:TI}{g:TG}{tt:TT}{te:TE}{i:Nat}{y:Str}{py iy:Pos}(hN:X.N.Nodup)(cM:X.N[i]?=some y)(hy:Loc X.Ec.scope y)(own:List Str)(fr:List Nat)(hc:X.calm=true)(O:P3 X nP fr)(hi:PI X.nox tg iter wi)
  (hb:∀s H ex,PG (blk X.nox nP own fr s H ex) tg g/\SL (blk X.nox nP own fr s H ex) ifs tt/\PE (blk X.nox nP own fr s H ex) bt te)
  (hs:∀x,iT iter X.Ec x=pure x:=by intro _;rfl)
  (k_:gC (.ListComp bt [⟨tg,iter,ifs,0⟩] nP x5) (some (.Name y py)) iy.line X.Ec=pure true:=by rfl)
  (hf:X.fn y=true\/X.Ec.scope.names.lookup y=some .local:=by first | exact .inl rfl | exact .inr rfl | assumption) :
  PS X.nox (.Assign [.Name y py] (.ListComp bt [⟨tg,iter,ifs,0⟩] nP x5) iy) (R8 (ZQ own fr wi g tt te) (qz i)):=by
 intro ad s σ H D I h
 rw[Nm _ _ _ _ k_]
 refine aq (lO (aq ?_))
 show am _ _ (do let _ <- comprehension (.ListComp bt [⟨tg,iter,ifs,0⟩] nP x5) nP X.nox.Ec _ (sY []) false (eval iter X.nox.Ec) (some (assign (.Name y py) X.nox.Ec))) _ _ s
 refine aq (bz (jca (X:=X.nox) (use:=some (assign (.Name y py) X.nox.Ec)) (R:=fun _ s'=>SP X.nox ad D .next s') hc ⟨O.kind,O.nocell,O.loc,O.frees,O.fr⟩ hi hb hs I h (fun _ _=>Iff.rfl)
  fun p C H' s' m hm hC hL o8 hz vw I' back q=>?_) (fun _ s' hq=>aO (aO hq)) fun _ _ e=>e)
 show am _ _ (assign (.Name y py) X.nox.Ec (.ref p)) _ _ _
 refine DR (Zr (v:=.ref p) I' hN cM hy rfl (fun s2 I2 vm=>?_) hf)
 obtain⟨a,vo,ha⟩:=vm
 have wk:C≠a:=by
  rcases ha with rfl | e
  .exact hL
  .exact fun z=>o8 _ _ e z.symm
 refine⟨m,hm.sameBut vo wk,fun h' cu=>?_⟩
 exact⟨_,H',I2.turned (t':=s2.toks) (fun b o hb e=>(cu.2 b hb).trans e) hC hL (.inr hz) o8 vw,q⟩
section
variable {X:Cx}{ad:List (ac×Obj)}{σ:St}{H:Hp}{s:af}{tg:aj}
def xJ.relabel{a:ac}{u v:HO}(I:xJ X ad σ H s)(hu:H a=some u)(h1:∀xs,u≠.tup xs)(h2:∀ps,u≠.tbl ps)(h3:∀o z,X.H₀ a≠some (.frz o z))(h4:∀x,u≠.own x)(hv:Ng X.prog X.w (upd H a v) s.heap a v):xJ X ad σ (upd H a v) s:=by
 have ne:∀b,H b=none->b≠a:=fun b n z=>by rw[z,hu]at n;cases n
 have nt:∀b xs,H b=some (.tup xs)->b≠a:=fun b xs n z=>by rw[z,hu]at n;exact h1 xs (dz n)
 have no:∀b x,H b=some (.own x)->b≠a:=fun b x n z=>by rw[z,hu]at n;exact h4 x (dz n)
 refine⟨I.ok,I.os,I.bare,⟨I.base.keep,I.base.slot,fun b o e n hx=>?_,I.base.there,fun b xs e=>?_,fun b o z e=>?_,fun b ps e=>?_,I.base.stay⟩,I.loc,I.cell,?_,fun x c e=>?_,fun p hp=>?_,fun b o e=>?_,I.len⟩
 .have q:=I.base.free b o e n hx
  rw[jq (ne b q)];exact q
 .have q:=I.base.tups b xs e
  rw[jq (nt b xs q)];exact q
 .have hb:b≠a:=fun z'=>by subst z';exact h3 _ _ e
  rw[jq hb];exact I.base.frzs b o z e
 .obtain⟨m,q⟩:=I.base.tbls b ps e
  have hb:b≠a:=fun z'=>by rw[z',hu]at q;exact h2 _ (dz q)
  exact⟨m,by rw[jq hb];exact q⟩
 .rw[jq (ne _ I.free)];exact I.free
 .rw[jq (ne _ (I.freeC x c e))];exact I.freeC x c e
 .obtain⟨q1,q2,q3⟩:=I.pin p hp
  exact⟨q1,by rw[jq (ne _ q2)];exact q2,q3⟩
 .by_cases hb:b=a
  .subst hb
   rw[jc]at e
   cases e
   exact hv
  .rw[jq hb]at e
   exact (I.hok b o e).stay (fun _ _ _ q=>q) (fun c q=>by rw[jq (no c _ q)];exact q) fun c xs q=>by rw[jq (nt c xs q)];exact q
end
def jdh:cO "enumerate" = some (.type "enumerate"):=N3
end L2
namespace PySem
open AutoSeq1 (wpAny_loadPart')
section
variable {prog:aC}{w:ax}{A:aN}{E:ae->af->Prop}{s:af}
def jhG{e it:ac}{i:Nat}{x cQ:ae}{Q:ae->af->Prop}{St:ak->Prop}(he:gG s.heap e it i cQ)(aR:e≠it)
  (b_:∀Q':ae->af->Prop,(∀h',St h'->dX it s.heap h'->Q' x { s with heap:=h' })->am (au prog w) A (Builtin.SmallTypes.nextOf (.ref it)) Q' E s)
  (keep:∀h h',St h->(∀o,h.get? it=some o->h'.get? it=some o)->St h')
  (hQ:∀h',xZ h' e it ((i:Int)+1) x s.heap.objs.size->St h'->h'.get? s.heap.objs.size=some { cls:=.type "tuple",data:=.seq #[.int i s.toks,x] }->h'.objs.size=s.heap.objs.size+1->
   (∀b o,b≠e->b≠it->s.heap.get? b=some o->h'.get? b=some o)->Q (.ref s.heap.objs.size) { s with heap:=h',toks:=s.toks+1 }) :
  am (au prog w) A (Builtin.«enumerate.__next__» ⟨[.ref e],[]⟩) (fun fin s'=>∃v,fin=.done (.ret v)/\Q v s') E s:=by
 obtain⟨hp,g,d,tk,os⟩:=s
 show am _ _ (field (.ref e) 2 >>= _) _ _ _
 refine aq (fX he rfl (x:=.ref it) rfl ?_)
 refine aq (b_ _ fun h1 AK b1=>?_)
 replace b1:dX it hp h1:=b1
 have e1:gG h1 e it i cQ:=(b1.2 e aR).trans he
 show am _ _ (field (.ref e) 3 >>= _) _ _ ⟨h1,g,d,tk,os⟩
 refine aq (fX e1 rfl (x:=fq i) rfl ?_)
 show am _ _ (field (.ref e) 4 >>= _) _ _ ⟨h1,g,d,tk,os⟩
 refine aq (fX e1 rfl (x:=.none) rfl ?_)
 show am _ _ (mkInt i >>= _) _ _ ⟨h1,g,d,tk,os⟩
 refine aq (wpAny_mkInt ?_)
 show am _ _ (sW (.ref e) 3 (fq ((i:Int)+1)) >>= _) _ _ ⟨h1,g,d,tk+1,os⟩
 refine aq (sT e1 NZ fun h2 e2 b2=>?_)
 replace b2:dX e h1 h2:=b2
 replace e2:gG h2 e it ((i:Int)+1) cQ:=e2
 show am _ _ (sW (.ref e) 4 .none >>= _) _ _ ⟨h2,g,d,tk+1,os⟩
 refine aq (sT e2 NZ fun h3 e3 b3=>?_)
 replace b3:dX e h2 h3:=b3
 replace e3:gG h3 e it ((i:Int)+1) cQ:=e3
 show am _ _ (newTuple [.int i tk,x] >>= _) _ _ ⟨h3,g,d,tk+1,os⟩
 refine aq (wpAny_newTuple ?_)
 have hsz:h3.objs.size=hp.objs.size:=by rw[b3.1,b2.1,b1.1]
 have gL:St h3:=keep h1 h3 AK fun o q=>(b3.2 it (cj aR)).trans ((b2.2 it (cj aR)).trans q)
 have e4:gG (h3.push { cls:=.type "tuple",data:=.seq #[.int i tk,x] }) e it ((i:Int)+1) cQ:=bu _ e3
 have mj:St (h3.push { cls:=.type "tuple",data:=.seq #[.int i tk,x] }):=keep h3 _ gL fun o q=>bu _ q
 have t4:(h3.push { cls:=.type "tuple",data:=.seq #[.int i tk,x] }).get? hp.objs.size=some { cls:=.type "tuple",data:=.seq #[.int i tk,x] }:=by rw[<- hsz];exact dU _ rfl
 have z4:(h3.push { cls:=.type "tuple",data:=.seq #[.int i tk,x] }).objs.size=hp.objs.size+1:=by rw[pK,hsz]
 have k4:∀b o,b≠e->b≠it->hp.get? b=some o->(h3.push { cls:=.type "tuple",data:=.seq #[.int i tk,x] }).get? b=some o:=fun b o eR mR hb=>
  bu _ (b3.extBut b o eR (b2.extBut b o eR (b1.extBut b o mR hb)))
 have IA:e < hp.objs.size:=aY he
 rw[hsz]
 generalize h3.push { cls:=.type "tuple",data:=.seq #[.int i tk,x] }=h4 at *
 clear e3 b3 e2 b2 e1 b1 AK gL hsz
 show am _ _ (Oq (.ref e) >>= _) _ _ ⟨h4,g,d,tk+1,os⟩
 refine aq ?_
 unfold Oq
 refine aq (fX e4 rfl (x:=.none) rfl (aO ?_))
 simp only[if_true]
 refine aq (wpAny_rule ?_)
 refine aq (fX e4 rfl (x:=cQ) rfl ?_)
 refine aq (sT e4 NZ fun h5 e5 b5=>?_)
 replace b5:dX e h4 h5:=b5
 replace e5:gG h5 e it ((i:Int)+1) x:=e5
 show am _ _ (Os (.ref e) (.ref hp.objs.size) >>= _) _ _ ⟨h5,g,d,tk+1,os⟩
 refine aq ?_
 unfold Os
 refine aq (sT e5 NZ fun h6 e6 b6=>?_)
 replace b6:dX e h5 h6:=b6
 replace e6:xZ h6 e it ((i:Int)+1) x hp.objs.size:=e6
 refine sT e6 NZ fun h7 e7 b7=>?_
 replace b7:dX e h6 h7:=b7
 replace e7:xZ h7 e it ((i:Int)+1) x hp.objs.size:=e7
 have k7:∀b o,b≠e->h4.get? b=some o->h7.get? b=some o:=fun b o hb q=>b7.extBut b o hb (b6.extBut b o hb (b5.extBut b o hb q))
 refine aq (wpAny_letGo (aO ⟨_,rfl,hQ h7 e7 (keep h4 h7 mj fun o q=>k7 it o (cj aR) q) (k7 _ _ (EW IA) t4) (by rw[b7.1,b6.1,b5.1,z4]) fun b o eR mR hb=>k7 b o eR (k4 b o eR mR hb)⟩))
end
end PySem
namespace L2
open PySem PySem.Spec PyProof.Rows
open PySem PySem.Spec PyProof.Rows PySem.W
mutual
def Rm:D->D->Bool
 | .int i,.int j=>i == j
 | .str x,.str y=>x == y
 | .tup a,.tup b=>Q7 a b
 | _,_=>false
def Q7:List D->List D->Bool
 | [],[]=>true
 | a :: as,b :: bs=>Rm a b && Q7 as bs
 | _,_=>false
end
mutual
theorem jdd:∀{a b:D},Rm a b=true↔a=b
 | .int i,.int j=>by unfold Rm;rw[beq_iff_eq];exact⟨(fun h=>by rw[h]),(fun h=>by injection h)⟩
 | .str i,.str j=>by unfold Rm;rw[beq_iff_eq];exact⟨(fun h=>by rw[h]),(fun h=>by injection h)⟩
 | .tup a,.tup b=>by unfold Rm;rw[QV];exact⟨(fun h=>by rw[h]),(fun h=>by injection h)⟩
 | .int i,.str j=>by unfold Rm;exact⟨(fun h=>by cases h),(fun h=>by cases h)⟩
 | .int i,.tup j=>by unfold Rm;exact⟨(fun h=>by cases h),(fun h=>by cases h)⟩
 | .str i,.int j=>by unfold Rm;exact⟨(fun h=>by cases h),(fun h=>by cases h)⟩
 | .str i,.tup j=>by unfold Rm;exact⟨(fun h=>by cases h),(fun h=>by cases h)⟩
 | .tup i,.int j=>by unfold Rm;exact⟨(fun h=>by cases h),(fun h=>by cases h)⟩
 | .tup i,.str j=>by unfold Rm;exact⟨(fun h=>by cases h),(fun h=>by cases h)⟩
theorem QV:∀{a b:List D},Q7 a b=true↔a=b
 | [],[]=>by unfold Q7;exact⟨(fun _=>rfl),(fun _=>rfl)⟩
 | a :: as,b :: bs=>by
  unfold Q7;rw[bg,jdd,QV];exact⟨(fun h=>by rw[h.1,h.2]),(fun h=>by injection h with h1 h2;exact⟨h1,h2⟩)⟩
 | [],b :: bs=>by unfold Q7;exact⟨(fun h=>by cases h),(fun h=>by cases h)⟩
 | a :: as,[]=>by unfold Q7;exact⟨(fun h=>by cases h),(fun h=>by cases h)⟩
end
instance:DecidableEq D:=fun a b=>if h:Rm a b=true then isTrue (jdd.mp h) else isFalse fun e=>h (jdd.mpr e)
def QM(K:ao)(H:Hp):Nat->V->V->Prop
 | 0,x,y=>(∃i,x=.int i/\y=.int i)\/∃z,x=.str z/\y=.str z
 | n+1,x,y=>QM K H n x y\/
  (∃a b xs ys,x=.ref a/\y=.ref b/\Nu K H a xs/\Nu K H b ys/\xs.length=ys.length/\∀(j:Nat) x' y',xs[j]?=some x'->ys[j]?=some y'->QM K H n x' y')\/
  ∃a b xs ys,x=.ref a/\y=.ref b/\ES K H a xs/\ES K H b ys/\xs.length=ys.length/\∀(j:Nat) x' y',xs[j]?=some x'->ys[j]?=some y'->QM K H n x' y'
def QM.up{K:ao}{H:Hp}{n m:Nat}{x y:V}(h:QM K H n x y)(hm:n<=m):QM K H m x y:=by
 induction hm with
 | refl=>exact h
 | step _ ih=>exact .inl ih
theorem jds:∀{ys:List Str} {Nc:List ae},Nb (ys.map V.str) Nc->StrsAre Nc ys
 | [],_,r=>by cases r;exact .nil
 | y :: ys,_,r=>by
  cases r with
  | cons h t=>
   obtain⟨k,rfl⟩:=h;exact .cons y k (jds t)
def KM{X:Cx}:QZ X "str.join" (fun x xs H Q=>∃(Nt:Str) (l:ac) (ys:List Str),x=.str Nt/\xs=[.ref l]/\ES X.K H l (ys.map V.str)/\(ys.map (·.length)).sum+ys.length * Nt.length<=16777216/\Q (.str (gb Nt ys)) H):=by
 intro ad s σ H x xs v us Q I rx rs h;obtain⟨Nt,l,ys,rfl,rfl,hl,hb,q⟩:=h;obtain⟨t,rfl⟩:=rx;obtain⟨u,rfl,ru⟩:=zB rs
 cases ru
 obtain⟨Nc,rv,pl,hz⟩:=I.list hl;refine join_list pl.isList (by simpa using jds rv) hb fun t' k=>?_
 exact⟨.str (gb Nt ys),H,I.kept (t':=k) fun b o e=>e,⟨t',rfl⟩,q⟩
def jnj(t:TS):TS:=fun D σ H=>∃J:St->Hp->Prop,t { D with nx:=J } σ H/\∀σ' H',J σ' H'->D.nx σ' H'
end L2
namespace LW
open PySem L2
theorem zT{H:Hp}:∀{ds:List D} {vs:List V} {d:D} {v:V},MN H ds vs->Na H d v->MN H (ds++[d]) (vs++[v])
 | [],vs,d,v,h,hv=>by
  unfold MN at h;subst h;exact jf hv jF
 | d' :: ds,vs,d,v,h,hv=>by unfold MN at h;obtain⟨u,r,rfl,h1,h2⟩:=h;exact jf h1 (zT h2 hv)
mutual
theorem jgl{H H':Hp}(e:∀b xs,H b=some (.tup xs)->H' b=some (.tup xs)):∀{d:D} {v:V},Na H d v->Na H' d v
 | .int i,v,h=>by unfold Na at h |-;exact h
 | .str x,v,h=>by unfold Na at h |-;exact h
 | .tup ds,v,h=>by unfold Na at h |-;obtain⟨a,xs,e1,e2,e3⟩:=h;exact⟨a,xs,e1,e a _ e2,Qz e e3⟩
theorem Qz{H H':Hp}(e:∀b xs,H b=some (.tup xs)->H' b=some (.tup xs)):∀{ds:List D} {vs:List V},MN H ds vs->MN H' ds vs
 | [],vs,h=>by unfold MN at h |-;exact h
 | d :: ds,vs,h=>by unfold MN at h |-;obtain⟨v,r,e1,e2,e3⟩:=h;exact⟨v,r,e1,jgl e e2,Qz e e3⟩
end
def TK(G G':Hp):Prop:=∀b xs,G b=some (.tup xs)->G' b=some (.tup xs)
def TK.heldL{G G':Hp}(h:TK G G'){d:List D}{v:List V}(x:MN G d v):MN G' d v:=Qz h x
def TK.held{G G':Hp}(h:TK G G'){d:D}{v:V}(x:Na G d v):Na G' d v:=jgl h x
end LW
namespace L2
open PySem PySem.Spec PyProof.Rows PySem.W
def fQ{a b c}(h:tS a b c:=by exact⟨rfl,rfl,rfl,N3,rfl,N3,N3⟩):tS a b c:=h
def Pj{K b}{H:Hp}{xs:List V}{z}{Q:V->Prop}{i:Int}(j:Nat)(h:H b=some (.tup xs))(e:xs[j]?=some z)(q:Q z)(hi:i=(j:Nat):=by rfl):∃p xs k v,V.ref b=.ref p/\V.int i=.int k/\Nu K H p xs/\Qd xs k=some v/\Q v:=⟨b,xs,i,z,rfl,rfl,.of h,hi ▸ ju e,q⟩
def Pn{H:Hp}(a o):upd H a o a=some o:=jc
def Pp{α:Sort _}{p Q:α->Prop}{k:α}(h:p k)(q:Q k):∃k,p k/\Q k:=⟨k,h,q⟩
def Pq{α β}{p q Q:α->β->Prop}{i:α}{j:β}(h:p i j)(e:q i j)(r:Q i j):∃i j,p i j/\q i j/\Q i j:=⟨i,j,h,e,r⟩
def Ps{α β}{p:α->Prop}{q Q:α->β->Prop}{i:α}{j:β}(h:p i)(e:q i j)(r:Q i j):∃i,p i/\∃j,q i j/\Q i j:=⟨i,h,j,e,r⟩
def oQ{p q:Prop}(h:p\/q:=by first|exact .inl rfl|exact .inr rfl):p\/q:=h
variable {H:Hp}
def jol{i:Nat}{v:V}{σ σ':St}{Q:St->Hp->Prop}(e:σ.set i (some v)=σ')(h:Q σ' H):qz i v σ H Q:=by subst e;exact h
def gQ{i:Nat}{v:V}{σ σ':St}{Q:St->Hp->Prop}(h:Q σ' H)(e:σ.set i (some v)=σ':=by simp only[List.set_cons_succ,List.set_cons_zero];rfl):qz i v σ H Q:=jol e h
def yN{t:TS}{D:OK}{σ σ':St}(e:σ=σ')(h:t D σ' H):t D σ H:=by subst e;exact h
def RV:List Str->List V->St
 | [],vs=>vs.map some
 | _ :: N,v :: vs=>some v :: RV N vs
 | _ :: N,[]=>none :: RV N []
theorem jaw:∀(N:List Str) (vs:List V),yy N vs=RV N vs
 | [],vs=>by unfold yy RV;simp
 | _ :: N,v :: vs=>by
  have:=jaw N vs;unfold yy at this |-;unfold RV;rw[<- this,bn,aM,aM,Nat.add_sub_add_right];rfl
 | _ :: N,[]=>by have:=jaw N [];unfold yy at this |-;unfold RV;rw[<- this];rfl
def kK{N:List Str}{vs:List V}{t:TS}{D:OK}{σ:St}(h:t D σ H)(e:RV N vs=σ:=by simp only[RV];rfl):t D (yy N vs) H:=by rw[jaw,e];exact h
def jdz{p:ac}(h:H p=none)(o:HO):ML H (upd H p o):=fun b u q=>by rw[jq (jm q h)];exact q
section
variable {X:Cx}
structure QA(X:Cx)(es:List aj)(t:TA):Prop where
 h:PA X es t
structure QE(X:Cx)(e:aj)(t:TE):Prop where
 h:PE X e t
def qe{e:aj}{t:TE}(h:PE X e t):QE X e t:=⟨h⟩
end
end L2
namespace PySem
open Sem (wp)
namespace F
end F
end PySem
namespace L2
open PySem PySem.Spec PyProof.Rows PySem.W
structure Q0(P:aC)(w:ax)(K:ao)(mg:Str->Option ae)(base:ak)(k:Nat)(x:Str)(C:ac)(ps:List Str)(sp:Sp):Prop where
 ex:∃f fd,Mk K C f/\MT P w K mg base PU k f fd ps sp/\Nr K fd ps []/\mg x=some (.ref C)
end L2
namespace HT
open PySem PySem.Spec PyProof.Rows L2
open PySem.SeqAt
open PySem.AutoSeq1 (wpAny_loadPart')
open PySem.MeetsSeq PySem.MeetsSeq2 PySem.MeetsSeq3
end HT
namespace L2
open PySem PySem.Spec PyProof.Rows
variable {X:Cx}{X:Cx}{x5:Pos}
structure QT(X:Cx)(e:aj)(t:TT):Prop where
 h:PT X e t
structure QW(X:Cx)(e:aj)(t:TT):Prop where
 h:PW X e t
structure QG(X:Cx)(e:aj)(t:TG):Prop where
 h:PG X e t
structure QGs(X:Cx)(e:List aj)(t:RX):Prop where
 h:PGs X e t
structure QI(X:Cx)(tg e:aj)(t:TI):Prop where
 h:PI X tg e t
structure QO(X:Cx)(e:Option aj)(t:TO):Prop where
 h:PO X e t
structure QTs(X:Cx)(e:List aj)(t:TT):Prop where
 h:SL X e t
structure QPs(X:Cx)(x5:Pos)(ks:List (Option aj))(vs:List aj)(t:List (TE×TE)):Prop where
 h:PPs X x5 ks vs t
variable {e:aj}
def QW.pt{X:Cx}{t:TT}(h:QW X e t):QT X e t:=⟨h.h.pt⟩
def qA{X:Cx}{t:TE}(h:QE X e t)(he:∀i5,isTrue e X.Ec i5=(do let v <- i5;xE e.pos;holding [v] (truthy v)):=by intro _;rfl):QT X e (tB t):=⟨by
 intro ad s σ H Q I hw;refine isTrue_plain (Nn (h.h ad s σ H _ I hw) fun v s1 hM=>?_) (he _);obtain⟨x,H1,I1,r1,q1⟩:=hM;obtain⟨d,rfl,q⟩:=q1
 cases r1
 exact pC ⟨H1,I1,q⟩⟩
variable {o i:aj}{to:TE}
def jfF{X:Cx}{x5:Pos}{ti:TE}{t:jm4}(ho:QE X o to)(hi:QE X i ti)(hs:jn6 X t)
  (ha:∀v,assign (.Subscript o i x5) X.Ec v=(do
   let ov <- holding [v] (eval o X.Ec)
   let iv <- holding [v,ov] (eval i X.Ec)
   xE x5
   holding [v,ov,iv] (setItem ov iv v)
   release [v,ov,iv] []):=by intro _;rfl):QG X (.Subscript o i x5) (joo to ti t):=⟨by
 intro ad s σ H v u Q I r h
 rw[ha]
 refine aq (ic (Nn (ho.h ad s σ H _ I h) fun ov s1 hM=>?_))
 obtain⟨x,H1,I1,r1,q1⟩:=hM
 refine aq (ic (Nn (hi.h ad s1 σ H1 _ I1 q1) fun iv s2 hM=>?_))
 obtain⟨y,H2,I2,r2,q2⟩:=hM
 refine aq (lO (aq (ic (Nn (hs ad s2 σ H2 x y v ov iv u _ I2 r1 r2 r q2) fun _ s3 hM=>?_))))
 obtain⟨H3,I3,q3⟩:=hM
 exact wpAny_release ⟨σ,H3,I3,q3⟩⟩
variable {x:Str}
def bB{X:Cx}(i:Nat){x5:Pos}(h1:X.N[i]?=some x:=by rfl)(h2:Vis (gH X.Ec) x:=by first | exact Or.inl rfl | exact Or.inr (Or.inl rfl) | exact Or.inr (Or.inr rfl))(h3:(x == aa "__debug__")=false:=by decide)(h4:(x == aa "__classdict__")=false:=by decide):QE X (Expr.Name x x5) (RJ i):=
 ⟨@pv _ i _ _ h1 h2 h3 h4⟩
variable {j:Nat}
def je{X:Cx}{i:Int}{x5:Pos}:QE X (Expr.Constant (Const.int i) j x5) (tC (V.int i)):=
 ⟨@Yt _ _ _ _⟩
def jb{X:Cx}{x5:Pos}:QE X (Expr.Constant (Const.str x) j x5) (tC (V.str x)):=⟨fun _ _ _ H _ I h=>Calls.Constant_str ⟨.str x,H,I.tok _,⟨_,rfl⟩,h⟩⟩
def jap{X:Cx}{b:Bool}{x5:Pos}:QE X (Expr.Constant (Const.bool b) j x5) (tC (V.bl b)):=⟨fun _ _ _ H _ I h=>Constant_bool ⟨.bl b,H,I,rfl,h⟩⟩
def KB{X:Cx}{x5:Pos}:QE X (Expr.Constant Const.none j x5) (tC V.non):=⟨fun _ _ _ H _ I h=>Constant_none ⟨.non,H,I,rfl,h⟩⟩
def jh4{X:Cx}{v:V}{u:ae}{x5:Pos}(hg:Gl X x)(hm:X.mg x=none)(hv:cO x=some u)(r:Nh v u)(hn:x≠aa "__name__":=by decide)(hd:(x == aa "__debug__")=false:=by decide):QE X (Expr.Name x x5) (tC v):=⟨fun _ _ _ H _ I h=>ZJ I hg hm hv ⟨v,H,I,r,h⟩ hn hd⟩
variable {a b:aj}{ta tb:TE}{r:R2}
def jn{X:Cx}{x5:Pos}{op:Operator}(ho:Qm X (gE op) r)(ha:QE X a ta)(hb:QE X b tb):QE X (aj.BinOp a op b x5) (R4 r ta tb):=⟨by
 intro ad s σ H Q I h;exact wpAny_BinOp (jm2 ha.h hb.h I h fun v u s2 x y H2 I2 rx ry q=>ho ad s2 σ H2 x y v u Q I2 rx ry q)⟩
def jkl{X:Cx}{x5:Pos}(ha:QE X a ta):QE X (Expr.UnaryOp UnaryOp.Not a x5) (jng ta):=⟨by
 intro ad s σ H Q I h;refine UnaryOp_ (Nn (ha.h ad s σ H _ I h) fun v s1 hM=>?_);obtain⟨x,H1,I1,r1,q1⟩:=hM;obtain⟨c,rfl,q1⟩:=q1
 cases r1
 exact not_of (pC ⟨.bl (!c),H1,I1,rfl,q1⟩)⟩
def K7{X:Cx}{x5:Pos}{op:UnaryOp}{r:V->Hp->VK->Prop}(ho:UnR X (unaryOp op) r)(ha:QE X a ta):QE X (Expr.UnaryOp op a x5) (tUn r ta):=⟨by
 intro ad s σ H Q I h;exact UnaryOp_ (Nn (ha.h ad s σ H _ I h) fun v s1 ⟨x,H1,I1,r1,q1⟩=>ho ad s1 σ H1 x v Q I1 r1 q1)⟩
def ki{X:Cx}{x5:Pos}{op:CmpOp}(ho:Qm X (dy op) r)(ha:QE X a ta)(hb:QE X b tb)(hm:tq op b=false):QE X (Expr.Compare a [op] [b] x5) (R4 r ta tb):=⟨by
 intro ad s σ H Q I h;exact wpAny_Compare1 (jm2 ha.h hb.h I h fun v u s2 x y H2 I2 rx ry q=>ho ad s2 σ H2 x y v u Q I2 rx ry q) hm⟩
def qu{X:Cx}{x5:Pos}{op:BoolOp}{t:TE}(h:QE X a t):QE X (Expr.BoolOp op [a] x5) t:=⟨fun ad s σ H Q I hw=>BoolOp_one (h.h ad s σ H Q I hw)⟩
def qR{X:Cx}{x5:Pos}{qm:List aj}(ha:QE X a ta)(hb:QE X (Expr.BoolOp BoolOp.And (b :: qm) x5) tb):QE X (Expr.BoolOp BoolOp.And (a :: b :: qm) x5) (jlO ta tb):=⟨by
 intro ad s σ H Q I h;refine BoolOp_and (Nn (ha.h ad s σ H _ I h) fun v s1 hM=>?_);obtain⟨x,H1,I1,r1,q1⟩:=hM;obtain⟨c,rfl,q1⟩:=q1
 cases r1
 refine pC ?_
 cases c with
 | true=>exact hb.h ad s1 σ H1 Q I1 q1
 | false=>exact⟨.bl false,H1,I1,rfl,q1⟩⟩
def Zo{X:Cx}{x5:Pos}{qm:List aj}(ha:QE X a ta)(hb:QE X (Expr.BoolOp BoolOp.Or (b :: qm) x5) tb):QE X (Expr.BoolOp BoolOp.Or (a :: b :: qm) x5) (jmb ta tb):=⟨by
 intro ad s σ H Q I h;refine BoolOp_or (Nn (ha.h ad s σ H _ I h) fun v s1 hM=>?_);obtain⟨x,H1,I1,r1,q1⟩:=hM;obtain⟨c,rfl,q1⟩:=q1
 cases r1
 refine pC ?_
 cases c with
 | false=>exact hb.h ad s1 σ H1 Q I1 q1
 | true=>exact⟨.bl true,H1,I1,rfl,q1⟩⟩
variable {te:TE}
def kq{X:Cx}{lo hi:Option aj}{tl th:TO}{x5 p2:Pos}{r:V->Option Int->Option Int->Hp->VK->Prop}(hr:SlR X r)(he:QE X e te)(hl:QO X lo tl)(hu:QO X hi th):QE X (Expr.Subscript e (aj.Slice lo hi none p2) x5) (tSl r te tl th):=⟨by
 intro ad s σ H Q I h;refine ET (Nn (he.h ad s σ H _ I h) fun v s1 hM=>?_);obtain⟨x,H1,I1,r1,q1⟩:=hM;refine wpAny_Slice (Nn (hl.h ad s1 σ H1 _ I1 q1) fun vl s2 ⟨l,H2,I2,pl,q2⟩=>Nn (hu.h ad s2 σ H2 _ I2 q2) fun vu s3 hM=>?_);obtain⟨u,H3,I3,pu,q3⟩:=hM;rw[evalPart_none];refine aO ?_;have I4:xJ X ad σ H3 { s3 with heap:=s3.heap.push { cls:=.type "slice",data:=.fields #[vl,vu,.none] } }:=I3.kept (t':=s3.toks) fun b ob q=>bu _ q
 obtain⟨T,id,hT,ht,hg⟩:=hr ad { s3 with heap:=s3.heap.push { cls:=.type "slice",data:=.fields #[vl,vu,.none] } } σ H3 x v vl vu l u s3.heap.objs.size Q I4 r1 (ak.IsSliceOf.new ..) pl pu q3;show am (au X.prog X.w) X.A (EO e (.Slice lo hi none p2) v (.ref s3.heap.objs.size)) (EP X ad σ Q) X.xe { s3 with heap:=s3.heap.push { cls:=.type "slice",data:=.fields #[vl,vu,.none] } };exact tail_any (ops:=[.ref s3.heap.objs.size,v]) ht hT hg (by with_unfolding_all rfl)⟩
def zA{X:Cx}{x5:Pos}{td ty:TE}(hu:Ou X.A+1 < cLine)(ho:QE X o td)(hi:QE X i ty)(hs:jm7 i):QE X (Expr.Subscript o i x5) (jno td ty):=⟨by
 intro ad s σ H Q I h;refine jfK Of.lookup hs (Nn (ho.h ad s σ H _ I h) fun u s1 ⟨x,H1,I1,rx,q1⟩=>Nn (hi.h ad s1 σ H1 _ I1 q1) fun iv s2 hM=>?_);obtain⟨y,H2,I2,ry,a,v,ex,g,q2⟩:=hM;subst ex;obtain rfl:u=Value.ref a:=rx;exact⟨jee I2 g,jhN hu I2 g ry fun w' s3 I3 eJ=>⟨v,H2,I3,eJ,q2⟩⟩⟩
def jl6{X:Cx}{x5:Pos}(hr:Sq X r)(ha:QE X a ta)(hb:QE X b tb)(hs:jgG b):QE X (Expr.Subscript a b x5) (R4 r ta tb):=⟨by
 intro ad s σ H Q I h;exact ET (jm2 ha.h hb.h I h fun v u s2 x y H2 I2 rx ry q=>hr a b ad s2 σ H2 x y v u Q I2 rx ry q (hs _ _))⟩
variable {es:List aj}
def jI{X:Cx}{t:TA}{x5:Pos}(h1:QA X es t):QE X (aj.List es x5) (jky t):=
 ⟨@jiJ _ _ _ _ h1.h⟩
def jG{X:Cx}{t:TA}{x5:Pos}{x1:Nat}(h:QA X es t):QE X (Expr.Tuple es x1 x5) (jn7 t):=⟨by
 intro ad s σ H Q I hq;refine wpAny_Tuple_spliced (Nn (h.h x5 ad s σ H _ I hq) fun us s1 ⟨xs,H1,I1,r,z,q⟩=>⟨by rw[<- r.length];exact z,?_⟩);have hf:H1 s1.heap.objs.size=none:=I1.hok.fresh (aK _);refine⟨.ref s1.heap.objs.size,upd H1 s1.heap.objs.size (.tup xs),I1.laid (t':=s1.toks) (fun b u e=>bu _ e) (aK _) ?_,rfl,q _ hf⟩;exact⟨z,us,r,⟨_,dU _ rfl,rfl,_,rfl⟩⟩⟩
theorem jh3{X:Cx}{x5:Pos}{keys:List (Option aj)}{n_:List aj}{gK:List (TE×TE)}(h:QPs X x5 keys n_ gK)(mV:(List.all keys fun x=>EV x)=true)(hl:fE keys=fE n_)(h0:keys≠[])(wr:fE keys<=15):QE X (aj.Dict keys n_ x5) (jnn gK):=⟨by
 intro ad s σ H Q I q;have hn:=I.hok.fresh (aK s.heap.objs.size);have I1:=I.laid (a:=s.heap.objs.size) (o:=.dK []) (h':=s.heap.push { cls:=.type "dict",data:=.dict #[] }) (t':=s.toks) (fun _ _ q=>bu _ q) (aK _) (jjV s.heap I.big);refine wpAny_Dict_walk (knd:=qB X.prog X.w) mV hl h0 wr (Nn (h.h ad _ σ _ _ I1 (q _ hn)) fun ws s2 hM=>?_);obtain⟨ps,H2,I2,dE,e,ah,ep,lk,q2⟩:=hM;subst ep;obtain⟨rs,c,rk⟩:=jbj (P:=X.prog) (w:=X.w) dE;obtain⟨z,hd,vs0,r0,dd⟩:=jl5 I2.hok e
 cases r0
 refine⟨rs,c,dd,fun h' fW hs=>⟨.ref s.heap.objs.size,_,?_,rfl,q2⟩⟩;have hz:(Kn [] ah).length<=aF:=by have h1:=y7 ah [];rw[cZ]at h1;rw[nv];omega
 have he:∃q,h'.get? s.heap.objs.size=some q:=let ⟨q,_,_,hq,_⟩:=fW;⟨q,hq⟩;exact jdc I2 (by rw[e];exact True.intro) hs he (jjU hz hd (rk.merge .nil) fW)⟩
def jhY{X:Cx}{x5:Pos}:QPs X x5 [] [] []:=⟨fun ad s σ H Q I h=>pairTrees_nil_walk ⟨[],H,I,.nil,h⟩⟩
variable {tv:TE}
def Je{X:Cx}{x5:Pos}{k v:aj}{ks:List (Option aj)}{vs:List aj}{tk:TE}{gK:List (TE×TE)}(hk:QE X k tk)(hv:QE X v tv)(hr:QPs X x5 ks vs gK):QPs X x5 (some k :: ks) (v :: vs) ((tk,tv) :: gK):=⟨fun ad s σ H Q I h=>
 pairTrees_cons_walk (Nn (hk.h ad s σ H _ I h) fun u s1 ⟨x,H1,I1,rx,q1⟩=>Nn (hv.h ad s1 σ H1 _ I1 q1) fun w2 s2 ⟨y,H2,I2,ry,q2⟩=>
  Nn (hr.h ad s2 σ H2 _ I2 q2) fun ws s3 ⟨ps,H3,I3,dE,q3⟩=>⟨(x,y) :: ps,H3,I3,.cons ⟨rx,ry⟩ dE,q3⟩)⟩
variable {tg iter:aj}{wi:TI}{g:TG}
def qT{X:Cx}{nP:ce}{bt:aj}{ifs:List aj}{x5:Pos}{tt:TT}(own:List Str)(fr:List Nat)(h1:X.calm=true)(h2:P3 X nP fr)(h3:QI X.nox tg iter wi)(h4:∀(s:af) (H:Hp) (ex:List ac),QG (blk X.nox nP own fr s H ex) tg g/\QTs (blk X.nox nP own fr s H ex) ifs tt/\QE (blk X.nox nP own fr s H ex) bt te)(h5:∀(x:ae),iT iter X.Ec x=pure x:=by intro _;rfl):QE X.nox (Expr.ListComp bt [{ target:=tg,iter:=iter,ifs:=ifs,is_async:=0 }] nP x5) (ZQ own fr wi g tt te):=
 ⟨@jkT _ _ _ _ _ _ _ _ _ _ _ own fr h1 h2 h3.h (fun s H ex=>⟨(h4 s H ex).1.h,(h4 s H ex).2.1.h,(h4 s H ex).2.2.h⟩) h5⟩
def j3{X:Cx}{f:Str}{x5:Pos}(he:QE X e ta)(hb:lT e f X.Ec (eval e X.Ec)=eval e X.Ec):QE X (Expr.Attribute e f x5) (joa X.K ta f):=⟨by
 intro ad s σ H Q I h;refine jgE hb (Nn (he.h ad s σ H _ I h) fun u s1 hM=>?_);obtain⟨x,H1,I1,rx,a,C,dx,fs,v,ex,ea,c,n,l,q⟩:=hM;subst ex;obtain rfl:u=Value.ref a:=rx;exact jfj I1 ea c n l fun u' s2 I2 ru=>⟨v,H1,I2,ru,q⟩⟩
variable {tA:TT}{c:aj}
def jgK{X:Cx}{x5:Pos}(hc:QT X c tA)(ha:QE X a ta)(hb:QE X b tb):QE X (aj.IfExp c a b x5) (tIf tA ta tb):=⟨by
 intro ad s σ H Q I h;refine wpAny_IfExp (Nn (hc.h ad s σ H _ I h) fun d s1 hM=>?_);obtain⟨H1,I1,q1⟩:=hM
 cases d with
 | true=>exact ha.h ad s1 σ H1 Q I1 q1
 | false=>exact hb.h ad s1 σ H1 Q I1 q1⟩
variable {ps:List Str}{sp:Sp}{p:Pos}
def jeu{X:Cx}{k k':Nat}{C:ac}{t:TA}{x5:Pos}(F:Q0 X.prog X.w X.K X.mg X.base k x C ps sp)(hr:Np k' X.A)(ha:QA X (e :: es) t)(hk:k+1<=k':=by decide)(hg:Gl X x:=by rfl)(hd:(x == aa "__debug__")=false:=by decide)(hp:List.all (e :: es) qD=true:=by rfl):QE X (Expr.Call (Expr.Name x p) (e :: es) [] x5) (jfJ C sp [] E0 t):=⟨by
 obtain⟨f,fd,M,G,b,m⟩:=F.ex;rw[eX,bg]at hp;exact jkS M G (hr.mono hk) hg m b .nil jf7 ha.h hd (qX hp.1 es X.Ec) (yV x5 X.Ec es hp.2)⟩
def jB{X:Cx}{k k':Nat}{t:TA}{x5:Pos}(h1:Fn X.prog X.w X.K X.mg X.base k x ps sp)(h2:Np k' X.A)(h3:QA X (e :: es) t)(h4:k<=k':=by decide)(h5:Gl X x:=by rfl)(h6:(x == aa "__debug__")=false:=by decide)(h7:List.all (e :: es) qD=true:=by rfl):QE X (Expr.Call (Expr.Name x p) (e :: es) [] x5) (zM sp [] E0 t):=
 ⟨@jlU _ _ _ _ _ _ _ _ _ _ _ h1 h2 h3.h h4 h5 h6 h7⟩
variable {id:String}
def j7{X:Cx}{x5:Pos}{t:TA}{r:List V->Hp->VK->Prop}(h1:zO X (Value.builtin id) r)(h2:Gl X x)(h3:X.mg x=none)(h4:cO x=some (Value.builtin id))(h5:QA X (e :: es) t)(h6:List.all (e :: es) qD=true:=by rfl)(h7:x≠aa "__name__":=by decide)(h8:(x == aa "__debug__")=false:=by decide):QE X (Expr.Call (Expr.Name x p) (e :: es) [] x5) (tCB r t):=
 ⟨@jdL _ _ _ _ _ _ _ _ _ h1 h2 h3 h4 h5.h h6 h7 h8⟩
variable {T:String}
def kJ{X:Cx}{x5:Pos}{t:TA}{r:List V->Hp->VK->Prop}(hc:zO X (Value.type T) r)(hg:Gl X x)(hm:X.mg x=none)(hv:cO x=some (Value.type T))(ha:QA X (e :: es) t)(hp:List.all (e :: es) qD=true:=by rfl)(hn:x≠aa "__name__":=by decide)(cV:(x == aa "__debug__")=false:=by decide):QE X (Expr.Call (Expr.Name x p) (e :: es) [] x5) (tCB r t):=⟨by
 rw[eX,bg]at hp;exact jgY hc hg hm hv ha.h hn cV (qX hp.1 es X.Ec) (yV x5 X.Ec es hp.2)⟩
variable {dr bO:Pos}
def jV{X:Cx}{t:TA}{name:Str}{r:V->List V->Hp->VK->Prop}(h1:xV T)(h2:Slot T name id)(h3:sU (Value.builtin id)=pure (Value.type "method_descriptor"))(h4:QZ X id r)(h5:QE X o to)(h6:QA X (e :: es) t)(h7:lT o name X.Ec (eval o X.Ec)=eval o X.Ec:=by rfl)(h8:(((List.all (cG bO (aX (e :: es) X.Ec)) fun x=>!Prod.fst x) && List.all (tu bO (sZ [] X.Ec)) fun x=>EV (Prod.fst x)) && decide ((fE (e :: es)+fE ([]:List xY)+if Pa ([]:List xY)=true then 0 else 1) < 30))=true:=by rfl)(h9:(Eu dr == ik bO)=true:=by rfl)(bp:aX (e :: es) X.Ec=(false,eval e X.Ec) :: aX es X.Ec:=by rfl)(Lq:(List.any (cG bO (aX es X.Ec)) fun x=>Prod.fst x)=false:=by rfl):QE X (Expr.Call (Expr.Attribute o name dr) (e :: es) [] bO) (tBM X.K T r to t):=
 ⟨@jiM _ _ _ _ _ _ _ _ _ _ _ _ h1 h2 h3 h4 h5.h h6.h h7 h8 h9 bp Lq⟩
def Ju{X:Cx}{name:Str}{r:V->List V->Hp->VK->Prop}(pa:xV T)(slot:Slot T name id)(j_:sU (Value.builtin id)=pure (Value.type "method_descriptor"))(hm:QZ X id r)(ho:QE X o to)(eS:lT o name X.Ec (eval o X.Ec)=eval o X.Ec:=by rfl)(oV:(Eu dr == ik bO)=true:=by rfl):QE X (Expr.Call (Expr.Attribute o name dr) [] [] bO) (job X.K T r to):=⟨by
 intro ad s σ H Q I h;refine wpAny_Call_method0_late eS oV (Nn (ho.h ad s σ H _ I h) fun v s1 hM=>?_);obtain⟨x,H1,I1,r1,ty,q1⟩:=hM;obtain⟨h1,h2⟩:=jh8 I1 r1 ty;exact⟨T,id,pa,slot,j_,h1,h2,EJ rfl (PySem.evalArgs_none (hm ad s1 σ H1 x [] v [] Q I1 r1 .nil q1))⟩⟩
def YH{X:Cx}{x5:Pos}(ha:QT X a tA):QT X (Expr.UnaryOp UnaryOp.Not a x5) (jn8 tA):=⟨by
 intro ad s σ H Q I h;exact isTrue_not (ha.h ad s σ H (fun c H1=>Q (!c) H1) I h)⟩
def jx{X:Cx}{x5:Pos}{op:CmpOp}(h1:Qm X (dy op) r)(h2:QE X a ta)(h3:QE X b tb)(h4:tq op b=false):QT X (Expr.Compare a [op] [b] x5) (jlL (R4 r ta tb)):=
 ⟨@jf1 _ _ _ _ _ _ _ _ h1 h2.h h3.h h4⟩
def zx{X:Cx}{x5:Pos}{mi:TT}{qm:List aj}(ha:QT X a tA)(hb:QW X (Expr.BoolOp BoolOp.And (b :: qm) x5) mi):QW X (Expr.BoolOp BoolOp.And (a :: b :: qm) x5) (joc tA mi):=⟨by
 intro wh ad s σ H Q I h;refine isTrue_and (Nn (ha.h ad s σ H _ I h) fun c s1 hM=>?_);obtain⟨H1,I1,q1⟩:=hM
 cases c with
 | true=>exact hb.h wh ad s1 σ H1 Q I1 q1
 | false=>exact⟨H1,I1,q1⟩⟩
def zh{X:Cx}{x5:Pos}(ha:QT X a tA):QW X (Expr.BoolOp BoolOp.And [a] x5) tA:=⟨by
 intro wh ad s σ H Q I h;refine isTrue_and (Nn (ha.h ad s σ H Q I h) fun c s1 e=>?_)
 cases c with
 | true=>exact isTrue_and_nil e
 | false=>exact e⟩
def yS{X:Cx}{x5:Pos}{mi:TT}{qm:List aj}(ha:QT X a tA)(hb:QW X (Expr.BoolOp BoolOp.Or (b :: qm) x5) mi):QW X (Expr.BoolOp BoolOp.Or (a :: b :: qm) x5) (tOr tA mi):=⟨by
 intro wh ad s σ H Q I h;refine isTrue_or (Nn (ha.h ad s σ H _ I h) fun c s1 hM=>?_);obtain⟨H1,I1,q1⟩:=hM
 cases c with
 | true=>exact⟨H1,I1,q1⟩
 | false=>exact hb.h wh ad s1 σ H1 Q I1 q1⟩
def Jt{X:Cx}{x5:Pos}(ha:QT X a tA):QW X (Expr.BoolOp BoolOp.Or [a] x5) tA:=⟨by
 intro wh ad s σ H Q I h;refine isTrue_or (Nn (ha.h ad s σ H Q I h) fun c s1 e=>?_)
 cases c with
 | false=>exact isTrue_or_nil e
 | true=>exact e⟩
def kF{X:Cx}:QO X none jfI:=⟨by
 intro ad s σ H Q I h;rw[evalPart_none];exact aO ⟨none,H,I,.none,h⟩⟩
def kE{X:Cx}(h:QE X e te):QO X (some e) (jlM te):=⟨by
 intro ad s σ H Q I hw;rw[evalPart_some];refine Nn (h.h ad s σ H _ I hw) fun u s1 hM=>?_
 obtain⟨x,H1,I1,r1,q1⟩:=hM;obtain⟨i,rfl,q⟩:=q1;obtain⟨t,rfl⟩:=r1;exact⟨some i,H1,I1,.int i t,q⟩⟩
theorem kP{X:Cx}{ta:TA}{x5:Pos}(hg:Gl X (aa "range"))(hm:X.mg (aa "range")=none)(ha:QA X [a] ta)(hs:aX [a] X.Ec=[(false,eval a X.Ec)]:=by rfl):QI X tg (Expr.Call (Expr.Name (aa "range") p) [a] [] x5) (jnS ta):=⟨by
 intro ad s σ H R I h;refine Call_ (ZJ I hg hm boot_range (ER (Nn (ha.h x5 ad s σ H _ I h) fun us s1 hM=>?_) hs rfl));obtain⟨vs,H1,I1,r1,q1⟩:=hM;obtain⟨j,e,q1,q2,q⟩:=q1;subst e
 cases r1 with
 | cons r rr=>
  cases rr
  obtain⟨t,rfl⟩:=r;exact call_range_1 (jdH I1 N4 N4 q1 q2 (by simpa using q))⟩
def jet{X:Cx}{ta:TA}{x5:Pos}(hg:Gl X (aa "range"))(hm:X.mg (aa "range")=none)(ha:QA X [a,b] ta)(hs:aX [a,b] X.Ec=[(false,eval a X.Ec),(false,eval b X.Ec)]:=by rfl)(oI:aX [b] X.Ec=[(false,eval b X.Ec)]:=by rfl):QI X tg (Expr.Call (Expr.Name (aa "range") p) [a,b] [] x5) (jnR ta):=⟨by
 intro ad s σ H R I h;refine Call_ (ZJ I hg hm boot_range (ER (Nn (ha.h x5 ad s σ H _ I h) fun us s1 hM=>?_) (by rw[hs,oI]) (by rw[oI];rfl)));obtain⟨vs,H1,I1,r1,q1⟩:=hM;obtain⟨i,j,e,⟨q1,q2,q3,q4⟩,q⟩:=q1;subst e
 cases r1 with
 | cons r rr=>
  cases rr with
  | cons r' rr=>
   cases rr
   obtain⟨t,rfl⟩:=r;obtain⟨t',rfl⟩:=r';exact call_range_2 (jdH I1 q1 q2 q3 q4 q)⟩
def YJ{X:Cx}{l:aj}{tl:TE}(hl:QE X l tl):QI X tg l (jnT X.K tl):=⟨by
 intro ad s σ H R I h;refine Nn (hl.h ad s σ H _ I h) fun v s1 hM=>?_
 obtain⟨x,H1,I1,r1,q1⟩:=hM;obtain⟨a,e,⟨xs,hq⟩,q⟩:=q1;subst e
 cases r1
 obtain⟨Nc,rv,p,hz⟩:=I1.list hq;refine xC p.isList ?_;refine⟨s1.heap.objs.size,[s1.heap.objs.size],_,_,H1,rfl,I1.kept (t':=s1.toks) fun b o e=>bu _ e,jgN a _,⟨_,dU _ rfl,rfl,rfl⟩,fun b hb=>?_,q⟩;have e:b=s1.heap.objs.size:=by simpa using hb
 subst e;exact I1.fpOk (aK _) (I1.hok.fresh (aK _))⟩
def KA{X:Cx}{l:aj}{tl:TE}(hl:QE X l tl):QI X tg l (jok X.K tl):=⟨by
 intro ad s σ H R I h;refine Nn (hl.h ad s σ H _ I h) fun v s1 hM=>?_
 obtain⟨x,H1,I1,r1,q1⟩:=hM;obtain⟨a,e,⟨xs,hq⟩,q⟩:=q1;subst e
 cases r1
 obtain⟨Nc,rv,p,hz⟩:=I1.tuple hq;refine wpAny_pyIter_tuple (show s1.heap.IsTuple a Nc.toArray from p) ?_;refine⟨s1.heap.objs.size,[s1.heap.objs.size],_,_,H1,rfl,I1.kept (t':=s1.toks) fun b o e=>bu _ e,jev a _,⟨_,dU _ rfl,rfl,rfl⟩,fun b hb=>?_,q⟩;have e:b=s1.heap.objs.size:=by simpa using hb
 subst e;exact I1.fpOk (aK _) (I1.hok.fresh (aK _))⟩
variable {d_:Pos}
def Z6{X:Cx}{x5:Pos}{i:Nat}(hN:cv X.N)(hi:X.N[i]?=some x)(hx:L2.Loc (gH X.Ec) x)(he:QE X e te)(hs:gC e (some (Expr.Name x d_)) (ik x5) X.Ec=pure false:=by rfl)(hf:X.fn x=true\/eE x (tL (gH X.Ec))=some NameKind.local:=by first | exact .inl rfl | exact .inr rfl | assumption):QS X (Stmt.Assign [Expr.Name x d_] e x5) (R8 te (qz i)):=⟨by
 intro ad s σ H D I h;refine wpAny_Assign_Name (Nn (he.h ad s σ H _ I h) fun v s1 hM=>?_) hs;obtain⟨y,H1,I1,r1,q1⟩:=hM;exact YS I1 hN hi hx r1 (fun s2 I2=>⟨_,H1,I2,q1⟩) hf⟩
def yb{X:Cx}{nP:ce}{bt:aj}{ifs:List aj}{x5:Pos}{tt:TT}{i:Nat}{y:Str}{py iy:Pos}(h1:cv X.N)(h2:X.N[i]?=some y)(h3:L2.Loc (gH X.Ec) y)(own:List Str)(fr:List Nat)(h4:X.calm=true)(h5:P3 X nP fr)(h6:QI X.nox tg iter wi)(h7:∀(s:af) (H:Hp) (ex:List ac),QG (blk X.nox nP own fr s H ex) tg g/\QTs (blk X.nox nP own fr s H ex) ifs tt/\QE (blk X.nox nP own fr s H ex) bt te)(h8:∀(x:ae),iT iter X.Ec x=pure x:=by intro _;rfl)(h9:gC (Expr.ListComp bt [{ target:=tg,iter:=iter,ifs:=ifs,is_async:=0 }] nP x5) (some (Expr.Name y py)) (ik iy) X.Ec=pure true:=by rfl)(bp:X.fn y=true\/eE y (tL (gH X.Ec))=some NameKind.local:=by first | exact .inl rfl | exact .inr rfl | assumption):QS X.nox (Stmt.Assign [Expr.Name y py] (Expr.ListComp bt [{ target:=tg,iter:=iter,ifs:=ifs,is_async:=0 }] nP x5) iy) (R8 (ZQ own fr wi g tt te) (qz i)):=
 ⟨@jeS _ _ _ _ _ _ _ _ _ _ _ _ _ _ _ h1 h2 h3 own fr h4 h5 h6.h (fun s H ex=>⟨(h7 s H ex).1.h,(h7 s H ex).2.1.h,(h7 s H ex).2.2.h⟩) h8 h9 bp⟩
def jhX{X:Cx}{value:aj}{x5:Pos}{td ty:TE}(hu:Ou X.A+1 < cLine)(ho:QE X o td)(hi:QE X i ty)(hv:QE X value tv)(hs:gC value (some (Expr.Subscript o i d_)) (ik x5) X.Ec=pure false):QS X (Stmt.Assign [Expr.Subscript o i d_] value x5) (jnu td ty tv):=⟨by
 intro ad s σ H D I h;refine wpAny_Assign_Subscript (Nn (hv.h ad s σ H _ I h) fun r s1 ⟨v,H1,I1,rv,q1⟩=>Nn (ho.h ad s1 σ H1 _ I1 q1) fun u s2 ⟨x,H2,I2,rx,q2⟩=>Nn (hi.h ad s2 σ H2 _ I2 q2) fun iv s3 hM=>?_) hs;obtain⟨y,H3,I3,ry,a,H4,ex,g,q3⟩:=hM;subst ex;obtain rfl:u=Value.ref a:=rx;exact jhM hu I3 g ry rv fun s4 I4=>⟨σ,H4,I4,q3⟩⟩
def zy{X:Cx}{value:aj}{f:Str}{x5:Pos}(ha:QE X o ta)(hv:QE X value tv)(hs:gC value (some (Expr.Attribute o f d_)) (ik x5) X.Ec=pure false):QS X (Stmt.Assign [Expr.Attribute o f d_] value x5) (jod X.K ta tv f):=⟨by
 intro ad s σ H D I h;refine M7 (Nn (hv.h ad s σ H _ I h) fun u s1 ⟨y,H1,I1,ry,q⟩=>Nn (ha.h ad s1 σ H1 _ I1 q) fun ov s2 hM=>?_) hs;obtain⟨x,H2,I2,rx,a,C,dx,fs,ex,ea,c,n,l,q2⟩:=hM;subst ex;obtain rfl:ov=Value.ref a:=rx;exact jeE I2 ea c n l ry fun s3 I3=>⟨σ,_,I3,q2⟩⟩
def kz{X:Cx}{x5:Pos}(he:QE X e te)(hg:QG X tg g)(hs:swapsWithSole [tg] e (ik x5) X.Ec=pure false:=by rfl)(hw:swappedStores [tg] e X.Ec=pure none:=by rfl)(h1:Fc (fun x=>Prod.snd x) (pF [tg] X.Ec)=[assign tg X.Ec]:=by rfl):QS X (Stmt.Assign [tg] e x5) (R8 te g):=⟨by
 intro ad s σ H D I h;refine wpAny_Assign_stores (Nn (he.h ad s σ H _ I h) fun v s1 hM=>?_) hs hw;obtain⟨x,H1,I1,r1,q1⟩:=hM;rw[h1];exact Nn (hg.h ad s1 σ H1 x v _ I1 r1 q1) fun _ s2 q=>q⟩
def jy{X:Cx}{x5:Pos}(h1:QE X e te):QS X (ay.Return (some e) x5) (jkw te):=
 ⟨@jcL _ _ _ _ h1.h⟩
def jR{X:Cx}{t u:TS}{x5:Pos}{a b:List ay}{tc:TT}(h1:QT X c tc)(h2:Rv X a t)(h3:Rv X b u):QS X (ay.If c a b x5) (yL tc t u):=
 ⟨@jlS _ _ _ _ _ _ _ _ h1.h h2.h h3.h⟩
def yn{X:Cx}{body:List ay}{tb:TS}{x5:Pos}(hp:xW (au X.prog X.w) X.A X.Ec X.xe)(hc:X.calm=true)(hi:QI X tg iter wi)(hg:QG X tg g)(hb:Rv X body tb)(hs:∀(x:ae),iT iter X.Ec x=pure x:=by intro _;rfl):QS X (ay.For tg iter body [] x5) (jn9 wi g tb):=⟨by
 have hb:=hb.h;have hg:=hg.h;have hi:=hi.h;intro ad s σ H D I h;refine wpAny_For (Nn (hi ad s σ H _ I h) fun v s1 h1=>Nn h1 fun uV s2 h2=>?_) hs;obtain⟨it,fp,tn,J,H2,e,I2,T,ml,f2,W,⟨m0,w0⟩,i6⟩:=h2;subst e;have i7:∀{H':Hp},(∀b∈fp,H' b=none)->∀b∈fp,Z5 X ad H' b:=fun hn b hb=>⟨hn b hb,(f2 b hb).2⟩
 refine codeAny_forLoop_any (fun n s'=>∃i σ' H',xJ X ad σ' H' s'/\tn i s'.heap/\(∀b∈fp,H' b=none)/\W i n σ' H') ?_ m0 ⟨0,σ,H2,I2,ml,fun b hb=>(f2 b hb).1,w0⟩;rintro n s3 ⟨i,σ3,H3,I3,gL,CA,w3⟩;rcases i6 i n σ3 H3 w3 with⟨stop,qn⟩ | ⟨go,N,hN,step⟩
 .refine nk hp (Nn (T.done X rfl rfl rfl hc i ad s3 σ3 H3 X.xe I3 (i7 CA) gL stop) fun r s4 ⟨hr,I4⟩=>?_)
  subst hr;exact pD ⟨σ3,H3,I4,qn⟩
 .refine nk hp (Nn (T.item X rfl rfl rfl hc i ad s3 σ3 H3 X.xe I3 (i7 CA) gL go) fun r s4 ⟨u,hr,h4⟩=>?_)
  subst hr;refine nk hp (Nn h4 fun _ s5 hM=>?_);obtain⟨x,H5,I5,r5,y5,uD,Lw⟩:=hM;have Mz:=I5.pinned (i7 Lw) (T.obj _ _ uD);refine nk hp (Nn (hg _ s5 σ3 H5 x u _ Mz r5 (step x H5 y5)) fun _ s6 hM=>?_);obtain⟨σ6,H6,I6,q6⟩:=hM;refine nk hp (Nn (hb _ s6 σ6 H6 _ I6 q6) fun f s7 q7=>?_);have again:∀{σ7:St} {H7:Hp},xJ X (ad++ZC fp s5.heap) σ7 H7 s7->N σ7 H7->∃m,m < n/\∃i σ' H',xJ X ad σ' H' s7/\tn i s7.heap/\(∀b∈fp,H' b=none)/\W i m σ' H':=fun {σ7 H7} I7 n7=>by obtain⟨m',hm,w7⟩:=hN σ7 H7 n7;refine⟨m',hm,i+1,σ7,H7,I7.unpinned,T.keep _ _ _ uD fun b hb o e=>(I7.pin (b,o) (bV _ (bV _ (JD hb e)))).1,fun b hb=>?_,w7⟩;obtain⟨o,e,d⟩:=T.obj _ _ uD b hb;exact (I7.pin (b,o) (bV _ (bV _ (JD hb e)))).2.1
  cases f with
  | next=>obtain⟨σ7,H7,I7,n7⟩:=q7;exact again I7 n7
  | cont=>obtain⟨σ7,H7,I7,n7⟩:=q7;exact again I7 n7
  | brk=>obtain⟨σ7,H7,I7,q7⟩:=q7;exact⟨σ7,H7,I7.unpinned,q7⟩
  | ret v=>obtain⟨x7,σ7,H7,I7,r7,q7⟩:=q7;exact⟨x7,σ7,H7,I7.unpinned,r7,q7⟩⟩
def jbA{X:Cx}{x5:Pos}{body:List ay}{tc:TT}{tb:TS}(hp:xW (au X.prog X.w) X.A X.Ec X.xe)(hc:QT X c tc)(hb:Rv X body tb):QS X (ay.While c body [] x5) (jcr tc tb):=⟨by
 intro ad s σ H D I h;obtain⟨W,⟨m0,w0⟩,i6⟩:=h;refine wpAny_While (codeAny_whileLoop (fun n s'=>∃σ' H',xJ X ad σ' H' s'/\W n σ' H') ?_ m0 ⟨σ,H,I,w0⟩);rintro n s1 ⟨σ1,H1,I1,w1⟩;refine nk hp (Nn (hc.h ad s1 σ1 H1 _ I1 (i6 n σ1 H1 w1)) fun b s2 hM=>?_);obtain⟨H2,I2,q2⟩:=hM
 cases b with
 | true=>
  obtain⟨N,hN,q2⟩:=q2;rw[PP rfl];refine nk hp (Nn (hb.h ad s2 σ1 H2 _ I2 q2) fun f s3 q3=>?_)
  cases f with
  | next=>
   obtain⟨σ3,H3,I3,n3⟩:=q3;obtain⟨m',hm,w3⟩:=hN σ3 H3 n3;exact⟨m',hm,σ3,H3,I3,w3⟩
  | cont=>
   obtain⟨σ3,H3,I3,n3⟩:=q3;obtain⟨m',hm,w3⟩:=hN σ3 H3 n3;exact⟨m',hm,σ3,H3,I3,w3⟩
  | brk=>exact q3
  | ret v=>exact q3
 | false=>
  rw[PN aU];exact pD ⟨σ1,H2,I2,q2⟩⟩
def jP{X:Cx}{x5:Pos}(he:QE X e te)(hs:gC e none (ik x5) X.Ec=pure false:=by rfl):QS X (ay.Expr e x5) (SJ te):=⟨by
 intro ad s σ H D I h;exact wpAny_Expr_any (Nn (he.h ad s σ H _ I h) fun v s1 ⟨x,H1,I1,r1,q1⟩=>⟨σ,H1,I1,q1⟩) I.quiet hs⟩
def kU{X:Cx}{x5:Pos}{i:Nat}(hN:cv X.N)(hi:X.N[i]?=some x)(hx:L2.Loc (gH X.Ec) x)(hf:X.fn x=true\/eE x (tL (gH X.Ec))=some NameKind.local:=by first | exact .inl rfl | exact .inr rfl | assumption):QG X (Expr.Name x x5) (qz i):=⟨by
 intro ad s σ H v u Q I r h;exact DR (YS I hN hi hx r (fun s' I'=>⟨_,H,I',h⟩) hf)⟩
def kB{X:Cx}{x5:Pos}{k:Nat}{t:RX}{n:Nat}(hc:X.calm=true)(h:QGs X es t)(hn:fE (pF es X.Ec)=n:=by rfl)(bZ:List.findIdx? (fun x=>Prod.fst x) (pF es X.Ec)=none:=by rfl):QG X (Expr.Tuple es k x5) (jon X.K n t):=⟨by
 intro ad s σ H v u Q I r hw;obtain⟨a,xs,e1,hq,hl,hw⟩:=hw;subst e1
 cases r
 obtain⟨Nc,rv,ht,hz⟩:=I.tuple hq;refine assign_Tuple_tuple (I.ok.hd hc) ht (by simp[hn,<- hl,rv.length]) bZ fun h' hx=>?_
 have I1:xJ X ad σ H { s with heap:=h' }:=I.kept (t':=s.toks) fun b o e=>hx b o (bU (aY e)) e
 exact h.h ad _ σ H xs _ Q I1 (by simpa using rv) hw⟩
def kj{X:Cx}:QGs X [] jop:=⟨by
 intro ad s σ H vs us Q I r h;obtain⟨e,h⟩:=h;subst e
 cases r
 exact assignInOrder_nil ⟨σ,H,I,h⟩⟩
def jv{X:Cx}{t:TG}{u:RX}(h1:QG X e t)(h2:QGs X es u)(hs:Fc (fun x=>Prod.snd x) (pF (e :: es) X.Ec)=assign e X.Ec :: Fc (fun x=>Prod.snd x) (pF es X.Ec):=by rfl):QGs X (e :: es) (jn0 t u):=⟨by
 intro ad s σ H vs us Q I r h;obtain⟨v,vr,e1,h⟩:=h;subst e1
 cases r with
 | cons r rr=>
  rw[hs];refine assignInOrder_cons (Nn (h1.h ad s σ H _ _ _ I r h) fun _ s1 hM=>?_);obtain⟨σ1,H1,I1,q1⟩:=hM;exact h2.h ad s1 σ1 H1 _ _ Q I1 rr q1⟩
def jH{X:Cx}:Rv X [] jdq:=
 ⟨@jf2 _⟩
variable {st:ay}
def jg{X:Cx}{t:TS}(h1:QS X st t):Rv X [st] t:=
 ⟨@jae _ _ _ h1.h⟩
def ja{X:Cx}{qm:List ay}{t u:TS}(h1:QS X st t)(h2:Rv X qm u):Rv X (st :: qm) (jC t u):=
 ⟨@jdI _ _ _ _ _ h1.h h2.h⟩
def qt{X:Cx}:QTs X [] K9:=⟨fun _ _ _ H _ I h=>wpAny_tests_nil ⟨H,I,h⟩⟩
def YG{X:Cx}{t:TT}(h:QT X c t):QTs X [c] t:=⟨fun ad s σ H Q I q=>wpAny_tests_one (h.h ad s σ H Q I q)⟩
def qf{X:Cx}:QA X [] RI:=
 ⟨@Yu _⟩
def jr{X:Cx}{t:TA}(h1:QE X e te)(h2:QA X es t)(h3:qD e=true:=by rfl):QA X (e :: es) (yM te t):=
 ⟨@RA _ _ _ _ _ h1.h h2.h h3⟩
def jcl{X:Cx}{K:ao}{t:TA}{name:Str}{r:V->List V->Hp->VK->Prop}(pa:xV T)(slot:Slot T name id)(j_:sU (Value.builtin id)=pure (Value.type "method_descriptor"))(hm:QZ X id r)(ho:QE X o to)(ha:QA X (e :: es) t)(eS:lT o name X.Ec (eval o X.Ec)=eval o X.Ec:=by rfl)(vS:(((List.all (cG bO (aX (e :: es) X.Ec)) fun x=>!Prod.fst x) && List.all (tu bO (sZ [] X.Ec)) fun x=>EV (Prod.fst x)) && decide ((fE (e :: es)+fE ([]:List xY)+if Pa ([]:List xY)=true then 0 else 1) < 30))=true:=by rfl)(oV:(Eu dr == ik bO)=true:=by rfl)(hs:aX (e :: es) X.Ec=(false,eval e X.Ec) :: aX es X.Ec:=by rfl)(mG:(List.any (cG bO (aX es X.Ec)) fun x=>Prod.fst x)=false:=by rfl)(hK:X.K=K:=by rfl):QE X (Expr.Call (Expr.Attribute o name dr) (e :: es) [] bO) (tBM K T r to t):=⟨by
 subst hK;exact jiM pa slot j_ hm ho.h ha.h eS vS oV hs mG⟩
def zz{X:Cx}{v:V}{u:ae}{x5:Pos}(hg:Gl X x)(hm:X.mg x=some u)(r:Nh v u)(hd:(x == aa "__debug__")=false:=by decide):QE X (Expr.Name x x5) (tC v):=⟨fun _ _ _ H _ I h=>yt I hg hm ⟨v,H,I,r,h⟩ hd⟩
def jhW{X:Cx}{t:TS}(h:QS X st t):QS X st (jnj t):=⟨by
 intro ad s σ H D I q;obtain⟨J,q,k⟩:=q;refine Nn (h.h ad s σ H _ I q) fun f s1 q1=>?_
 cases f with
 | next=>
  obtain⟨σ',H',I',e⟩:=q1;exact⟨σ',H',I',k _ _ e⟩
 | cont=>exact q1
 | brk=>exact q1
 | ret v=>exact q1⟩
def Fun.okZ{P:aC}{w:ax}{K:ao}{mg:Str->Option ae}{base:ak}{a_:Str}{f:ac}{fd:aE}{N:List Str}{k:Nat}(F:Fun K x a_ st f fd)(S:tS N ps (jo st))(lA:∀(aB:ae) (A:aN) (iw:List Env) (s:af) (H:Hp) (vs:List V) (Q:VK) (E:XK),Np k (A.deeper (envOfC a_ (jo st) s.heap.objs.size f aB))->sp vs H Q E->
   ∃t,Rv (qF PU P w K mg base N a_ (jo st) f aB A iw s H E).nox (zK st) t/\t { nx:=fun _ H'=>Q .non H',rt:=Q } (yy N vs) H)(len:∀vs H Q E,sp vs H Q E->vs.length=ps.length:=by intro _ _ _ _ h;first|(cases h;subst_vars;rfl)|repeat first|(obtain⟨rfl,_⟩:=h;rfl)|(obtain⟨_,h⟩:=h)):MT P w K mg base PU (k+1) f fd ps sp:=
 F.ok S len fun aB A iw s H vs Q E hr h=>let ⟨t,a,b⟩:=lA aB A iw s H vs Q E hr h;⟨t,a.h,b⟩
def jh{X:Cx}{x5:Pos}(i:Nat)(h1:cv X.N)(h4:QE X e te)(h2:X.N[i]?=some x:=by rfl)(h3:L2.Loc (gH X.Ec) x:=by first | exact Or.inl rfl | exact Or.inr rfl)(h5:gC e (some (Expr.Name x d_)) (ik x5) X.Ec=pure false:=by rfl)(h6:X.fn x=true\/eE x (tL (gH X.Ec))=some NameKind.local:=by first | exact .inl rfl | exact .inr rfl | assumption):QS X (Stmt.Assign [Expr.Name x d_] e x5) (R8 te (qz i)):=Z6 h1 h2 h3 h4 h5 h6
def jt{X:Cx}{x5:Pos}(i:Nat)(h1:cv X.N)(h2:X.N[i]?=some x:=by rfl)(h3:L2.Loc (gH X.Ec) x:=by first | exact Or.inl rfl | exact Or.inr rfl)(h4:X.fn x=true\/eE x (tL (gH X.Ec))=some NameKind.local:=by first | exact .inl rfl | exact .inr rfl | assumption):QG X (Expr.Name x x5) (qz i):=kU h1 h2 h3 h4
def js{X:Cx}{x5:Pos}(h1:Sq X r)(h2:QE X a ta)(h3:QE X b tb)(h4:jgG b:=by exact fun _ _=>rfl):QE X (Expr.Subscript a b x5) (R4 r ta tb):=jl6 h1 h2 h3 h4
def jp{X:Cx}(h1:QE X e te)(h3:qD e=true:=by rfl):QA X [e] (yM te RI):=jr h1 qf h3
def jj{X:Cx}{f:aj}{tf:TE}(h1:QE X e te)(h2:QE X f tf)(h3:qD e=true:=by rfl)(h4:qD f=true:=by rfl):QA X [e,f] (yM te (yM tf RI)):=jr h1 (jp h2 h4) h3
open PySem PySem.Spec PyProof.Rows PySem.W
def Ru(prog:aC)(w:ax)(h:ak)(a:ac)(led:Bool)(σ:List Str):Prop:=∃(es:Array (Int×ae)) (ep:Nat) (t:iV),
 h.get? a=some { cls:=.type "set",dict:=none,data:=.set es ep t }/\ElemsOf (PySem.strKind prog w) es.toList/\(∃l:List Str,StrsAre (es.toList.map (·.2)) l/\l.Perm σ)/\es.size < scanBound/\t.fits es.size=true/\TabOk led t
end L2
namespace PySem
end PySem
namespace L2
open PySem PySem.Spec PySem.Calls PyProof.Rows PySem.W
end L2
namespace PySem.F
end PySem.F
namespace L2
open PySem PySem.Spec PyProof.Rows PySem.W
section
variable {prog:aC}{w:ax}{A:aN}{E:ae->af->Prop}{s:af}
def Ru.type{h:ak}{a:ac}{led:Bool}{σ:List Str}(x:Ru prog w h a led σ):∃es ep t,h.get? a=some (jmj es ep t)/\t.fits es.size=true:=by obtain⟨es,ep,t,e,_,_,_,hf,_⟩:=x;exact⟨es,ep,t,e,hf⟩
end
end L2
namespace LW
open PySem L2
def jU{n:Nat}(h:n<=1000):n<=aF:=cP (kA h)
def sm{n:Nat}(h:n.ble 1000=true):n<=aF:=jU (Nat.le_of_ble_eq_true h)
inductive Tm where
 | is (x:Str) | at_ (r x:Str) (d:Int)
inductive Bd where
 | is (x:Str) | row (r:Str)
inductive Cl where
 | least (a b:Tm) (c:Int) | each (t:Str) (td:Int) (u:Str) (ud:Int) (r aT:Str) (b:Bd) (c:Int) | rise (t:Str) (td:Int) (u:Str) (ud:Int) (r:Str)
inductive Sm where
 | set (x:Str) (t:Tm) (c:Int) | put (r x:Str) (d:Int) (t:Tm) (c:Int) | any (x:Str) | claim (C:Cl) | call (x f:Str) (as rs:List Str)
def Q4(x:Str)(d:Int):D:=.tup [.str x,.int d]
def Tm.toD:Tm->D
 | .is x=>.tup [.str "is",.str x]
 | .at_ r x d=>.tup [.str "at",.str r,Q4 x d]
def Bd.toD:Bd->D
 | .is x=>.tup [.str "is",.str x]
 | .row r=>.tup [.str "row",.str r]
def Cl.toD:Cl->D
 | .least a b c=>.tup [.str "least",a.toD,b.toD,.int c]
 | .each t td u ud r aT b c=>.tup [.str "each",Q4 t td,Q4 u ud,.str r,.str aT,b.toD,.int c]
 | .rise t td u ud r=>.tup [.str "rise",Q4 t td,Q4 u ud,.str r]
def Sm.toD:Sm->D
 | .set x t c=>.tup [.str "set",.str x,t.toD,.int c]
 | .put r x d t c=>.tup [.str "put",.str r,Q4 x d,t.toD,.int c]
 | .any x=>.tup [.str "any",.str x]
 | .claim C=>.tup [.str "claim",C.toD]
 | .call x f as rs=>.tup [.str "call",.str x,.str f,.tup (as.map D.str),.tup (rs.map D.str)]
def Tm.ns:Tm->List Str
 | .is x=>[x]
 | .at_ _ x _=>[x]
def Cl.ns:Cl->List Str
 | .least a b _=>a.ns++b.ns
 | .each t _ u _ _ _ b _=>[t,u]++(match b with | .is x=>[x] | .row _=>[])
 | .rise t _ u _ _=>[t,u]
def Sm.ns:Sm->List Str
 | .set x t _=>[x]++t.ns
 | .put _ x _ t _=>[x]++t.ns
 | .any x=>[x]
 | .claim C=>C.ns
 | .call x _ as _=>[x]++as
def Sm.few:Sm->Prop
 | .call _ _ as rs=>as.length<=6/\rs.length<=6
 | _=>True
variable {H:Hp}{v:V}
def qP{x:Int}(h:Na H (.int x) v):v=.int x:=by unfold Na at h;exact h
def jJ{ds:List D}(h:Na H (.tup ds) v):∃a xs,v=.ref a/\H a=some (.tup xs)/\MN H ds xs:=by unfold Na at h;exact h
def jX{vs:List V}(h:MN H [] vs):vs=[]:=by unfold MN at h;exact h
def ji{d:D}{ds:List D}{vs:List V}(h:MN H (d :: ds) vs):∃v r,vs=v :: r/\Na H d v/\MN H ds r:=by unfold MN at h;exact h
variable {x:Str}
def jT(h:Na H (.str x) v):v=.str x:=by unfold Na at h;exact h
variable {d:Int}
def Ys(h:Na H (Q4 x d) v):∃a,v=.ref a/\H a=some (.tup [.str x,.int d]):=by
 obtain⟨a,xs,rfl,ha,h1⟩:=jJ h;obtain⟨v1,r1,rfl,e1,h2⟩:=ji h1;obtain⟨v2,r2,rfl,e2,h3⟩:=ji h2
 cases jX h3
 cases jT e1
 cases qP e2
 exact⟨a,rfl,ha⟩
variable {y:Str}
def JT(h:Na H (.tup [.str x,.str y]) v):∃a,v=.ref a/\H a=some (.tup [.str x,.str y]):=by
 obtain⟨a,xs,rfl,ha,h1⟩:=jJ h;obtain⟨v1,r1,rfl,e1,h2⟩:=ji h1;obtain⟨v2,r2,rfl,e2,h3⟩:=ji h2
 cases jX h3
 cases jT e1
 cases jT e2
 exact⟨a,rfl,ha⟩
variable {r:Str}
def jkb(h:Na H (Tm.at_ r x d).toD v):∃a b,v=.ref a/\H a=some (.tup [.str "at",.str r,.ref b])/\H b=some (.tup [.str x,.int d]):=by
 obtain⟨a,xs,rfl,ha,h1⟩:=jJ h;obtain⟨v1,r1,rfl,e1,h2⟩:=ji h1;obtain⟨v2,r2,rfl,e2,h3⟩:=ji h2;obtain⟨v3,r3,rfl,e3,h4⟩:=ji h3
 cases jX h4
 cases jT e1
 cases jT e2
 obtain⟨b,rfl,hb⟩:=Ys e3;exact⟨a,b,rfl,ha,hb⟩
variable {a b:Tm}{c:Int}
def jhs(h:Na H (Cl.least a b c).toD v):∃t va vb,v=.ref t/\H t=some (.tup [.str "least",va,vb,.int c])/\Na H a.toD va/\Na H b.toD vb:=by
 obtain⟨t,xs,rfl,ht,h1⟩:=jJ h;obtain⟨v1,r1,rfl,e1,h2⟩:=ji h1;obtain⟨v2,r2,rfl,e2,h3⟩:=ji h2;obtain⟨v3,r3,rfl,e3,h4⟩:=ji h3;obtain⟨v4,r4,rfl,e4,h5⟩:=ji h4
 cases jX h5
 cases jT e1
 cases qP e4
 exact⟨t,v2,v3,rfl,ht,e2,e3⟩
def jix{e:Int}(h:Na H (Cl.rise x d y e r).toD v):∃t a b,v=.ref t/\H t=some (.tup [.str "rise",.ref a,.ref b,.str r])/\H a=some (.tup [.str x,.int d])/\H b=some (.tup [.str y,.int e]):=by
 obtain⟨t,xs,rfl,ht,h1⟩:=jJ h;obtain⟨v1,r1,rfl,e1,h2⟩:=ji h1;obtain⟨v2,r2,rfl,e2,h3⟩:=ji h2;obtain⟨v3,r3,rfl,e3,h4⟩:=ji h3;obtain⟨v4,r4,rfl,e4,h5⟩:=ji h4
 cases jX h5
 cases jT e1
 cases jT e4
 obtain⟨a,rfl,ha⟩:=Ys e2;obtain⟨b,rfl,hb⟩:=Ys e3;exact⟨t,a,b,rfl,ht,ha,hb⟩
def jjR{aT:Str}{e:Int}{bd:Bd}(h:Na H (Cl.each x d y e r aT bd c).toD v):∃t a b vb,v=.ref t/\H t=some (.tup [.str "each",.ref a,.ref b,.str r,.str aT,.ref vb,.int c])/\H a=some (.tup [.str x,.int d])/\H b=some (.tup [.str y,.int e])/\H vb=some (.tup (match bd with | .is z=>[.str "is",.str z] | .row z=>[.str "row",.str z])):=by
 obtain⟨t,xs,rfl,ht,h1⟩:=jJ h;obtain⟨v1,r1,rfl,e1,h2⟩:=ji h1;obtain⟨v2,r2,rfl,e2,h3⟩:=ji h2;obtain⟨v3,r3,rfl,e3,h4⟩:=ji h3;obtain⟨v4,r4,rfl,e4,h5⟩:=ji h4;obtain⟨v5,r5,rfl,e5,h6⟩:=ji h5;obtain⟨v6,r6,rfl,e6,h7⟩:=ji h6;obtain⟨v7,r7,rfl,e7,h8⟩:=ji h7
 cases jX h8
 cases jT e1
 cases jT e4
 cases jT e5
 cases qP e7
 obtain⟨a,rfl,ha⟩:=Ys e2;obtain⟨b,rfl,hb⟩:=Ys e3
 cases bd with
 | is z=>
  obtain⟨vb,rfl,u0⟩:=JT e6;exact⟨t,a,b,vb,rfl,ht,ha,hb,u0⟩
 | row z=>
  obtain⟨vb,rfl,u0⟩:=JT e6;exact⟨t,a,b,vb,rfl,ht,ha,hb,u0⟩
inductive Fo(α:Type) where
 | leaf (S:Sm) | ite (a b:Tm) (c:Int) (x y:List α) | whl (a b:Tm) (c:Int) (ks:List Cl) (x:List α)
def Qi:Nat->Type
 | 0=>Empty
 | n+1=>Fo (Qi n)
inductive Nd where
 | leaf (S:Sm) | ite (a b:Tm) (c:Int) (x y:List D) | whl (a b:Tm) (c:Int) (ks:List Cl) (x:List D)
def Nd.toD:Nd->D
 | .leaf S=>S.toD
 | .ite a b c x y=>.tup [.str "if",(Cl.least a b c).toD,.tup x,.tup y]
 | .whl a b c ks x=>.tup [.str "while",(Cl.least a b c).toD,.tup (ks.map Cl.toD),.tup x]
def Nd.ns:Nd->List Str
 | .leaf S=>S.ns
 | .ite a b c _ _=>(Cl.least a b c).ns
 | .whl a b c ks _=>(Cl.least a b c :: ks).flatMap Cl.ns
def Nd.few:Nd->Prop
 | .leaf S=>S.few
 | .whl _ _ _ ks _=>ks.length<=20
 | _=>True
def Fo.nd{α:Type}(f:α->D):Fo α->Nd
 | .leaf S=>.leaf S
 | .ite a b c x y=>.ite a b c (x.map f) (y.map f)
 | .whl a b c ks x=>.whl a b c ks (x.map f)
def Re:(n:Nat)->Qi n->D
 | 0=>fun e=>nomatch (show Empty from e)
 | n+1=>fun s=>(Fo.nd (Re n) s).toD
def jnq{l:List (Qi 0)}:l=[]:=by
 cases l with
 | nil=>rfl
 | cons e _=>exact nomatch (show Empty from e)
def jlq{x y:List D}(h:Na H (Nd.ite a b c x y).toD v):∃t u p q xs ys,v=.ref t/\H t=some (.tup [.str "if",u,.ref p,.ref q])/\Na H (Cl.least a b c).toD u/\H p=some (.tup xs)/\MN H x xs/\H q=some (.tup ys)/\MN H y ys:=by
 obtain⟨t,us,rfl,ht,h1⟩:=jJ h;obtain⟨v1,r1,rfl,e1,h2⟩:=ji h1;obtain⟨v2,r2,rfl,e2,h3⟩:=ji h2;obtain⟨v3,r3,rfl,e3,h4⟩:=ji h3;obtain⟨v4,r4,rfl,e4,h5⟩:=ji h4
 cases jX h5
 cases jT e1
 obtain⟨p,xs,rfl,hp,hx⟩:=jJ e3;obtain⟨q,ys,rfl,hq,hy⟩:=jJ e4;exact⟨t,v2,p,q,xs,ys,rfl,ht,e2,hp,hx,hq,hy⟩
def jkq{ks:List Cl}{x:List D}(h:Na H (Nd.whl a b c ks x).toD v):∃t u p q xs ys,v=.ref t/\H t=some (.tup [.str "while",u,.ref p,.ref q])/\Na H (Cl.least a b c).toD u/\H p=some (.tup xs)/\MN H (ks.map Cl.toD) xs/\H q=some (.tup ys)/\MN H x ys:=by
 obtain⟨t,us,rfl,ht,h1⟩:=jJ h;obtain⟨v1,r1,rfl,e1,h2⟩:=ji h1;obtain⟨v2,r2,rfl,e2,h3⟩:=ji h2;obtain⟨v3,r3,rfl,e3,h4⟩:=ji h3;obtain⟨v4,r4,rfl,e4,h5⟩:=ji h4
 cases jX h5
 cases jT e1
 obtain⟨p,xs,rfl,hp,hx⟩:=jJ e3;obtain⟨q,ys,rfl,hq,hy⟩:=jJ e4;exact⟨t,v2,p,q,xs,ys,rfl,ht,e2,hp,hx,hq,hy⟩
def Nd.cls:Nd->List Cl
 | .leaf (.claim C)=>[C]
 | .leaf _=>[]
 | .ite a b c _ _=>[.least a b c]
 | .whl a b c ks _=>.least a b c :: ks
end LW
namespace L2
open PySem PySem.Spec PyProof.Rows PySem.W PySem.Builtin PySem.Builtin.Str
variable {a b:Str}
section
variable {X:Cx}
def rIs(f:Str->Bool):V->List V->Hp->VK->Prop:=fun x xs H Q=>∃z,x=.str z/\xs=[]/\Q (.bl (f z)) H
def jnA(f:Str->Str->Bool):V->List V->Hp->VK->Prop:=fun x xs H Q=>∃z y,x=.str z/\xs=[.str y]/\Q (.bl (f z y)) H
def jaX:QZ X "str.isascii" (rIs fu):=by
 intro ad s σ H x xs v us Q I rx rs h;obtain⟨z,rfl,rfl,q⟩:=h;obtain⟨t,rfl⟩:=rx
 cases rs
 exact SC.isascii ⟨.bl _,H,I,rfl,q⟩
def je5:QZ X "str.isalpha" (rIs nH):=by
 intro ad s σ H x xs v us Q I rx rs h;obtain⟨z,rfl,rfl,q⟩:=h;obtain⟨t,rfl⟩:=rx
 cases rs
 exact SC.isalpha ⟨.bl _,H,I,rfl,q⟩
def je3:QZ X "str.islower" (rIs nG):=by
 intro ad s σ H x xs v us Q I rx rs h;obtain⟨z,rfl,rfl,q⟩:=h;obtain⟨t,rfl⟩:=rx
 cases rs
 exact SC.islower ⟨.bl _,H,I,rfl,q⟩
def je4:QZ X "str.isdigit" (rIs xT):=by
 intro ad s σ H x xs v us Q I rx rs h;obtain⟨z,rfl,rfl,q⟩:=h;obtain⟨t,rfl⟩:=rx
 cases rs
 exact SC.isdigit ⟨.bl _,H,I,rfl,q⟩
def y0:QZ X "str.startswith" (jnA Er):=by intro ad s σ H x xs v us Q I rx rs h;obtain⟨z,y,rfl,rfl,q⟩:=h;obtain⟨t,rfl⟩:=rx;obtain⟨u,rfl,t',rfl⟩:=zB rs;exact SC.startswith ⟨.bl _,H,I,rfl,q⟩
def ZS:QZ X "str.endswith" (jnA Es):=by intro ad s σ H x xs v us Q I rx rs h;obtain⟨z,y,rfl,rfl,q⟩:=h;obtain⟨t,rfl⟩:=rx;obtain⟨u,rfl,t',rfl⟩:=zB rs;exact SC.endswith ⟨.bl _,H,I,rfl,q⟩
def yw:QZ X "str.strip" (fun x xs H Q=>∃z y,x=.str z/\xs=[.str y]/\z.length<=aF/\Q (.str (Ep z y)) H):=by intro ad s σ H x xs v us Q I rx rs h;obtain⟨z,y,rfl,rfl,hz,q⟩:=h;obtain⟨t,rfl⟩:=rx;obtain⟨u,rfl,t',rfl⟩:=zB rs;exact SC.stripChars (fun t2 k=>⟨.str _,H,I.kept (t':=k) fun b o e=>e,⟨t2,rfl⟩,q⟩) hz
def YN{ad:List (ac×Obj)}{σ:St}{H:Hp}{s:af}{c:Str}{ta tb tc:Tok}{k:Nat}(I:xJ X ad σ H s):xJ X ad σ (upd H s.heap.objs.size (.tup [.str a,.str b,.str c])) { s with heap:=s.heap.push { cls:=.type "tuple",data:=.seq [Value.str a ta,.str b tb,.str c tc].toArray },toks:=k }:=
 I.laid (fun _ _ q=>bu _ q) (aK _) ⟨cP (kA (show 3<=1000 from N5)),_,.cons ⟨_,rfl⟩ (.cons ⟨_,rfl⟩ (.cons ⟨_,rfl⟩ .nil)),⟨_,dU _ rfl,rfl,_,rfl⟩⟩
def jlR(f:Str->Str->Str×Str×Str):V->List V->Hp->VK->Prop:=fun x xs H Q=>∃z y,x=.str z/\xs=[.str y]/\(y.length == 0)=false/\z.length<=aF/\∀p,H p=none->Q (.ref p) (upd H p (.tup [.str (f z y).1,.str (f z y).2.1,.str (f z y).2.2]))
def qN:QZ X "str.partition" (jlR tH):=by
 intro ad s σ H x xs v us Q I rx rs h;obtain⟨z,y,rfl,rfl,hy,hz,q⟩:=h;obtain⟨t,rfl⟩:=rx;obtain⟨u,rfl,t',rfl⟩:=zB rs;refine gD lY (lQ _ _ _) PySem.F.entry_str_partition (PySem.F.args_str_partition_2 _ _) (meets_str_partition z y t t' hy hz) ?_;have q1:=q s.heap.objs.size I.fresh;unfold tH at q1;revert q1
 cases occurrences z y 0 z.length 1 with
 | nil=>intro q1;exact⟨.ref _,_,YN I,rfl,q1⟩
 | cons i r=>intro q1;exact⟨.ref _,_,YN I,rfl,q1⟩
def K3:QZ X "str.rpartition" (jlR tF):=by
 intro ad s σ H x xs v us Q I rx rs h;obtain⟨z,y,rfl,rfl,hy,hz,q⟩:=h;obtain⟨t,rfl⟩:=rx;obtain⟨u,rfl,t',rfl⟩:=zB rs;refine gD EB (lQ _ _ _) PySem.F.entry_str_rpartition (PySem.F.args_str_rpartition_2 _ _) (meets_str_rpartition z y t t' hy hz) ?_;have q1:=q s.heap.objs.size I.fresh;unfold tF at q1;revert q1
 cases lastOccurrence z y 0 z.length with
 | none=>intro q1;exact⟨.ref _,_,YN I,rfl,q1⟩
 | some i=>intro q1;exact⟨.ref _,_,YN I,rfl,q1⟩
end
def Jb(z:Str)(lo hi:Option Int):Str:=⟨((z.cps.toList.drop (HT.sIx z.length 0 lo)).take (HT.sIx z.length z.length hi - HT.sIx z.length 0 lo)).toArray⟩
def ye(h:a.cps.toList=b.cps.toList):a=b:=by
 cases a;cases b
 congr 1;exact PB.mp h
def zV(z:Str)(lo hi:Option Int):(Jb z lo hi).cps.toList=(z.cps.toList.drop (HT.sIx z.length 0 lo)).take (HT.sIx z.length z.length hi - HT.sIx z.length 0 lo):=rfl
theorem KW(z:Str)(lo hi:Option Int):(Jb z lo hi).length<=z.length:=by
 show ((z.cps.toList.drop (HT.sIx z.length 0 lo)).take (HT.sIx z.length z.length hi - HT.sIx z.length 0 lo)).toArray.size<=z.length;rw[bQ,cq,eF];have:z.cps.toList.length=z.length:=by simp[pI]
 omega
theorem jnp(lo hi:Option Int)(n:Nat):EK lo hi 1 n=(ir (HT.sIx n n hi - HT.sIx n 0 lo)).map (HT.sIx n 0 lo+·):=by
 have e:EK lo hi 1 n=sliceRange ((HT.sIx n 0 lo:Nat):Int) ((HT.sIx n n hi:Nat):Int) 1:=by
  unfold EK
  cases lo with
  | none=>
   cases hi with
   | none=>simp[HT.sIx]
   | some i=>
    simp only[HT.sIx,show (1:Int) > 0 from N5,if_true];congr 1;by_cases h:i < 0
    .simp only[h,if_true];omega
    .simp only[h,if_false];omega
  | some j=>
   have ej:max 0 (min (if j < 0 then j+(n:Int) else j) (n:Int))=((HT.sIx n 0 (some j):Nat):Int):=by
    simp only[HT.sIx];by_cases h:j < 0
    .simp only[h,if_true];omega
    .simp only[h,if_false];omega
   cases hi with
   | none=>
    simp only[show (1:Int) > 0 from N5,if_true,HT.sIx_none];rw[ej]
   | some i=>
    have ei:max 0 (min (if i < 0 then i+(n:Int) else i) (n:Int))=((HT.sIx n n (some i):Nat):Int):=by
     simp only[HT.sIx];by_cases h:i < 0
     .simp only[h,if_true];omega
     .simp only[h,if_false];omega
    simp only[show (1:Int) > 0 from N5,if_true];rw[ej,ei]
 rw[e,sliceRange_one]
theorem Zt{X:Cx}:SlR X (fun x lo hi H Q=>∃z,x=.str z/\z.length<=aF/\Q (.str (Jb z lo hi)) H):=by
 intro ad s σ H x v vl vu lo hi sl Q I rx hs pl pu h;obtain⟨z,rfl,hz,q⟩:=h;obtain⟨t,rfl⟩:=rx;obtain⟨l,cT,cD⟩:∃l:Option (Int×Tok),vl=partValue l/\l.map (·.1)=lo:=by
  cases pl with
  | none=>exact⟨none,rfl,rfl⟩
  | int i t=>exact⟨some (i,t),rfl,rfl⟩
 obtain⟨u,Hv,vi⟩:∃l:Option (Int×Tok),vu=partValue l/\l.map (·.1)=hi:=by
  cases pu with
  | none=>exact⟨none,rfl,rfl⟩
  | int i t=>exact⟨some (i,t),rfl,rfl⟩
 refine⟨"str",_,Ox.lookup,lQ s z t,?_⟩;obtain⟨o,h1,h2,h3⟩:=hs;have rN:s.heap.IsSlice sl l u none:=⟨o,h1,h2,by rw[h3,cT,Hv];rfl⟩
 refine wpAny_getItem_str_slice rN rfl ?_;have hp:slicePicked z l u none=(ir (HT.sIx z.length z.length hi - HT.sIx z.length 0 lo)).map (HT.sIx z.length 0 lo+·):=by unfold slicePicked;rw[cD,vi];exact jnp lo hi z.length
 have hn:z.cps.toList.length=z.length:=by simp[pI]
 unfold sliceMade;split
 .rename_i hc
  rw[bg]at hc;have cW:=eq_of_beq hc.2;rw[hp,av,ub]at cW;have vJ:=HT.sIx_le z.length z.length (aK _) hi;have IG:Jb z lo hi=z:=by
   refine ye ?_;rw[zV];rw[cW];by_cases h0:HT.sIx z.length 0 lo=0
   .rw[h0,p0,<- hn,iq]
   .have:z.length=0:=by omega
    have:z.cps.toList=[]:=uc.mp N4;rw[this];simp
  rw[IG]at q;exact⟨.str z,H,I,⟨t,rfl⟩,q⟩
 .rw[hp,pick_run]
  exact⟨aw (KW z lo hi) hz,⟨.str (Jb z lo hi),H,I.tok _,⟨_,rfl⟩,q⟩⟩
open PySem PySem.Builtin PySem.Builtin.Str PySem.StrLaws PyProof.Rows
def cd(z:Str):List Nat:=z.cps.toList
def mS(l:List Nat):Str:=⟨l.toArray⟩
def qc(z:Str):mS (cd z)=z:=by cases z;rfl
def kS(l:List Nat):cd (mS l)=l:=rfl
def jY(z:Str):(cd z).length=z.length:=Aw
def qO(l:List Nat):(mS l).length=l.length:=by simp[mS,pI]
def jW(a b:Str):cd (a++b)=cd a++cd b:=by unfold cd;rw[tJ,ur]
def JH(h:cd a=cd b):a=b:=by rw[<- qc a,h,qc]
def kZ(Nt:List Nat):List Nat->Option (List Nat×List Nat)
 | []=>none
 | c :: l=>if Nt.isPrefixOf (c :: l) then some ([],(c :: l).drop Nt.length) else (kZ Nt l).map fun p=>(c :: p.1,p.2)
def kQ(Nt:List Nat):List Nat->Option (List Nat×List Nat)
 | []=>none
 | c :: l=>match kQ Nt l with
  | some p=>some (c :: p.1,p.2)
  | none=>if Nt.isPrefixOf (c :: l) then some ([],(c :: l).drop Nt.length) else none
def jf4{Nt:List Nat}(h:Nt≠[]){i:Nat}:¬Nt <+: ([]:List Nat).drop i:=by rw[List.drop_nil];intro ⟨t,e⟩;exact h (List.append_eq_nil_iff.mp e).1
theorem jaM{Nt:List Nat}(h:Nt≠[]):∀{l:List Nat},kZ Nt l=none->∀i,¬Nt <+: l.drop i
 | [],_,i=>jf4 h
 | c :: l,e,i=>by
  unfold kZ at e;split at e
  .cases e
  .rename_i hn
   cases i with
   | zero=>exact fun z=>hn (pX.mpr z)
   | succ i=>exact jaM h (Option.map_eq_none_iff.mp e) i
def jf5{Nt l:List Nat}(h:Nt.isPrefixOf l=true):l=Nt++l.drop Nt.length:=by obtain⟨t,rfl⟩:=pX.mp h;rw[nY]
theorem zq{Nt:List Nat}:∀{l a b:List Nat},kZ Nt l=some (a,b)->l=a++Nt++b/\∀i < a.length,¬Nt <+: l.drop i
 | [],_,_,e=>by cases e
 | c :: l,a,b,e=>by
  unfold kZ at e;split at e
  .rename_i hp
   cases e
   exact⟨jf5 hp,fun i hi=>absurd hi NZ⟩
  .rename_i hn
   obtain⟨⟨a',b'⟩,e1,e2⟩:=tT.mp e
   cases e2
   obtain⟨k1,k2⟩:=zq e1;refine⟨by rw[k1];rfl,fun i hi=>?_⟩
   cases i with
   | zero=>exact fun z=>hn (pX.mpr z)
   | succ i=>exact k2 i (by simpa using hi)
theorem Kf{Nt:List Nat}(h:Nt≠[]):∀{l:List Nat},kQ Nt l=none->∀i,¬Nt <+: l.drop i
 | [],_,i=>jf4 h
 | c :: l,e,i=>by
  unfold kQ at e;split at e
  .cases e
  .rename_i e1
   split at e
   .cases e
   .rename_i hn
    cases i with
    | zero=>exact fun z=>hn (pX.mpr z)
    | succ i=>exact Kf h e1 i
theorem zt{Nt:List Nat}(h:Nt≠[]):∀{l a b:List Nat},kQ Nt l=some (a,b)->l=a++Nt++b/\∀i,a.length < i->¬Nt <+: l.drop i
 | [],_,_,e=>by cases e
 | c :: l,a,b,e=>by
  unfold kQ at e;split at e
  .rename_i p e1
   cases e
   obtain⟨k1,k2⟩:=zt h (a:=p.1) (b:=p.2) e1;refine⟨by rw[k1];rfl,fun i hi=>?_⟩
   cases i with
   | zero=>exact absurd hi NZ
   | succ i=>exact k2 i (by simpa using hi)
  .rename_i e1
   split at e
   .rename_i hp
    cases e
    refine⟨jf5 hp,fun i hi=>?_⟩
    cases i with
    | zero=>exact absurd hi NZ
    | succ i=>exact Kf h e1 i
   .cases e
variable {x y:Str}
theorem Kw{i:Nat}(h:cd y≠[]):(i+y.length<=x.length/\subAt x y i=true)↔cd y <+: (cd x).drop i:=by
 rw[subAt_eq,O0,beq_iff_eq,show (cd y).length=y.length from jY y];constructor
 .rintro⟨h1,h2⟩
  exact h2.symm
 .intro h2
  have h3:=PR fE h2;rw[cq,eF,jY,jY]at h3;have:0 < y.length:=by rw[<- jY];exact pW.mpr h
  exact⟨N4,h2.symm⟩
theorem jdQ(s sub:Str)(hi:Nat):∀(l:List Nat) (st:Array Nat×Nat),st.fst.size=1->(forIn l st (nI s sub hi 1)).run.fst=st.fst
 | [],st,h=>rfl
 | a :: l,st,h=>by rw[pZ];unfold nI;rw[PN (fun z=>by have:=z.1.1.1;omega)];exact jdQ s sub hi l _ h
theorem jbT(s sub:Str)(hi i:Nat):∀(l:List Nat) (free:Nat),i∈l->l.Pairwise (· < ·)->(∀k∈l,free<=k)->(i+sub.length<=hi/\subAt s sub i=true)->(∀k∈l,k < i->¬(k+sub.length<=hi/\subAt s sub k=true))->(forIn l ((#[]:Array Nat),free) (nI s sub hi 1)).run.fst=#[i]
 | [],_,h,_,_,_,_=>nomatch h
 | a :: l,free,hm,hp,hf,hA,hn=>by
  rw[pZ];have iF:=O3.mp hp;by_cases e:a=i
  .subst e
   unfold nI;rw[PP ⟨⟨⟨NZ,hf a (aJ ..)⟩,hA.1⟩,hA.2⟩];exact jdQ s sub hi l _ rfl
  .have fP:i∈l:=by
    rcases aA.mp hm with z | z
    .exact absurd z.symm e
    .exact z
   have cS:=iF.1 i fP;have h0:=hn a (aJ ..) cS;unfold nI;rw[PN (fun z=>h0 ⟨z.1.2,z.2⟩)];exact jbT s sub hi i l free fP iF.2 (fun k hk=>hf k (aH _ hk)) hA fun k hk=>hn k (aH _ hk)
theorem jje(h:cd y≠[]):occurrences x y 0 x.length 1=match kZ (cd y) (cd x) with | some p=>[p.1.length] | none=>[]:=by
 cases e:kZ (cd y) (cd x) with
 | none=>
  have h0:=jaM h e;have h1:=found_iff x y
  cases e2:occurrences x y 0 x.length 1 with
  | nil=>rfl
  | cons i r=>
   rw[e2]at h1;obtain⟨j,hj⟩:=h1.mp rfl;exact absurd ((Kw h).mp hj) (h0 j)
 | some p=>
  obtain⟨k1,k2⟩:=zq (a:=p.1) (b:=p.2) e;have hA:cd y <+: (cd x).drop p.1.length:=by rw[k1,bq,nY];exact O1 ..
  have Lf:=(Kw h).mpr hA;rw[occ_eq,jbT x y x.length p.1.length _ 0 (by rw[O4];exact⟨p.1.length,N4,N4⟩) (by simpa using O2 (s:=0) (n:=x.length+1 - 0)) (fun _ _=>cn _) Lf fun k _ hk z=>k2 k hk ((Kw h).mp z)]
def jeA(x:Str)(i j:Nat):nQ x i j=mS (((cd x).drop i).take (j - i)):=JH (strSub_toList x i j)
theorem jb8{a b:List Nat}(e:cd x=a++cd y++b):nQ x 0 a.length=mS a/\nQ x (a.length+y.length) x.length=mS b:=by
 rw[jeA,jeA,<- jY x,e];constructor
 .rw[p0,bq,Ac,OQ]
 .have e1:a.length+y.length=(a++cd y).length:=by rw[az,jY]
  rw[e1,nY,ip (by rw[az];omega)]
def jf8(h:cd y≠[]):tH x y=match kZ (cd y) (cd x) with | some p=>(mS p.1,y,mS p.2) | none=>(x,bC,bC):=by
 unfold tH;rw[jje h]
 cases e:kZ (cd y) (cd x) with
 | none=>rfl
 | some p=>
  obtain⟨k1,k2⟩:=zq (a:=p.1) (b:=p.2) e;obtain⟨e1,e2⟩:=jb8 k1;show (nQ x 0 p.1.length,y,nQ x (p.1.length+y.length) x.length)=_;rw[e1,e2]
def jdD(h:cd y≠[]):tF x y=match kQ (cd y) (cd x) with | some p=>(mS p.1,y,mS p.2) | none=>(bC,bC,x):=by
 unfold tF
 cases e:kQ (cd y) (cd x) with
 | none=>
  have h0:=Kf h e;rcases last_spec x y with⟨e1,_⟩ | ⟨i,_,hA,_⟩
  .rw[e1]
  .exact absurd ((Kw h).mp hA) (h0 i)
 | some p=>
  obtain⟨k1,k2⟩:=zt h (a:=p.1) (b:=p.2) e;have hA:cd y <+: (cd x).drop p.1.length:=by rw[k1,bq,nY];exact O1 ..
  rcases last_spec x y with⟨_,h1⟩ | ⟨i,e1,hI,h1⟩
  .exact absurd ((Kw h).mpr hA) (h1 _)
  .have:i=p.1.length:=by
    rcases Nat.lt_trichotomy i p.1.length with z | z | z
    .exact absurd ((Kw h).mpr hA) (h1 _ z)
    .exact z
    .exact absurd ((Kw h).mp hI) (k2 _ z)
   subst this;obtain⟨e2,e3⟩:=jb8 k1;rw[e1];show (nQ x 0 p.1.length,y,nQ x (p.1.length+y.length) x.length)=_;rw[e2,e3]
def km(l:List Nat):List Nat:=((l.dropWhile (· == 32)).reverse.dropWhile (· == 32)).reverse
theorem KU{p:Nat->Bool}:∀l:List Nat,l.drop (l.takeWhile p).length=l.dropWhile p
 | []=>rfl
 | a :: l=>by
  rw[OS,ui];split
  .exact KU l
  .rfl
def jic{p:Nat->Bool}(l:List Nat):l.take (l.length - (l.reverse.takeWhile p).length)=(l.reverse.dropWhile p).reverse:=by rw[<- KU l.reverse,List.drop_reverse,E6]
theorem Jg(z:Str):Ep z (aa " ")=mS (km (cd z)):=by
 have hg:(aa " ").cps.contains=fun c:Nat=>c == 32:=by funext c;show (#[32]:Array Nat).contains c=_;simp;rfl
 unfold Ep;rw[hg,PyProof.Rows.stripBy_eq,jeA];unfold stripLo stripHi km;simp only[if_true];show mS (List.take (z.length - _ - ((cd z).takeWhile _).length) ((cd z).drop ((cd z).takeWhile _).length))=_;rw[<- jic];congr 2
 .show z.length - ((Fj ((cd z).takeWhile _).length (cd z)).reverse.takeWhile _).length - _=_
  rw[KU,<- jY];have h1:(cd z).length=((cd z).takeWhile fun c=>c == 32).length+((cd z).dropWhile fun c=>c == 32).length:=by rw[<- az,OT]
  omega
 .exact KU _
end L2
namespace LW
open PySem L2 PySem.NumText
def zH:List Str:=X5
def yF(c:Nat):Bool:=decide (97<=c) && decide (c<=122)
def yI(c:Nat):Bool:=decide (48<=c) && decide (c<=57)
def j5(l:List Nat):Bool:=!l.isEmpty && l.all yF && decide (l.length<=8) && !(zH.map cd).contains l
def yh(l:List Nat):Bool:=!l.isEmpty && l.all yI && decide (l.length<=19) && (l == [48] || !(l.head? == some 48))
def Yw(l:List Nat):Bool:=if l.head?=some 45 then yh l.tail && !(l.tail == [48]) else yh l
def RK(l:List Nat):Int:=if l.head?=some 45 then -((digitsVal l.tail:Nat):Int) else ((digitsVal l:Nat):Int)
def yj(q:Nat)(l:List Nat):Option (List Nat×List Nat):=match kQ [32,q,32] l with
 | some p=>if yh p.2 && !(p.2 == [48]) then some p else none
 | none=>none
def qQ(l:List Nat):List Nat×Int:=match yj 43 l with
 | some p=>(p.1,((digitsVal p.2:Nat):Int))
 | none=>match yj 45 l with
  | some p=>(p.1,-((digitsVal p.2:Nat):Int))
  | none=>(l,0)
def yY(l:List Nat):Option (Str×Int):=if Yw l then some (aa "",RK l) else if j5 (qQ l).1 then some (mS (qQ l).1,(qQ l).2) else none
def zf(l:List Nat):Option Tm:=match kZ [91] l with
 | none=>if j5 l then some (.is (mS l)) else none
 | some p=>if p.2.getLast? == some 93 then if j5 p.1 then (yY p.2.dropLast).map fun q=>.at_ (mS p.1) q.1 q.2 else none else none
def JK(l:List Nat):Option (Tm×Int):=if Yw l then some (.is (aa ""),RK l) else (zf (qQ l).1).map fun t=>(t,(qQ l).2)
def YD(l:List Nat):Option (Bd×Int):=
 if Yw l then some (.is (aa ""),RK l)
 else if [91,93].isSuffixOf (qQ l).1 then if j5 ((qQ l).1.take ((qQ l).1.length - 2)) then some (.row (mS ((qQ l).1.take ((qQ l).1.length - 2))),(qQ l).2) else none
 else if j5 (qQ l).1 then some (.is (mS (qQ l).1),(qQ l).2) else none
def ZO(l:List Nat):Option Tm:=if l=[48] then some (.is (aa "")) else zf l
def OC(Nt l:List Nat):List Nat×List Nat:=(kZ Nt l).getD (l,[])
def Z0(Nt l:List Nat):List Nat×List Nat:=(kQ Nt l).getD ([],l)
structure Rch where
 t:Str×Int
 u:Str×Int
 r:Str
def Kh(l:List Nat):Option Rch:=match yY (OC [32,116,111,32] l).1 with
 | none=>none
 | some t=>match yY (Z0 [32] (OC [32,116,111,32] l).2).1 with
  | none=>none
  | some u=>if j5 (Z0 [32] (OC [32,116,111,32] l).2).2 then some ⟨t,u,mS (Z0 [32] (OC [32,116,111,32] l).2).2⟩ else none
def RB(l:List Nat):Str:=if (kZ [32,60,61,32] l).isSome then aa "<=" else aa ">="
def jed(l:List Nat):Option Cl:=match Kh (OC (32 :: (cd (RB l)++[32])) l).1 with
 | none=>none
 | some k=>match YD (OC (32 :: (cd (RB l)++[32])) l).2 with
  | none=>none
  | some b=>some (.each k.t.1 k.t.2 k.u.1 k.u.2 k.r (RB l) b.1 b.2)
def SH(l:List Nat):Option Cl:=match Kh l with
 | none=>none
 | some k=>some (.rise k.t.1 k.t.2 k.u.1 k.u.2 k.r)
def zg(l:List Nat):Option Cl:=match JK (OC [32,62,61,32] l).2 with
 | none=>none
 | some t=>match ZO (OC [32,62,61,32] l).1 with
  | none=>none
  | some x=>some (.least x t.1 t.2)
def qh(l:List Nat):Option Cl:=
 if (OC [32] l).1=[101,97,99,104] then jed (OC [32] l).2
 else if (OC [32] l).1=[114,105,115,101] then SH (OC [32] l).2
 else zg l
def dg(m:Nat):List Nat:=(tU 10 m).map n8
def Kt(i:Int):List Nat:=if i < 0 then 45 :: dg i.natAbs else dg i.natAbs
def ky(x:List Nat)(c:Int):List Nat:=if x=[] then Kt c else if 0 < c then x++32 :: 43 :: 32 :: dg c.natAbs else if c < 0 then x++32 :: 45 :: 32 :: dg c.natAbs else x
def qi:Tm->List Nat
 | .is x=>if cd x=[] then [48] else cd x
 | .at_ r x d=>cd r++91 :: (ky (cd x) d++[93])
def zr(t:Tm)(c:Int):List Nat:=match t with
 | .is x=>ky (cd x) c
 | .at_ r x d=>ky (qi (.at_ r x d)) c
def yK(b:Bd)(c:Int):List Nat:=match b with
 | .is x=>ky (cd x) c
 | .row r=>ky (cd r++[91,93]) c
def qK(x:Str)(d:Int)(y:Str)(e:Int)(r:Str):List Nat:=ky (cd x) d++32 :: 116 :: 111 :: 32 :: (ky (cd y) e++32 :: cd r)
def yl:Cl->List Nat
 | .least a b c=>qi a++32 :: 62 :: 61 :: 32 :: zr b c
 | .rise x d y e r=>114 :: 105 :: 115 :: 101 :: 32 :: qK x d y e r
 | .each x d y e r aT b c=>101 :: 97 :: 99 :: 104 :: 32 :: (qK x d y e r++32 :: (cd aT++32 :: yK b c))
def jjX(m:Nat):∀c∈dg m,yI c=true:=by intro c hc;obtain⟨ch,fe,rfl⟩:=fD.mp hc;have r:=PyProof.Rows.digit_range (Nat.isDigit_of_mem_toDigits N5 N5 fe);unfold yI;rw[PL r.1,PL r.2];rfl
def jgv(m:Nat):dg m≠[]:=fun h=>Nat.toDigits_ne_nil (List.map_eq_nil_iff.mp h)
def jmV{m:Nat}(h:m < 10 ^ 19):(dg m).length<=19:=by unfold dg;rw[av];exact (ON (b:=10) N5 N5).mpr h
def jdb(m:Nat):digitsVal (dg m)=m:=PySem.W.KIN.val_back m
def jhK:∀c:Nat,c < 10->0 < c->(Nat.digitChar c).toNat≠48:=N5
theorem jgw(m:Nat)(h:0 < m):(dg m).head?≠some 48:=by
 induction m using Nat.strongRecOn with
 | _ m ih=>
  by_cases h9:m < 10
  .unfold dg
   rw[Nat.toDigits_of_lt_base h9];intro e;exact jhK m h9 h (by simpa using e)
  .have hm:m % 10 < 10:=tX m N5
   have t:tU 10 (m / 10)++tU 10 (m % 10)=tU 10 (10 * (m / 10)+m % 10):=Nat.toDigits_append_toDigits N5 N4 hm;rw[Nat.div_add_mod]at t;have i:=ih (m / 10) N4 N4;have n:=jgv (m / 10);unfold dg at i n |-;rw[<- t,bj]
   cases e:(tU 10 (m / 10)).map n8 with
   | nil=>exact absurd e n
   | cons a l=>rw[e]at i;exact i
def jfq{m:Nat}(h:m < 10 ^ 19):yh (dg m)=true:=by
 unfold yh;rw[c_.mpr (jjX m),PL (jmV h)];have h1:(dg m).isEmpty=false:=by rw[O_];exact jgv m
 rw[h1];rcases OO m with rfl | hp
 .rfl
 .rw[show ((dg m).head? == some 48)=false from PQ.mpr (jgw m hp)]
  simp
def jjW{m:Nat}(h:0 < m):(dg m == [48])=false:=PQ.mpr fun e=>jgw m h (by rw[e];rfl)
variable {c:Nat}
def jmU{k:Nat}(h:yI c=true)(hk:yI k=false):c≠k:=fun e=>by rw[e,hk]at h;cases h
def zU{m k:Nat}(hk:yI k=false):k ∉ dg m:=fun h=>jmU (jjX m k h) hk rfl
def jmW{m k:Nat}(hk:yI k=false):(dg m).head?≠some k:=fun h=>zU hk (List.mem_of_mem_head? h)
theorem jc1{i:Int}(h:i.natAbs < 10 ^ 19):Yw (Kt i)=true/\RK (Kt i)=i:=by
 unfold Kt Yw RK;split
 .rename_i hi
  simp only[List.head?_cons,if_true,OV];rw[jfq h,jjW N4,jdb];exact⟨rfl,N4⟩
 .rw[PN (jmW rfl),PN (jmW rfl),jfq h,jdb]
  exact⟨rfl,N4⟩
def Sd{l:List Nat}(h:j5 l=true):l≠[]:=by rintro rfl;exact absurd h N5
def je1{l:List Nat}(h:j5 l=true):∀c∈l,yF c=true:=by unfold j5 at h;simp only[bg]at h;exact c_.mp h.1.1.2
def je9{k:Nat}(h:yF c=true)(hk:yF k=false):c≠k:=fun e=>by rw[e,hk]at h;cases h
def qM{l:List Nat}{k:Nat}(h:j5 l=true)(hk:yF k=false):k ∉ l:=fun z=>je9 (je1 h k z) hk rfl
theorem jaj(h:yF c=true):yI c=false:=by unfold yF at h;unfold yI;simp only[bg,decide_eq_true_eq]at h;rw[PM (show ¬c<=57 from N4)];simp
def jc9{l:List Nat}(h:c∈l)(hc:yI c=false):yh l=false:=by
 unfold yh;have:l.all yI=false:=by rw[List.all_eq_false];exact⟨c,h,by rw[hc];decide⟩
 rw[this];simp
def jla{l:List Nat}(h:c∈l)(hc:yI c=false)(pj:c≠45):Yw l=false:=by
 unfold Yw;split
 .rename_i e
  cases l with
  | nil=>cases h
  | cons a l=>
   have e':a=45:=by simpa using e
   rcases aA.mp h with z | z
   .exact absurd (z.trans e') pj
   .rw[OV,jc9 z hc]
    rfl
 .exact jc9 h hc
theorem jeN{Nt:List Nat}{l u v:List Nat}:∀a:List Nat,kQ Nt l=some (u,v)->kQ Nt (a++l)=some (a++u,v)
 | [],h=>h
 | c :: a,h=>by show (match kQ Nt (a++l) with | some p=>some (c :: p.1,p.2) | none=>_)=_;rw[jeN a h];rfl
def jfY{Nt l:List Nat}(h:Nt≠[])(hc:c∈Nt)(hn:c ∉ l):kQ Nt l=none:=by
 cases e:kQ Nt l with
 | none=>rfl
 | some p=>
  obtain⟨k1,_⟩:=zt h (a:=p.1) (b:=p.2) e;rw[k1]at hn;exact absurd (cB _ (bV _ hc)) hn
def jcK{Nt l:List Nat}(hc:c∈Nt)(hn:c ∉ l):kZ Nt l=none:=by
 cases e:kZ Nt l with
 | none=>rfl
 | some p=>
  obtain⟨k1,_⟩:=zq (a:=p.1) (b:=p.2) e;rw[k1]at hn;exact absurd (cB _ (bV _ hc)) hn
variable {b:List Nat}
def jml(h:c ∉ b)(a:List Nat):kQ [c] (a++c :: b)=some (a,b):=by
 have:kQ [c] (c :: b)=some ([],b):=by unfold kQ;rw[jfY NZ (aZ.mpr rfl) h];simp[nV]
 have:=jeN a this;rwa [bE]at this
variable {q:Nat}
def jiv(h:32 ∉ b)(hq:q≠32)(hh:b.head?≠some q)(a:List Nat):kQ [32,q,32] (a++32 :: q :: 32 :: b)=some (a,b):=by
 have e0:=jfY (Nt:=[32,q,32]) NZ (aJ ..) h;have e1:kQ [32,q,32] (32 :: b)=none:=by
  unfold kQ;rw[e0]
  cases b with
  | nil=>rfl
  | cons x b=>
   have:(q == x)=false:=PQ.mpr fun z=>hh (by rw[z];rfl)
   simp[nV,this]
 have e2:kQ [32,q,32] (q :: 32 :: b)=none:=by unfold kQ;rw[e1];have:(32 == q)=false:=PQ.mpr hq.symm;simp[nV,this]
 have e3:kQ [32,q,32] (32 :: q :: 32 :: b)=some ([],b):=by unfold kQ;rw[e2];simp[nV]
 have:=jeN a e3;rwa [bE]at this
theorem Yq{p:Nat}{s l:List Nat}:∀{a:List Nat},p ∉ a->kZ (p :: s) (a++l)=(kZ (p :: s) l).map fun r=>(a++r.1,r.2)
 | [],_=>by simp
 | c :: a,h=>by
  have hc:(p == c)=false:=PQ.mpr fun z=>h (by rw[z];exact aJ ..)
  show (if (p :: s).isPrefixOf (c :: (a++l)) then _ else (kZ (p :: s) (a++l)).map _)=_;rw[nV,hc,ra,PN aU,Yq (fun z=>h (aH _ z)),Aa];rfl
theorem JA{p q:Nat}{s l:List Nat}(BR:q≠p):∀{a:List Nat},q ∉ a->kZ (p :: q :: s) (a++p :: l)=(kZ (p :: q :: s) (p :: l)).map fun r=>(a++r.1,r.2)
 | [],_=>by simp
 | c :: a,h=>by
  have hx:∃x m,a++p :: l=x :: m/\(q == x)=false:=by
   cases a with
   | nil=>exact⟨p,l,rfl,PQ.mpr BR⟩
   | cons y a=>exact⟨y,a++p :: l,rfl,PQ.mpr fun z=>h (by rw[z];exact aH _ (aJ ..))⟩
  obtain⟨x,m,e,hx⟩:=hx;have hf:(p :: q :: s).isPrefixOf (c :: (a++p :: l))=false:=by rw[e,nV,nV,hx];simp
  show (if (p :: q :: s).isPrefixOf (c :: (a++p :: l)) then _ else (kZ (p :: q :: s) (a++p :: l)).map _)=_;rw[hf,PN aU,JA BR (fun z=>h (aH _ z)),Aa];rfl
def YY{p:Nat}{s:List Nat}:kZ (p :: s) (p :: (s++b))=some ([],b):=by unfold kZ;rw[PP (show (p :: s).isPrefixOf (p :: (s++b))=true from pX.mpr ⟨b,rfl⟩)];show some (([]:List Nat),((p :: s)++b).drop (p :: s).length)=_;rw[nY]
variable {a:List Nat}
def jiA(h:c ∉ a):kZ [c] (a++c :: b)=some (a,b):=by rw[Yq h,show kZ [c] (c :: b)=some ([],b) from YY (s:=[])];simp
def jbI{l:List Nat}(h:l.getLast?=some c)(hc:yI c=false):yj q l=none:=by
 unfold yj
 cases e:kQ [32,q,32] l with
 | none=>rfl
 | some p=>
  obtain⟨k1,_⟩:=zt NZ (a:=p.1) (b:=p.2) e;have:yh p.2=false:=by
   cases e2:p.2 with
   | nil=>rfl
   | cons x m=>
    refine jc9 (c:=c) ?_ hc;rw[k1,e2,Ak]at h;have:(x :: m).getLast?=some c:=by
     cases e3:(x :: m).getLast? with
     | none=>simp at e3
     | some y=>rw[e3]at h;exact h
    exact t_ this
  show (if yh p.2 && !(p.2 == [48]) then some p else none)=none;rw[this];rfl
def jj1{l:List Nat}(h:l.getLast?=some c)(hc:yI c=false):qQ l=(l,0):=by unfold qQ;rw[jbI h hc,jbI h hc]
theorem jfW{m:Nat}(hq:q=43\/q=45)(h0:0 < m)(h:m < 10 ^ 19)(a:List Nat):yj q (a++32 :: q :: 32 :: dg m)=some (a,dg m):=by unfold yj;rw[jiv (zU rfl) N4 (jmW (by rcases hq with rfl | rfl <;> rfl)) a];show (if yh (dg m) && !(dg m == [48]) then some (a,dg m) else none)=_;rw[jfq h,jjW h0];rfl
def jmT{x y u v:List Nat}(hu:32 ∉ u)(hv:32 ∉ v)(h:x++32 :: u=y++32 :: v):x=y/\u=v:=by
 rcases Pk.mp h with⟨c,e1,e2⟩ | ⟨c,e1,e2⟩
 .cases c with
  | nil=>rw[bE]at e1;cases e2;exact⟨e1.symm,rfl⟩
  | cons z c=>
   cases e2
   exact absurd (bV _ (aJ ..)) hu
 .cases c with
  | nil=>rw[bE]at e1;cases e2;exact⟨e1,rfl⟩
  | cons z c=>
   cases e2
   exact absurd (bV _ (aJ ..)) hv
def jgq{l:List Nat}(h:yh l=true):∀c∈l,yI c=true:=by unfold yh at h;simp only[bg]at h;exact c_.mp h.1.1.2
def jeF{m:Nat}(a:List Nat):yj 43 (a++32 :: 45 :: 32 :: dg m)=none:=by
 unfold yj
 cases e:kQ [32,43,32] (a++32 :: 45 :: 32 :: dg m) with
 | none=>rfl
 | some p=>
  obtain⟨k1,_⟩:=zt NZ (a:=p.1) (b:=p.2) e;have:yh p.2=false:=by
   cases e2:yh p.2 with
   | false=>rfl
   | true=>
    have k2:(a++[32,45])++32 :: dg m=(p.1++[32,43])++32 :: p.2:=by simpa using k1
    have:=(jmT (zU rfl) (fun z=>by have:=jgq e2 _ z;cases this) k2).1;have:=PR List.getLast? this;simp at this
  show (if yh p.2 && !(p.2 == [48]) then some p else none)=none;rw[this];rfl
def jlx{m:Nat}(h0:0 < m)(h:m < 10 ^ 19)(a:List Nat):qQ (a++32 :: 43 :: 32 :: dg m)=(a,(m:Int)):=by unfold qQ;rw[jfW (.inl rfl) h0 h a];show (a,((digitsVal (dg m):Nat):Int))=_;rw[jdb]
def jly{m:Nat}(h0:0 < m)(h:m < 10 ^ 19)(a:List Nat):qQ (a++32 :: 45 :: 32 :: dg m)=(a,-(m:Int)):=by unfold qQ;rw[jeF,jfW (.inr rfl) h0 h a];show (a,-((digitsVal (dg m):Nat):Int))=_;rw[jdb]
theorem Kv{x:List Nat}{c:Int}{k:Nat}(hx:x.getLast?=some k)(hk:yI k=false)(hc:c.natAbs < 10 ^ 19):qQ (ky x c)=(x,c):=by
 unfold ky;rw[PN (by rintro rfl;cases hx)];split
 .rw[jlx N4 hc]
  congr 1;omega
 split
 .rw[jly N4 hc]
  congr 1;omega
 .rw[jj1 hx hk]
  congr 1;omega
def jjn{x:List Nat}(hx:x≠[])(c:Int):∃m,ky x c=x++m:=by
 unfold ky;rw[PN hx];split
 .exact⟨_,rfl⟩
 split
 .exact⟨_,rfl⟩
 .exact⟨[],(bE _).symm⟩
def Km{x:List Nat}{k:Nat}(hx:k∈x)(hk:yF k=true)(c:Int):Yw (ky x c)=false:=by obtain⟨m,e⟩:=jjn (List.ne_nil_of_mem hx) c;rw[e];exact jla (cB _ hx) (jaj hk) (je9 hk rfl)
def jah{l:List Nat}(h:j5 l=true):∃k,l.getLast?=some k/\yF k=true:=by have hn:=Sd h;exact⟨l.getLast hn,uf hn,je1 h _ (ue hn)⟩
def jgb{l:List Nat}(h:j5 l=true):∃k,k∈l/\yF k=true:=by obtain⟨k,h1,h2⟩:=jah h;exact⟨k,t_ h1,h2⟩
def Qo(x:Str):Prop:=x=aa ""\/j5 (cd x)=true
def QB(d:Int):Prop:=d.natAbs < 10 ^ 19
variable {x:Str}{d:Int}
def Yr(hx:Qo x)(hd:QB d):yY (ky (cd x) d)=some (x,d):=by
 unfold yY;rcases hx with rfl | hx
 .obtain⟨e1,e2⟩:=jc1 hd
  rw[show ky (cd (aa "")) d=Kt d from rfl,PP e1,e2]
 .obtain⟨k,k1,k2⟩:=jah hx
  rw[PN (by rw[Km (t_ k1) k2];decide),Kv k1 (jaj k2) hd,PP hx,qc]
def Q8:Tm->Prop
 | .is x=>Qo x
 | .at_ r x d=>j5 (cd r)=true/\Qo x/\QB d
def SO:Bd->Prop
 | .is x=>Qo x
 | .row r=>j5 (cd r)=true
variable {r:Str}
def jaV(hr:j5 (cd r)=true)(hx:Qo x)(hd:QB d):zf (qi (.at_ r x d))=some (.at_ r x d):=by
 unfold zf;rw[show qi (.at_ r x d)=cd r++91 :: (ky (cd x) d++[93]) from rfl,jiA (qM hr rfl)];show (if (ky (cd x) d++[93]).getLast? == some 93 then if j5 (cd r) then (yY (ky (cd x) d++[93]).dropLast).map _ else none else none)=_;have hl:((ky (cd x) d++[93]).getLast? == some 93)=true:=by rw[Ak];rfl
 rw[PP hl,PP hr,Fi,Yr hx hd,qc];rfl
def jaU(hx:j5 (cd x)=true):zf (cd x)=some (.is x):=by unfold zf;rw[jcK (aZ.mpr rfl) (qM hx rfl)];show (if j5 (cd x) then some (Tm.is (mS (cd x))) else none)=_;rw[PP hx,qc]
def jen(r x:Str)(d:Int):(qi (.at_ r x d)).getLast?=some 93:=by show (cd r++91 :: (ky (cd x) d++[93])).getLast?=some 93;rw[<- cJ,<- bq,Ak];rfl
def KD{t:Tm}{c:Int}(ht:Q8 t)(hc:QB c):JK (zr t c)=some (t,c):=by
 unfold JK
 cases t with
 | is x=>
  rcases (show Qo x from ht) with rfl | hx
  .obtain⟨e1,e2⟩:=jc1 hc
   rw[show zr (.is (aa "")) c=Kt c from rfl,PP e1,e2]
  .obtain⟨k,k1,k2⟩:=jah hx
   rw[show zr (.is x) c=ky (cd x) c from rfl,PN (by rw[Km (t_ k1) k2];decide),Kv k1 (jaj k2) hc,jaU hx];rfl
 | at_ r x d=>
  obtain⟨h1,h2,h3⟩:=ht;obtain⟨k,k1,k2⟩:=jgb h1;have hk:k∈qi (.at_ r x d):=cB _ k1;rw[show zr (.at_ r x d) c=ky (qi (.at_ r x d)) c from rfl,PN (by rw[Km hk k2];decide),Kv (jen r x d) rfl hc,jaV h1 h2 h3];rfl
def jbo{t:Tm}(ht:Q8 t):ZO (qi t)=some t:=by
 unfold ZO
 cases t with
 | is x=>
  rcases (show Qo x from ht) with rfl | hx
  .rfl
  .have e:qi (.is x)=cd x:=PN (Sd hx)
   rw[e,PN (fun z=>by have:=qM hx (k:=48) rfl;rw[z]at this;exact this (aZ.mpr rfl)),jaU hx]
 | at_ r x d=>
  obtain⟨h1,h2,h3⟩:=ht;rw[PN (fun z=>by have:=jen r x d;rw[z]at this;exact absurd this N5),jaV h1 h2 h3]
def jfA{b:Bd}{c:Int}(hb:SO b)(hc:QB c):YD (yK b c)=some (b,c):=by
 unfold YD
 cases b with
 | is x=>
  rcases (show Qo x from hb) with rfl | hx
  .obtain⟨e1,e2⟩:=jc1 hc
   rw[show yK (.is (aa "")) c=Kt c from rfl,PP e1,e2]
  .obtain⟨k,k1,k2⟩:=jah hx
   rw[show yK (.is x) c=ky (cd x) c from rfl,PN (by rw[Km (t_ k1) k2];decide),Kv k1 (jaj k2) hc];have:[91,93].isSuffixOf (cd x)=false:=by
    cases e:[91,93].isSuffixOf (cd x) with
    | false=>rfl
    | true=>
     obtain⟨t,e2⟩:=Fe.mp e;exact absurd (by rw[<- e2];simp) (qM hx (k:=91) rfl)
   rw[this,PN aU,PP hx,qc]
 | row r=>
  have hr:j5 (cd r)=true:=hb;obtain⟨k,k1,k2⟩:=jgb hr;rw[show yK (.row r) c=ky (cd r++[91,93]) c from rfl,PN (by rw[Km (cB _ k1) k2];decide),Kv (k:=93) (by rw[Ak];rfl) rfl hc];have e:(cd r++[91,93]).take ((cd r++[91,93]).length - 2)=cd r:=by rw[az,show (cd r).length+[91,93].length - 2=(cd r).length from rfl,OQ]
  show (if [91,93].isSuffixOf (cd r++[91,93]) then if j5 ((cd r++[91,93]).take ((cd r++[91,93]).length - 2)) then some (Bd.row (mS ((cd r++[91,93]).take ((cd r++[91,93]).length - 2))),c) else none else _)=_;rw[e,PP (Fe.mpr ⟨cd r,rfl⟩),PP hr,qc]
def KO{i:Int}{k:Nat}(hk:yI k=false)(pj:k≠45):k ∉ Kt i:=by
 unfold Kt;split
 .intro h
  rcases aA.mp h with z | z
  .exact pj z
  .exact zU hk z
 .exact zU hk
def jku(hx:Qo x)(d:Int)(l:List Nat):kZ [32,116,111,32] (ky (cd x) d++32 :: 116 :: 111 :: 32 :: l)=some (ky (cd x) d,l):=by
 have e0:kZ [32,116,111,32] (32 :: 116 :: 111 :: 32 :: l)=some ([],l):=YY (s:=[116,111,32]);rcases hx with rfl | hx
 .rw[show ky (cd (aa "")) d=Kt d from rfl,JA N5 (KO rfl N5),e0]
  simp
 .unfold ky
  rw[PN (Sd hx)];have hd:116 ∉ 32 :: 43 :: 32 :: dg d.natAbs:=fun h=>zU (k:=116) rfl (by simpa using h)
  have gX:116 ∉ 32 :: 45 :: 32 :: dg d.natAbs:=fun h=>zU (k:=116) rfl (by simpa using h)
  split
  .rw[bq,Yq (qM hx rfl),JA N5 hd,e0]
   simp
  split
  .rw[bq,Yq (qM hx rfl),JA N5 gX,e0]
   simp
  .rw[Yq (qM hx rfl),e0]
   simp
variable {y:Str}{e:Int}
def jaI(hx:Qo x)(hd:QB d)(hy:Qo y)(he:QB e)(hr:j5 (cd r)=true):Kh (qK x d y e r)=some ⟨(x,d),(y,e),r⟩:=by
 have e1:OC [32,116,111,32] (qK x d y e r)=(ky (cd x) d,ky (cd y) e++32 :: cd r):=by unfold OC qK;rw[jku hx];rfl
 have e2:Z0 [32] (ky (cd y) e++32 :: cd r)=(ky (cd y) e,cd r):=by unfold Z0;rw[jml (qM hr rfl)];rfl
 unfold Kh;rw[e1];dsimp only;rw[e2];dsimp only;rw[Yr hx hd,Yr hy he];dsimp only;rw[PP hr,qc]
def Pl(l:List Nat):Prop:=60 ∉ l/\62 ∉ l
def Pl.app(h:Pl a)(k:Pl b):Pl (a++b):=⟨fun z=>(aL.mp z).elim h.1 k.1,fun z=>(aL.mp z).elim h.2 k.2⟩
def Pl.cons{c:Nat}{a:List Nat}(h:Pl a)(h1:(60 == c)=false:=by decide)(h2:(62 == c)=false:=by decide):Pl (c :: a):=⟨fun z=>(aA.mp z).elim (PQ.mp h1) h.1,fun z=>(aA.mp z).elim (PQ.mp h2) h.2⟩
def jcO:Pl []:=⟨NZ,NZ⟩
def jlT(m:Nat):Pl (dg m):=⟨zU rfl,zU rfl⟩
def jmq(i:Int):Pl (Kt i):=⟨KO rfl N5,KO rfl N5⟩
def jf6{l:List Nat}(h:j5 l=true):Pl l:=⟨qM h rfl,qM h rfl⟩
def YZ{x:List Nat}(h:Pl x)(c:Int):Pl (ky x c):=by
 unfold ky;split
 .exact jmq c
 split
 .exact h.app (jlT _).cons.cons.cons
 split
 .exact h.app (jlT _).cons.cons.cons
 .exact h
def jiG(h:Qo x):Pl (cd x):=by
 rcases h with rfl | h
 .exact jcO
 .exact jf6 h
def jdK{t:Tm}(h:Q8 t):Pl (qi t):=by
 cases t with
 | is x=>
  show Pl (if cd x=[] then [48] else cd x);split
  .exact jcO.cons
  .exact jiG h
 | at_ r x d=>exact (jf6 h.1).app (((YZ (jiG h.2.1) d).app jcO.cons).cons)
def jiH{b:Bd}{c:Int}(h:SO b):Pl (yK b c):=by
 cases b with
 | is x=>exact YZ (jiG h) c
 | row r=>exact YZ ((jf6 h).app jcO.cons.cons) c
def jiF(hx:Qo x)(hy:Qo y)(hr:j5 (cd r)=true):Pl (qK x d y e r):=(YZ (jiG hx) d).app ((YZ (jiG hy) e).app (jf6 hr).cons).cons.cons.cons.cons
def Qh:Cl->Prop
 | .least a b c=>Q8 a/\Q8 b/\QB c
 | .rise x d y e r=>Qo x/\QB d/\Qo y/\QB e/\j5 (cd r)=true
 | .each x d y e r aT b c=>(Qo x/\QB d/\Qo y/\QB e/\j5 (cd r)=true)/\(aT=aa ">="\/aT=aa "<=")/\SO b/\QB c
def jle{l:List Nat}(h:j5 l=true):l≠[101,97,99,104]/\l≠[114,105,115,101]:=⟨by rintro rfl;exact absurd h N5,by rintro rfl;exact absurd h N5⟩
def qC(a b:List Nat)(h:32 ∉ a):OC [32] (a++32 :: b)=(a,b):=by unfold OC;rw[jiA h];rfl
def jfk{t:Tm}(h:Q8 t)(l:List Nat):(OC [32] (qi t++32 :: l)).1≠[101,97,99,104]/\(OC [32] (qi t++32 :: l)).1≠[114,105,115,101]:=by
 have key:∀{r m:List Nat},j5 r=true->(OC [32] (r++91 :: m)).1≠[101,97,99,104]/\(OC [32] (r++91 :: m)).1≠[114,105,115,101]:=by
  intro r m hr;have hm:91∈(OC [32] (r++91 :: m)).1:=by
   unfold OC;rw[Yq (qM hr rfl)]
   cases e:kZ [32] (91 :: m) with
   | none=>exact bV _ (aJ ..)
   | some p=>
    obtain⟨k1,_⟩:=zq (a:=p.1) (b:=p.2) e;show 91∈r++p.1
    cases e2:p.1 with
    | nil=>rw[e2]at k1;cases k1
    | cons z a=>rw[e2]at k1;cases k1;exact bV _ (aJ ..)
  exact⟨fun z=>by rw[z]at hm;exact absurd hm N5,fun z=>by rw[z]at hm;exact absurd hm N5⟩
 cases t with
 | is x=>
  rcases (show Qo x from h) with rfl | hx
  .rw[show qi (.is (aa ""))=[48] from rfl,qC _ _ N5]
   exact⟨(by decide:[48]≠[101,97,99,104]),(by decide:[48]≠[114,105,115,101])⟩
  .have e:qi (.is x)=cd x:=PN (Sd hx)
   rw[e,qC _ _ (qM hx rfl)];exact jle hx
 | at_ r x d=>
  have:=key (m:=(ky (cd x) d++[93])++32 :: l) h.1;rwa [<- cJ,<- bq]at this
def jad(hq:q≠32)(h:q ∉ a):OC [32,q,61,32] (a++32 :: q :: 61 :: 32 :: b)=(a,b):=by unfold OC;rw[JA hq h,show kZ [32,q,61,32] (32 :: q :: 61 :: 32 :: b)=some ([],b) from YY (s:=[q,61,32])];simp
def jd2{t:Tm}(h:Q8 t)(l:List Nat):qh (qi t++32 :: 62 :: 61 :: 32 :: l)=match JK l with | none=>none | some u=>some (.least t u.1 u.2):=by obtain⟨n1,n2⟩:=jfk h (62 :: 61 :: 32 :: l);unfold qh;rw[PN n1,PN n2];unfold zg;rw[jad N5 (jdK h).2];dsimp only;rw[jbo h]
def jfp{aT:Str}(hx:Qo x)(hd:QB d)(hy:Qo y)(he:QB e)(hr:j5 (cd r)=true)(hw:aT=aa ">="\/aT=aa "<="){l:List Nat}(hl:60 ∉ l):
  qh (101 :: 97 :: 99 :: 104 :: 32 :: (qK x d y e r++32 :: (cd aT++32 :: l)))=match YD l with | none=>none | some b=>some (.each x d y e r aT b.1 b.2):=by
 have e0:OC [32] (101 :: 97 :: 99 :: 104 :: 32 :: (qK x d y e r++32 :: (cd aT++32 :: l)))=([101,97,99,104],qK x d y e r++32 :: (cd aT++32 :: l)):=qC [101,97,99,104] _ N5
 have hp:=jiF (d:=d) (e:=e) hx hy hr
 have ew:RB (qK x d y e r++32 :: (cd aT++32 :: l))=aT:=by
  unfold RB;rcases hw with rfl | rfl
  .rw[jcK (c:=60) N5 (fun z=>(aL.mp z).elim hp.1 fun z=>hl (by simpa[show cd (aa ">=")=[62,61] from rfl]using z))]
   rfl
  .rw[show 32 :: (cd (aa "<=")++32 :: l)=32 :: 60 :: 61 :: 32 :: l from rfl,JA N5 hp.1,show kZ [32,60,61,32] (32 :: 60 :: 61 :: 32 :: l)=some ([],l) from YY (s:=[60,61,32])]
   rfl
 have e1:OC (32 :: (cd aT++[32])) (qK x d y e r++32 :: (cd aT++32 :: l))=(qK x d y e r,l):=by
  rcases hw with rfl | rfl
  .exact jad N5 hp.2
  .exact jad N5 hp.1
 unfold qh
 rw[e0]
 dsimp only
 rw[PP rfl]
 unfold jed
 rw[ew,e1]
 dsimp only
 rw[jaI hx hd hy he hr]
def jeO(l:List Nat):qh (114 :: 105 :: 115 :: 101 :: 32 :: l)=SH l:=by unfold qh;rw[show OC [32] (114 :: 105 :: 115 :: 101 :: 32 :: l)=([114,105,115,101],l) from qC [114,105,115,101] l N5];dsimp only;rw[PN N5,PP rfl]
def JF{C:Cl}(h:Qh C):qh (yl C)=some C:=by
 cases C with
 | least a b c=>
  obtain⟨h1,h2,h3⟩:=h;rw[show yl (.least a b c)=qi a++32 :: 62 :: 61 :: 32 :: zr b c from rfl,jd2 h1,KD h2 h3]
 | rise x d y e r=>
  obtain⟨h1,h2,h3,h4,h5⟩:=h;rw[show yl (.rise x d y e r)=114 :: 105 :: 115 :: 101 :: 32 :: qK x d y e r from rfl,jeO];unfold SH;rw[jaI h1 h2 h3 h4 h5]
 | each x d y e r aT b c=>
  obtain⟨⟨h1,h2,h3,h4,h5⟩,h6,h7,h8⟩:=h;rw[show yl (.each x d y e r aT b c)=101 :: 97 :: 99 :: 104 :: 32 :: (qK x d y e r++32 :: (cd aT++32 :: yK b c)) from rfl,jfp h1 h2 h3 h4 h5 h6 (jiH h7).1,jfA h7 h8]
end LW
namespace L2
open PySem PySem.Spec PyProof.Rows
structure Rc(h0:ak)(H:Hp)(cls:ae)(e:ac)(h:ak):Prop where
 he:H e=none
 ne:h0.get? e=none
 tr:∃oe vs T oT ts a0,h.get? e=some oe/\oe.cls=cls/\oe.data=.fields vs/\vs[0]?=some a0/\vs[1]?=some (.ref T)/\T≠e/\h.get? T=some oT/\oT.data=.fields ts/\ts[3]?=some .none/\H T=none/\h0.get? T=none
structure Qa(fs:List ac)(h0:ak)(H:Hp)(h h':ak):Prop where
 keep:∀b o,h.get? b=some o->b ∉ fs->(H b≠none\/∃u,h0.get? b=some u)->h'.get? b=some o
 slot:∀b o,h.get? b=some o->b∈fs->∃sl,h'.get? b=some { cls:=o.cls,dict:=o.dict,data:=o.data,slots:=sl }
theorem KR{h base:ak}:∀{l:List Env},h.FunFrames base l->∀b∈No l,∃o,h.get? b=some o/\∀vs:Array ae,o.data≠.fields vs
 | [],_,b,hb=>by cases hb
 | Ec :: l,hf,b,hb=>by
  obtain⟨_,⟨L,o,e1,_,e3,e4⟩,hr⟩:=hf;unfold No at hb;rw[fF,e1]at hb;rcases aA.mp hb with rfl | hb
  .exact⟨o,e3,e4⟩
  .exact KR hr b hb
theorem qq{h base B:ak}:∀{l:List Env},h.FunFrames base l->(∀b∈No l,B.get? b=none)->h.FunFrames B l
 | [],_,_=>trivial
 | Ec :: l,hf,hB=>by
  obtain⟨k,⟨L,o,e1,_,e3,e4⟩,hr⟩:=hf;have hm:L∈No (Ec :: l):=by unfold No;rw[fF,e1];exact aJ
  refine⟨k,⟨L,o,e1,hB L hm,e3,e4⟩,qq hr fun b hb=>hB b ?_⟩;unfold No at hb |-;rw[fF,e1];exact aH _ hb
variable {M:dj}{A:aN}{E:ae->af->Prop}{s:af}{h0 h':ak}{e:ac}{H:Hp}{Q:Unit->af->Prop}
section
variable {base:ak}{Ec:Env}{iw:List Env}{L:ac}{cls:ae}
def ja9{B:ak}{l:List Env}{hs:List ac}{a0:ae}(he:H e=none)(ne:h0.get? e=none)(hB:B=f_ s.heap hs)(hl:∀b∈hs,H b=none/\(b∈No l\/h0.get? b=none))(bc:h'.FunFrames base l)(hH:∀b,s.heap.get? b=none->H b=none/\h0.get? b=none)(tw:h'.TracedW B e cls a0):Rc h0 H cls e h':=by
 obtain⟨oe,vs,T,oT,ts,t1,⟨t2,t3⟩,t4,t5,t6,t7,t8,t9,bW⟩:=tw;have hT:H T=none/\h0.get? T=none:=by
  rcases cu:s.heap.get? T with _ | o
  .exact hH T cu
  .by_cases hm:T∈hs
   .refine⟨(hl T hm).1,?_⟩
    rcases (hl T hm).2 with hf | hf
    .obtain⟨o',e1,e2⟩:=KR bc T hf
     rw[t8]at e1
     cases e1
     exact absurd t9 (e2 ts)
    .exact hf
   .rw[hB,Ei hs cu hm]at t6
    cases t6
 exact⟨he,ne,oe,vs,T,oT,ts,a0,t1,t2,t4,t3,t5,t7,t8,t9,bW,hT.1,hT.2⟩
def jak{B:ak}{l:List Env}{hs:List ac}(hB:B=f_ s.heap hs)(hl:∀b∈hs,b ∉ No l->H b=none/\h0.get? b=none)(st:B.StaysIn h')(bc:s.heap.FunFrames base l)
  (ks:∀b o,s.heap.get? b=some o->(∀vs:Array ae,o.data≠.fields vs)->∃sl,h'.get? b=some { cls:=o.cls,dict:=o.dict,data:=o.data,slots:=sl }):Qa (No l) h0 H s.heap h':=by
 refine⟨fun b o hb hf ho=>?_,fun b o hb hf=>?_⟩
 .by_cases hm:b∈hs
  .obtain⟨h1,h2⟩:=hl b hm hf
   rcases ho with ho | ⟨u,hu⟩
   .exact absurd h1 ho
   .rw[h2]at hu;cases hu
  .exact st b o (by rw[hB];exact Ei hs hb hm)
 .obtain⟨o',e1,e2⟩:=KR bc b hf
  rw[hb]at e1
  cases e1
  exact ks b o hb e2
def jfb(hA:A.frames=some (Ec :: iw))(bc:s.heap.FunFrames base (Ec :: iw))(hL:Ec.frame=some L)(hF:Rc h0 H cls e s.heap)(dh:∀b∈No (Ec :: iw),H b=none)(hH:∀b,s.heap.get? b=none->H b=none/\h0.get? b=none)
  (hQ:∀h',Qa (No (Ec :: iw)) h0 H s.heap h'->Rc h0 H cls e h'->h'.FunFrames base (Ec :: iw)->Q () { s with heap:=h' }) (hbs:∀b o,base.get? b=some o->b ∉ No (Ec :: iw)/\∃u,h0.get? b=some u):am M A (leaving Ec (.ref e)) Q E s:=by
 obtain⟨oe,vs,T,oT,ts,a0,t1,t2,t3,t4,t5,t6,t7,t8,t9,bW,cC⟩:=hF.tr
 have cN:∀b∈e :: T :: No (Ec :: iw),(f_ s.heap (e :: T :: No (Ec :: iw))).get? b=none:=fun b hb=>tD _ hb
 refine wpAny_leaving_nextW (base:=f_ s.heap (e :: T :: No (Ec :: iw))) (cls:=cls) (a0:=a0) hA (qq bc fun b hb=>cN b (aH _ (aH _ hb))) hL ⟨oe,vs,T,oT,ts,t1,⟨t2,t4⟩,t3,t5,cN T (aH _ aJ),t6,t7,t8,t9⟩ (fun b o hb=>tz _ hb) (cN e aJ) ?_
 rintro h' ⟨l1,l2,l3,l4⟩
 have eO:h'.FunFrames base (Ec :: iw):=qq l2 fun b hb=>by
  rcases hh:base.get? b with _ | o
  .rfl
  .exact absurd hb (hbs b o hh).1
 refine hQ h' (jak rfl (fun b hb hf=>?_) l1 bc l4) (ja9 (s:=s) (l:=Ec :: iw) hF.he hF.ne rfl (fun b hb=>?_) eO hH l3) eO
 .rcases aA.mp hb with rfl | hb
  .exact⟨hF.he,hF.ne⟩
  .rcases aA.mp hb with rfl | hb
   .exact⟨bW,cC⟩
   .exact absurd hb hf
 .rcases aA.mp hb with rfl | hb
  .exact⟨hF.he,.inr hF.ne⟩
  .rcases aA.mp hb with rfl | hb
   .exact⟨bW,.inr cC⟩
   .exact⟨dh b hb,.inl hb⟩
def jd1{oe:Obj}{vs:Array ae}{a0:ae}(hA:A.frames=some (Ec :: iw))(bc:s.heap.FunFrames base (Ec :: iw))(hL:Ec.frame=some L)(he:H e=none)(ne:h0.get? e=none)(ho:s.heap.get? e=some oe)(hc:oe.cls=cls)(hd:oe.data=.fields vs)(h1:vs[1]?=some .none)(ha:vs[0]?=some a0)(dh:∀b∈No (Ec :: iw),H b=none)(hH:∀b,s.heap.get? b=none->H b=none/\h0.get? b=none)
  (hQ:∀h',Qa (No (Ec :: iw)) h0 H s.heap h'->Rc h0 H cls e h'->h'.FunFrames base (Ec :: iw)->Q () { s with heap:=h' }) (hbs:∀b o,base.get? b=some o->b ∉ No (Ec :: iw)/\∃u,h0.get? b=some u):am M A (leaving Ec (.ref e)) Q E s:=by
 subst hc
 have cN:∀b∈e :: No (Ec :: iw),(f_ s.heap (e :: No (Ec :: iw))).get? b=none:=fun b hb=>tD _ hb
 refine wpAny_leaving_firstW (base:=f_ s.heap (e :: No (Ec :: iw))) hA (qq bc fun b hb=>cN b (aH _ hb)) hL ho (fun b o hb=>tz _ hb) (cN e aJ) hd h1 ha ?_
 rintro h' ⟨l1,l2,l3,l4⟩
 have eO:h'.FunFrames base (Ec :: iw):=qq l2 fun b hb=>by
  rcases hh:base.get? b with _ | o
  .rfl
  .exact absurd hb (hbs b o hh).1
 refine hQ h' (jak rfl (fun b hb hf=>?_) l1 bc l4) (ja9 (s:=s) (l:=Ec :: iw) he ne rfl (fun b hb=>?_) eO hH l3) eO
 .rcases aA.mp hb with rfl | hb
  .exact⟨he,ne⟩
  .exact absurd hb hf
 .rcases aA.mp hb with rfl | hb
  .exact⟨he,.inr ne⟩
  .exact⟨dh b hb,.inl hb⟩
end
variable {P:aC}{w:ax}{h:ak}{o:HO}
def Ng.ex{a:ac}(x:Ng P w H h a o):∃u,h.get? a=some u:=by
 cases o with
 | lst xs=>obtain⟨_,_,_,_,e⟩:=x;exact⟨_,e⟩
 | tup xs=>obtain⟨_,_,_,⟨u,e,_⟩⟩:=x;exact⟨_,e⟩
 | dK ah=>obtain⟨_,_,_,_,o,_,_,e,_⟩:=x;exact⟨_,e⟩
 | dT ah=>obtain⟨_,_,_,_,o,_,_,e,_⟩:=x;exact⟨_,e⟩
 | set S n=>obtain⟨o,_,_,_,e,_⟩:=x;exact⟨_,e⟩
 | ins C dx fs=>obtain⟨_,_,_,e,_⟩:=x;exact⟨_,e⟩
 | own y=>exact x
 | xd fs=>obtain⟨_,⟨_,_,_,e,_⟩,_⟩:=x;exact⟨_,e⟩
 | rng lo hi=>obtain⟨_,_,_,e⟩:=x;exact⟨_,e⟩
 | frz o u=>exact⟨_,x.1⟩
 | tbl ps=>exact⟨_,x⟩
 | met f y=>exact⟨_,x⟩
 | ext φ=>exact x.2.1
def jbv{cX:List ae}(k:∀b o,h.get? b=some o->h'.get? b=some o):∀{l:List ae},pJ h cX l->pJ h' cX l:=by
 intro l t;induction t with
 | base=>exact .base
 | own h1 h2 h3 _ ih=>exact .own (k _ _ h1) (h2.keeps k) h3 ih
def valB:List ae:=[.type "ValueError",.type "Exception",.type "BaseException",.type "object"]
section
variable {base:ak}{Ec:Env}{iw:List Env}{L:ac}{cls:ae}
def jht(hA:A.frames=some (Ec :: iw))(bc:s.heap.FunFrames base (Ec :: iw))(hL:Ec.frame=some L)(hF:Rc h0 H cls e s.heap)(dh:∀b∈No (Ec :: iw),H b=none)(hH:∀b,s.heap.get? b=none->H b=none/\h0.get? b=none)
  (hQ:∀h',Qa (No (Ec :: iw)) h0 H s.heap h'->Rc h0 H cls e h'->h'.FunFrames base (Ec :: iw)->Q () { s with heap:=h' }) (hbs:∀b o,base.get? b=some o->b ∉ No (Ec :: iw)/\∃u,h0.get? b=some u) :
  am M A (fY (.ref e) Ec) (fun _ s2=>am M A (iS (.ref e) none) Q E s2) E s:=by
 obtain⟨oe,vs,T,oT,ts,a0,t1,t2,t3,t4,t5,t6,t7,t8,t9,bW,cC⟩:=hF.tr
 have cN:∀b∈e :: T :: No (Ec :: iw),(f_ s.heap (e :: T :: No (Ec :: iw))).get? b=none:=fun b hb=>tD _ hb
 refine MI (base:=f_ s.heap (e :: T :: No (Ec :: iw))) (cls:=cls) (a0:=a0) hA (qq bc fun b hb=>cN b (aH _ (aH _ hb))) hL ⟨oe,vs,T,oT,ts,t1,⟨t2,t4⟩,t3,t5,cN T (aH _ aJ),t6,t7,t8,t9⟩ (fun b o hb=>tz _ hb) (cN e aJ) ?_
 rintro h1 ⟨k1,k2,k3,k4⟩
 refine DM k1 k2 k3 fun h' l1 l2 l3 l5=>?_
 have l4:∀b o,s.heap.get? b=some o->(∀vs:Array ae,o.data≠.fields vs)->∃sl,h'.get? b=some { cls:=o.cls,dict:=o.dict,data:=o.data,slots:=sl }:=fun b o hb hn=>by obtain⟨sl,q⟩:=k4 b o hb hn;exact⟨sl,l5 b _ q hn⟩
 have eO:h'.FunFrames base (Ec :: iw):=qq l2 fun b hb=>by
  rcases hh:base.get? b with _ | o
  .rfl
  .exact absurd hb (hbs b o hh).1
 refine hQ h' (jak rfl (fun b hb hf=>?_) l1 bc l4) (ja9 (s:=s) (l:=Ec :: iw) hF.he hF.ne rfl (fun b hb=>?_) eO hH l3) eO
 .rcases aA.mp hb with rfl | hb
  .exact⟨hF.he,hF.ne⟩
  .rcases aA.mp hb with rfl | hb
   .exact⟨bW,cC⟩
   .exact absurd hb hf
 .rcases aA.mp hb with rfl | hb
  .exact⟨hF.he,.inr hF.ne⟩
  .rcases aA.mp hb with rfl | hb
   .exact⟨bW,.inr cC⟩
   .exact⟨dh b hb,.inl hb⟩
def jfd(bc:s.heap.FunFrames base (Ec :: iw))(hF:Rc h0 H cls e s.heap)(dh:∀b∈No (Ec :: iw),H b=none)(hH:∀b,s.heap.get? b=none->H b=none/\h0.get? b=none)
  (hQ:∀h',Qa (No (Ec :: iw)) h0 H s.heap h'->Rc h0 H cls e h'->h'.FunFrames base (Ec :: iw)->Q () { s with heap:=h' }) (hbs:∀b o,base.get? b=some o->b ∉ No (Ec :: iw)/\∃u,h0.get? b=some u) :
  am M A (iS (.ref e) none) Q E s:=by
 obtain⟨oe,vs,T,oT,ts,a0,t1,t2,t3,t4,t5,t6,t7,t8,t9,bW,cC⟩:=hF.tr
 have cN:∀b∈e :: T :: No (Ec :: iw),(f_ s.heap (e :: T :: No (Ec :: iw))).get? b=none:=fun b hb=>tD _ hb
 refine DM (base:=f_ s.heap (e :: T :: No (Ec :: iw))) (l:=Ec :: iw) (cls:=cls) (a0:=a0) (fl:=.none) (fun b o hb=>tz _ hb) (qq bc fun b hb=>cN b (aH _ (aH _ hb))) ⟨oe,vs,T,oT,ts,t1,⟨t2,t4⟩,t3,t5,cN T (aH _ aJ),t6,t7,t8,t9⟩ fun h' l1 l2 l3 l5=>?_
 have l4:∀b o,s.heap.get? b=some o->(∀vs:Array ae,o.data≠.fields vs)->∃sl,h'.get? b=some { cls:=o.cls,dict:=o.dict,data:=o.data,slots:=sl }:=fun b o hb hn=>⟨o.slots,l5 b _ hb hn⟩
 have eO:h'.FunFrames base (Ec :: iw):=qq l2 fun b hb=>by
  rcases hh:base.get? b with _ | o
  .rfl
  .exact absurd hb (hbs b o hh).1
 refine hQ h' (jak rfl (fun b hb hf=>?_) l1 bc l4) (ja9 (s:=s) (l:=Ec :: iw) hF.he hF.ne rfl (fun b hb=>?_) eO hH l3) eO
 .rcases aA.mp hb with rfl | hb
  .exact⟨hF.he,hF.ne⟩
  .rcases aA.mp hb with rfl | hb
   .exact⟨bW,cC⟩
   .exact absurd hb hf
 .rcases aA.mp hb with rfl | hb
  .exact⟨hF.he,.inr hF.ne⟩
  .rcases aA.mp hb with rfl | hb
   .exact⟨bW,.inr cC⟩
   .exact⟨dh b hb,.inl hb⟩
end
variable {h1:ak}
def Un.left{fs:List ac}{H':Hp}{h2:ak}{P:aC}{w:ax}(u:Un fs [] H H' h h1)(l:Qa fs h H' h1 h2):Un fs [] H H' h h2 where
 keep:=fun b o h1 h2 h3 h4=>l.keep b o (u.keep b o h1 h2 h3 h4) h3 (.inr ⟨o,h1⟩)
 slot:=fun b o h1 h2 h3 h4=>by obtain⟨sl,h5⟩:=u.slot b o h1 h2 h3 h4;obtain⟨dA,h6⟩:=l.slot b _ h5 h3;exact⟨dA,h6⟩
 free:=u.free
 there:=fun b o h1 h2=>by
  obtain⟨o',h5⟩:=u.there b o h1 h2;by_cases hm:b∈fs
  .obtain⟨dA,h6⟩:=l.slot b _ h5 hm
   exact⟨_,h6⟩
  .exact⟨o',l.keep b o' h5 hm (.inr ⟨o,h1⟩)⟩
 tups:=u.tups
 frzs:=u.frzs
 tbls:=u.tbls
 stay:=fun b o xs q h1 h3 h4=>l.keep b o (u.stay b o xs q h1 h3 h4) h3 (.inr ⟨o,h1⟩)
def P6.left{fs:List ac}{h2:ak}(k:P6 P w H h1)(ff:∀b∈fs,H b=none)(l:Qa fs h0 H h1 h2):P6 P w H h2:=fun a o ho=>by
 refine (k a o ho).stay (fun b u lx q=>?_) (fun _ q=>q) fun _ _ q=>q
 have aR:H b≠none:=by
  rcases lx with rfl | lx
  .rw[ho];simp
  .rw[lx];simp
 exact l.keep b u q (fun hm=>aR (ff b hm)) (.inl aR)
def Un.track{fs:List ac}{H':Hp}(u:Un fs [] H H' h h1)(he:H' e=none)(hn:h.get? e=none):Un fs [] H (upd H' e o) h h1 where
 keep:=u.keep
 slot:=u.slot
 free:=fun b ob h1 h2 h3=>by rw[jq fun z=>by rw[z,hn]at h1;cases h1];exact u.free b ob h1 h2 h3
 there:=u.there
 tups:=fun b xs q=>by have:=u.tups b xs q;rw[jq fun z=>by rw[z,he]at this;cases this];exact this
 frzs:=fun b ob xs q=>by have:=u.frzs b ob xs q;rw[jq fun z=>by rw[z,he]at this;cases this];exact this
 tbls:=fun b ps q=>by obtain⟨m,this⟩:=u.tbls b ps q;exact⟨m,by rw[jq fun z=>by rw[z,he]at this;cases this];exact this⟩
 stay:=u.stay
def P6.track(k:P6 P w H h)(he:H e=none)(ho:Ng P w (upd H e o) h e o):P6 P w (upd H e o) h:=fun a u hu=>by
 by_cases z:a=e
 .subst z
  rw[jc]at hu
  cases hu
  exact ho
 .rw[jq z]at hu
  refine (k a u hu).stay (fun b v _ q=>q) (fun b q=>?_) fun b xs q=>?_
  .rw[jq fun z=>by rw[z,he]at q;cases q];exact q
  .rw[jq fun z=>by rw[z,he]at q;cases q];exact q
abbrev Cx.hush(X:Cx)(e:ac):Cx:={ X with A:=X.A.mark (some (.ref e)),calm:=false,xe:=fun _ _=>False }
section
variable {X:Cx}{ad:List (ac×Obj)}{σ:St}
def xJ.hush(I:xJ X ad σ H s)(e:ac):xJ (X.hush e) ad σ H s:=
 ⟨⟨I.ok.mod,I.ok.kind,I.ok.glob,I.ok.blt,I.ok.above,I.ok.inj,I.ok.has,I.ok.cab,fun z=>(by cases z),I.ok.frames,I.ok.stk,I.ok.exf,I.ok.bs,I.ok.bsz,I.ok.noex,I.ok.exfs,I.ok.funs,I.ok.frf⟩,I.os,I.bare,I.base,I.loc,I.cell,I.free,I.freeC,I.pin,I.hok,I.len⟩
def xJ.unhush(ok:X.Ok)(I:xJ (X.hush e) ad σ H s):xJ X ad σ H s:=
 ⟨ok,I.os,I.bare,I.base,I.loc,I.cell,I.free,I.freeC,I.pin,I.hok,I.len⟩
def jal{i:Nat}{x:Str}{v:V}{x5:Pos}(I:xJ X ad σ H s)(hN:X.N.Nodup)(hi:X.N[i]?=some x)(hx:X.Ec.scope.names.lookup x=some .local)
  (h:∀s',xJ X ad (σ.set i none) H s'->Q () s'):am M A (do bindName X.Ec x .none;MS X.Ec x x5) Q E s:=by
 have lu:(X.Ec.scope.kind == .class || (X.Ec.scope.kind == .module && X.Ec.locals != X.Ec.globals))=false:=by rw[I.ok.kind];rfl
 refine aq (wpAny_bindName (YS (v:=.non) (u:=.none) I hN hi (.inl hx) rfl (fun s1 I1=>?_) (.inr hx)))
 unfold MS
 refine wpAny_onRaise ?_
 obtain⟨m,hn,hl⟩:=id I1.loc
 have oY:i < σ.length:=by rw[I.len];exact (dY.mp hi).1
 obtain⟨u,_,q⟩:=hl i x .non hi (Am oY) (.inl hx)
 have hm:∃v,m x=some v:=by
  rcases q with⟨_,q⟩ | ⟨q,_⟩
  .exact⟨_,q⟩
  .have hk:X.Ec.kindOf x=some .local:=hx
   rcases q with q | q <;> (rw[hk]at q;cases q)
 obtain⟨v,hm⟩:=hm
 refine wpAny_unbindName_local hx hn hm lu fun h' u iH hs=>?_
 obtain⟨oL,_,_,BV,_⟩:=id hn
 have cne:=I1.cne
 refine h _ ⟨I1.ok,I1.os,I1.bare,⟨fun b o e n hb hx=>?_,fun b o e n hb hx=>?_,I1.base.free,fun b o e hx=>?_,I1.base.tups,I1.base.frzs,I1.base.tbls,fun b o xs q e hb hx=>(hs.2 b (bU (bY (aY e) I1.ok.above))).trans (I1.base.stay b o xs q e hb hx)⟩,⟨_,iH,fun j y v' e1 e2 e3=>?_⟩,fun y c e=>?_,I1.free,I1.freeC,fun p hp=>?_,fun b ob e=>?_,by simpa using I.len⟩
 .exact (hs.2 b (bU (bY (aY e) I1.ok.above))).trans (I1.base.keep b o e n hb hx)
 .obtain⟨sl,e1⟩:=I1.base.slot b o e n hb hx
  exact⟨sl,(hs.2 b (bU (bY (aY e) I1.ok.above))).trans e1⟩
 .obtain⟨o',e1⟩:=I1.base.there b o e hx
  exact⟨o',(hs.2 b (bU (bY (aY e) I1.ok.above))).trans e1⟩
 .by_cases hj:j=i
  .subst hj
   rw[Am oY]at e2
   cases e2
  .rw[An (cj hj)]at e2
   have gz:(σ.set i (some V.non))[j]?=some (some v'):=by rw[An (cj hj)];exact e2
   obtain⟨u',r',q⟩:=hl j y v' e1 gz e3
   refine⟨u',r',?_⟩
   rcases q with⟨k,e⟩ | ⟨k,c,e,z⟩
   .refine .inl ⟨k,?_⟩
    have:y≠x:=fun e=>hj (jaP hN e1 (e ▸ hi))
    simp[this,e]
   .exact .inr ⟨k,c,e,z.sameBut hs (cne y c e)⟩
 .obtain⟨w',z⟩:=I1.cell y c e
  exact⟨w',z.sameBut hs (cne y c e)⟩
 .obtain⟨e,n,ne,nf,d⟩:=I1.pin p hp
  exact⟨(hs.2 p.1 ne).trans e,n,ne,nf,d⟩
 .refine (I1.hok b ob e).stay (fun c w' hc q=>(hs.2 c ?_).trans q) (fun _ q=>q) fun _ _ q=>q
  rintro rfl
  rcases hc with rfl | hc
  .rw[I1.free]at e;cases e
  .rw[I1.free]at hc;cases hc
end
def jkH{X:Cx}{CX:RH}{k:Nat}{f:ac}{fd:aE}{ps:List Str}{sp:Sp}{cb:List V}{ds:List ae}{E:XK}{ad:List (ac×Obj)}{σ:St}{Q:VK}{us:List ae}{vs:List V}(F:MT X.prog X.w X.K X.mg X.base CX k f fd ps sp)(hr:Np k X.A)(hb:Nr X.K fd ps ds)(hd:Nb cb ds)
  (I:xJ X ad σ H s) (r:Nb vs us) (h:sp (vs++cb) H Q E):am (au X.prog X.w) X.A (call (.ref f) us) (EP X ad σ Q) (fun e s'=>CX X.stack H s E e s') s:=by
 have r2:Nb (vs++cb) (us++ds):=r.append hd
 have hl:(us++ds).length=ps.length:=by rw[<- r2.length];exact F.len _ _ _ _ h
 refine lP (lS (F.run X.A X.stack s H ⟨us,[]⟩ (us++ds) (vs++cb) Q E hr I.env0 (hb s us I.kIn hl) r2 h) fun r s' hq=>?_)
 cases r with
 | error e=>exact hq
 | ok fl=>
  cases fl with
  | ret u=>exact I.after hq
  | next=>exact db hq
  | brk=>exact db hq
  | cont=>exact db hq
def OK.gone(D:OK)(i:Nat):OK:={ nx:=fun σ H=>D.nx (σ.set i none) H,rt:=D.rt,bk:=fun σ H=>D.bk (σ.set i none) H,ct:=fun σ H=>D.ct (σ.set i none) H }
end L2
namespace PySem.W
open PySem PySem.Spec PySem.Calls PyProof.Rows Builtin Builtin.ObjectAttr Builtin.Getset_descriptor
section
variable {prog:aC}{w:ax}{A:aN}{E:ae->af->Prop}{h:ak}{g:Array nN}{d:Drawn}{t:Nat}{os:tN}{a C:ac}{o:Obj}{K:Frag}
def jlH{M:dj}(hx:h.get? a=some o)(hc:o.cls=.ref C):Looks M h (sU (.ref a)) (.ref C):=hc ▸ (Looks.ld hx).andThen .now
structure XCls(K:Frag)(C:ac):Prop where
 cl:(clsIn K C).isSome=true
 ga:findIn K (.ref C) "__getattribute__" = some (some (.builtin "BaseException.__getattribute__"))
 gt:findIn K (.ref C) "__getattr__" = some none
 cc:findIn K (.ref C) "__class__" = some (some (.builtin "object.__class__"))
 ob:mroIn K C (.type "object")=some true
 be:mroIn K C (.type "BaseException")=some true
def jl7{R:tM->af->Prop}(Z:XCls K C)(X:K.In h)(hx:h.get? a=some o)(hc:o.cls=.ref C)(hq:R (.ok (.ret (.ref C))) ⟨h,g,d,t,os⟩):
  ie (au prog w) A (.call (.builtin "getset_descriptor.__get__") ⟨[.builtin "object.__class__",.ref a,.ref C],[]⟩) R ⟨h,g,d,t,os⟩:=by
 have L0:=jlH (M:=au prog w) hx hc
 have L1:=Eg (M:=au prog w) X Z.ob
 refine nB KF.slot_gs.plain KF.entry_gs (KF.slot_gs.check _ _ _ _ _ _ _ _ Em (KF.args_gs _ _ _) ?_)
 unfold Builtin.«getset_descriptor.__get__» descrGet
 rw[dga_obj]
 refine aq (aO ?_)
 unfold descrGetter descrCheckInstance descrNameAndClass s_
 simp only[KF.owner_class]
 repeat lk
 refine⟨y_ _ N3,codeAny_builtin KF.entry_class ?_⟩
 unfold Builtin.«object.__class__» shownTypeOf
 repeat lk
 exact hq
def jh6{tk:Tok}{Q:Fin->af->Prop}(Z:XCls K C)(X:K.In h)(hx:h.get? a=some o)(hc:o.cls=.ref C)(hq:Q (.done (.ret (.ref C))) ⟨h,g,d,t,os⟩):
  am (au prog w) A (Builtin.«object.__getattribute__» ⟨[.ref a,.str "__class__" tk],[]⟩) Q E ⟨h,g,d,t,os⟩:=by
 have hT5:(⟨h,g,d,t,os⟩:af).TypeIs (.builtin "object.__class__") "getset_descriptor":=Em
 have f5:=Em
 have f6:=F.slot_gs_get.lookup
 have f7:=F.slot_gs_set.lookup
 have L:=looks_findIn (M:=au prog w) X Z.cc
 repeat (any_goals (first | assumption | (with_reducible refine nn hx ?_;rw[hc]) | with_reducible refine L.at ?_ | wp_step))
 refine jl7 Z X hx hc ?_
 repeat (any_goals (first | assumption | wp_step))
def jdk{M:dj}{Bs:ae}{Q:Unit->af->Prop}(Z:XCls K C)(X:K.In h)(hx:h.get? a=some o)(hc:o.cls=.ref C)(hq:Q () ⟨h,g,d,t,os⟩):am M A (D5 "BaseException.__getattribute__" ⟨[.ref a,Bs],[]⟩) Q E ⟨h,g,d,t,os⟩:=by
 have hk:builtinKind "BaseException.__getattribute__" = some .slot:=by decide +kernel
 have HB:splitId "BaseException.__getattribute__" = some ("BaseException","__getattribute__"):=by decide +kernel
 have L:=Eg (M:=M) X Z.be;have ha:=F.args_bexc_ga (.ref a) Bs;simp only[D5,hk,HB];refine aq ?_
 .unfold s_
  repeat (first | (with_reducible refine nn hx ?_;rw[hc]) | with_reducible refine L.at ?_ | wp_step)
  exact hq
def jkn{tk:Tok}{R:tM->af->Prop}(Z:XCls K C)(X:K.In h)(hx:h.get? a=some o)(hc:o.cls=.ref C)(hq:R (.ok (.ret (.ref C))) ⟨h,g,d,t,os⟩):
  ie (au prog w) A (.call (.builtin "BaseException.__getattribute__") ⟨[.ref a,.str "__class__" tk],[]⟩) R ⟨h,g,d,t,os⟩:=
 nB x9.ga.plain Oi (jdk Z X hx hc (jh6 Z X hx hc hq))
def jnc{tk:Tok}{fill fV:Bool}{Q:ae->af->Prop}(Z:XCls K C)(X:K.In h)(hx:h.get? a=some o)(hc:o.cls=.ref C)(hq:Q (.ref C) ⟨h,g,d,t,os⟩):
  am (au prog w) A (getAttrBy (.ref a) (.str "__class__" tk) fill fV) Q E ⟨h,g,d,t,os⟩:=by
 have f3:=x9.ga.bind (.ref a)
 have Hq:(fV && xG (Value.builtin "BaseException.__getattribute__"))=false:=by cases fV <;> rfl
 have dJ:(Value.builtin "BaseException.__getattribute__" == Value.builtin "object.__getattribute__")=false:=by decide +kernel
 have iD:(xG (Value.ref C) && Value.builtin "BaseException.__getattribute__" == Value.builtin "object.__getattribute__")=false:=by rw[dJ];rfl
 have L1:=looks_findIn (M:=au prog w) X Z.ga
 have L2:=looks_findIn (M:=au prog w) X Z.gt
 repeat (any_goals (first | assumption | (with_reducible refine nn hx ?_;rw[hc]) | with_reducible refine L1.at ?_ | with_reducible refine L2.at ?_ | wp_step))
 refine jkn Z X hx hc ?_
 repeat (any_goals (first | assumption | wp_step))
def jko{s:af}{Q:Option ae->af->Prop}(Z:XCls K C)(X:K.In s.heap)(hx:s.heap.get? a=some o)(hc:o.cls=.ref C)(hq:Q (some (.ref C)) { s with toks:=s.toks+1 }):
  am (au prog w) A (getAttr? (.ref a) "__class__") Q E s:=by
 obtain⟨hh,g,d,t,os⟩:=s
 unfold getAttr? getAttrBy?
 refine aq (wpAny_mkText (aq (DQ (jnc Z X hx hc ?_))))
 exact aO hq
def kitx_exc(Z:XCls K C):KitX K (.ref a) (.ref C) (fun h=>∃o,h.get? a=some o/\o.cls=.ref C) where
 ty:=fun _ _ _ ⟨o,hx,hc⟩=>jlH hx hc
 it:=fun _ _ X _=>by
  have fU:=Z.cl;unfold clsIn at fU;split at fU
  .rename_i c' d' LN dA ho
   intro A' Q' E' s' k q;unfold isType loadHead;exact aq (DO (k _ _ (X _ _ ho)) (aO q))
  .cases fU
 ne:=fun h tp dd Nc n sl X Hw=>by
  have fU:=Z.cl;refine Pu.mpr fun q=>?_
  have e:C=tp:=Value.ref.inj (beq_iff_eq.mp q);subst e;unfold clsIn at fU;split at fU
  .rename_i c' d' LN dA ho
   have z:=(X _ _ ho).symm.trans Hw
   cases z
  .cases fU
 ca:=fun X ⟨o,hx,hc⟩ k=>jko Z X hx hc k
end
end PySem.W
namespace L2
open PySem PySem.Spec PyProof.Rows
abbrev TJ:=St->Hp->Str->(Str->Hp->Prop)->Prop
structure QJ(X:Cx)(es:List aj)(t:TJ):Prop where
 h:∀(ad:List (ac×Obj)) (s:af) (σ:St) (H:Hp) (out:Str) (Q:Str->Hp->Prop),xJ X ad σ H s->t σ H out Q->Joins (au X.prog X.w) X.A X.xe (evalEach es X.Ec) out (fun o s'=>∃H',xJ X ad σ H' s'/\Q o H') s
def joj:TJ:=fun _ H out Q=>Q out H
def jgi(te:TE)(t:TJ):TJ:=fun σ H out Q=>te σ H fun x H1=>∃y,x=.str y/\(out++y).length<=aF/\t σ H1 (out++y) Q
variable {X:Cx}{te:TE}{x5:Pos}
section
def jeR:QJ X [] joj:=⟨fun ad s σ H out Q I h=>Joins_nil ⟨H,I,h⟩⟩
def yp{e:aj}{es:List aj}{t:TJ}(he:QE X e te)(ht:QJ X es t):QJ X (e :: es) (jgi te t):=⟨fun ad s σ H out Q I h=>by refine Joins_cons (Nn (he.h ad s σ H _ I h) fun v s1 hM=>?_);obtain⟨x,H1,I1,r,y,e1,hl,q⟩:=hM;subst e1;obtain⟨tk,rfl⟩:=r;exact⟨y,tk,rfl,hl,ht.h ad s1 σ H1 _ Q I1 q⟩⟩
def jnl(te:TE):TE:=fun σ H Q=>te σ H fun x H1=>∃y,x=.str y/\y.length<=aF/\Q (.str y) H1
def jfH{e:aj}(he:QE X e te):QE X (.FormattedValue e (-1) none x5) (jnl te):=⟨fun ad s σ H Q I h=>by refine MQ (Nn (he.h ad s σ H _ I h) fun v s1 hM=>?_);obtain⟨x,H1,I1,r,y,e1,hl,q⟩:=hM;subst e1;obtain⟨tk,rfl⟩:=r;exact wpAny_formatField_str ⟨.str y,H1,I1,⟨_,rfl⟩,q⟩ ⟨.str y,H1,I1.tok _,⟨_,rfl⟩,q⟩ hl⟩
def jlN(te:TE):TE:=fun σ H Q=>te σ H fun x H1=>∃i:Int,x=.int i/\i.natAbs < 2 ^ 100/\Q (.str (aa (nj i))) H1
def jh1{e:aj}(he:QE X e te):QE X (.FormattedValue e (-1) none x5) (jlN te):=⟨fun ad s σ H Q I h=>by
 refine MQ (Nn (he.h ad s σ H _ I h) fun v s1 hM=>?_);obtain⟨x,H1,I1,r,i,e1,hl,q⟩:=hM;subst e1;obtain⟨tk,rfl⟩:=r;refine wpAny_formatField_int ?_ ⟨.str _,H1,I1.tok _,⟨_,rfl⟩,q⟩;by_cases h0:i.natAbs=0
 .rw[h0];decide
 .exact bY ((EZ h0).mpr hl) N5⟩
def jnk(t:TJ):TE:=fun σ H Q=>t σ H bC fun o H1=>o.length<=aF/\Q (.str o) H1
def jao{v1 v2:aj}{qm:List aj}{t:TJ}(h:QJ X (v1 :: v2 :: qm) t):QE X (.JoinedStr (v1 :: v2 :: qm) x5) (jnk t):=⟨fun ad s σ H Q I hw=>by
 refine wpAny_JoinedStr ?_;have hh:=h.h ad s σ H bC _ I hw;have mono:∀(l:List aj) (aV:Str) (s:af) (Q Q':Str->af->Prop),(∀o s,Q o s->Q' o s)->Joins (au X.prog X.w) X.A X.xe (evalEach l X.Ec) aV Q s->Joins (au X.prog X.w) X.A X.xe (evalEach l X.Ec) aV Q' s:=by
  intro l;induction l with
  | nil=>intro aV s Q Q' hq h;exact hq _ _ h
  | cons e r ih=>
   intro aV s Q Q' hq h;refine Joins_cons (Nn (show am _ _ (eval e X.Ec) _ _ _ from h) fun v s1 ⟨y,tk,e1,hl,q⟩=>⟨y,tk,e1,hl,ih _ _ _ _ hq q⟩)
 refine mono _ _ _ _ _ (fun o s' ⟨H',I',hl,q⟩=>⟨hl,.str o,H',I'.tok _,⟨_,rfl⟩,q⟩) hh⟩
end
variable {x:Str}{ps:List Str}{sp:Sp}
theorem jS{k k':Nat}{e:aj}{es:List aj}{t:TA}{p:Pos}(h1:Fn X.prog X.w X.K X.mg X.base k x ps sp)(h2:Np k' X.A)(h3:QA X (e :: es) t)(h4:k<=k':=by omega)(h5:Gl X x:=by rfl)(h6:(x == aa "__debug__")=false:=by decide)(h7:List.all (e :: es) qD=true:=by rfl):QE X (Expr.Call (Expr.Name x p) (e :: es) [] x5) (zM sp [] E0 t):=
 ⟨@jlU _ _ _ _ _ _ _ _ _ _ _ h1 h2 h3.h h4 h5 h6 h7⟩
variable {M:dj}{A:aN}{nm q:Str}{C N:ac}{bm:List ae}{hdct ab:Bool}{sn:List Str}{col:Option Bool}{dd:Option ac}{k0 k1 k2 k3 k5:Option ae}{newId:String}
def jba{E:ae->af->Prop}{bs:List ae}{sub:List ae}
  {Bo q':Str} {C' N':ac} {CW sB:List ae} {Ca:Bool} {AL:List Str} {uB:List ae} {CZ:Bool} {CU:Option Bool} {fW:Option ac} {BI BG mz BE BD:Option ae} {Go:String} {h:ak} {g:Array nN} {d:Drawn} {t:Nat} {os:tN} {e:ac} {oe:Obj} {Q:Bool->af->Prop}
  (hC:h.get? C=some (nA nm q C N bs bm hdct sn sub ab col dd k0 k1 k2 k3 k5 newId)) (hD:h.get? C'=some (nA Bo q' C' N' CW sB Ca AL uB CZ CU fW BI BG mz BE BD Go)) (he:h.get? e=some oe) (hc:oe.cls=.ref C') (hb:bm.contains (.type "BaseException")=true) (b_:(Value.ref C' :: sB).contains (.ref C)=true)
  (q:Q true { heap:=h,gens:=g,drawn:=d,toks:=t,os:=os }):am M A (excMatches (.ref e) (.ref C)) Q E { heap:=h,gens:=g,drawn:=d,toks:=t,os:=os }:=by
 unfold excMatches
 refine aq ?_
 unfold s_
 refine aq (xB hC ?_)
 have e1:isSubtype (.type "type") (.type "tuple")=pure false:=by rw[isSubtype_type];rfl
 show am M A (isSubtype (.type "type") (.type "tuple")) _ E _
 rw[e1]
 refine aO ?_
 show am M A (pure [Value.ref C] >>= _) Q E _
 refine aq (aO ?_)
 refine aq ?_
 rw[pZ]
 refine aq (aq ?_)
 unfold isExcClass
 refine aq (ks_wpAny_isType_cls hC rfl ?_)
 refine xD hC ?_
 rw[show (Value.ref C :: bm).contains (.type "BaseException")=true by rw[Fk,hb,Pt]]
 refine aO ?_
 dsimp only
 rw[Pf]
 refine aO ?_
 refine aq (xB he ?_)
 refine aq ?_
 rw[pZ]
 refine aq (aq ?_)
 rw[hc]
 refine xD hD ?_
 rw[b_]
 refine aO ?_
 refine aO ?_
 exact aO q
variable {K:ao}{h:ak}
def jlj{bs:List ae}{sub:List ae}{base:ae}(X:K.In h)(hC:h.get? C=some (nA nm q C N bs bm hdct sn sub ab col dd k0 k1 k2 k3 k5 newId))(m:lU K C base=some true):(Value.ref C :: bm).contains base=true:=by
 unfold lU at m;obtain⟨cd,e1,e2⟩:=Option.bind_eq_some_iff.mp m;unfold W.clsIn at e1
 cases hl:eE C K with
 | none=>rw[hl]at e1;cases e1
 | some o=>
  rw[hl]at e1;have:=X _ _ hl;rw[hC]at this
  cases this
  cases e1
  split at e2
  .cases e2
  .injection e2
variable {s:af}{e:ac}{oe:Obj}
def jdu{E:ae->af->Prop}{fI:ac}{name:Str}{args:List ae}{Q:Option ae->af->Prop}(X:K.In s.heap)(he:s.heap.get? e=some oe)(hc:oe.cls=.ref C)(hi:bA K (.ref C) name=some (some (.ref fI)))(hf:nE K (.ref fI)=some (.type "function"))
  (h:am M A (call (.ref fI) (.ref e :: args)) (fun v=>Q (some v)) E s):am M A (xL (.ref e) name args) Q E s:=by
 unfold xL
 refine aq ?_
 unfold specialOf
 refine aq (xB he ?_)
 rw[hc]
 refine NB X hi A _ E s (fun _ _ e=>e) ?_
 dsimp only
 refine ic ?_
 refine aq (W.bind_fn X (.ref e) hf A _ E s (fun _ _ e=>e) ?_)
 dsimp only
 refine aq ?_
 exact bz h (fun v s' q=>aO q) fun _ _ z=>z
variable {w:ax}{cX:List ae}
def ZZ{prog:aC}{E:ae->af->Prop}{g:Array nN}{d:Drawn}{t:Nat}{os:tN}{bs:List ae}{sub:List ae}{B Bn uN initId uW:String}{wC:List ae}
  (f1:x_ Bn newId uW wC) (f2:cX.contains (.type Bn)=true) (f3:x_ B uN initId cX) (ot:pJ h cX bm) {qm:List ae} {fI:ac} {Q:PySem.Fin->af->Prop}
  (hC:h.get? C=some (nA nm q C N bs bm hdct sn sub ab col dd k0 k1 k2 k3 k5 newId))
  (hz:qm.length<=aF) (hq:∀a,(Code.builtin newId a).quiet=true)
  (hi:∀(h':ak) (e:ac),h.MadeExcOf h' e (.ref C) qm->am (au prog w) A (xL (.ref e) "__init__" qm) (fun r s'=>r=some .none/\Q (Fin.done (Flow.ret (.ref e))) s') E { heap:=h',gens:=g,drawn:=d,toks:=t,os:=os }) :
  am (au prog w) A (Builtin.«type.__call__» { pos:=.ref C :: qm }) Q E { heap:=h,gens:=g,drawn:=d,toks:=t,os:=os }:=by
 unfold Builtin.«type.__call__»
 dsimp only
 rw[PN (show ¬(Value.ref C == Value.type "type")=true from fun z=>by cases z)]
 refine aq (wpAny_mroOf_exc hC ?_)
 rw[PN NZ]
 refine aq (wpAny_madeBy_exc hC ?_)
 dsimp only
 refine aq (aO ?_)
 refine aq (ic ?_)
 refine lP (codeAny_call_builtin_code (hq _) (wpAny_check_new_subU f1 f2 ot hC (codeAny_exc_new_subU f1 f2 f3 ot hC ?_ hz)))
 dsimp only
 have me:h.MadeExcOf ((h.push { cls:=.type "tuple",data:=.seq qm.toArray }).push { cls:=.ref C,data:=.fields #[.ref h.objs.size,.none,.none,.none,.bool false,.none] }) (h.objs.size+1) (.ref C) qm:=⟨fun b o e=>bu _ (bu _ e),by simp[Ey],h.objs.size,Ex (by simp[ak.push]) rfl,by simp[Ey],bu _ (Ex rfl rfl)⟩
 obtain⟨t9,e1,-,-⟩:=me.there
 have Lc:=me.keeps _ _ hC
 have cM:=hi _ _ me
 generalize (h.push { cls:=.type "tuple",data:=.seq qm.toArray }).push { cls:=.ref C,data:=.fields #[.ref h.objs.size,.none,.none,.none,.bool false,.none] }=h2 at *
 refine aq ?_
 unfold s_
 refine aq (xB e1 ?_)
 refine xD Lc ?_
 rw[show (Value.ref C :: bm).contains (.ref C)=true by rw[Fk];simp]
 rw[PN N5]
 refine aq (ic ?_)
 refine bz cM (fun r s' hr=>?_) fun _ _ z=>z
 obtain⟨rfl,q⟩:=hr
 dsimp only
 rw[PN N5]
 exact aO q
def NM(h h':ak):Prop:=∀b o,h.get? b=some o->∃o',h'.get? b=some o'/\o'.dict=o.dict
def NM.refl(h:ak):NM h h:=fun b o e=>⟨o,e,rfl⟩
def NM.trans{a b c:ak}(x:NM a b)(y:NM b c):NM a c:=fun e o h=>by obtain⟨o1,h1,d1⟩:=x e o h;obtain⟨o2,h2,d2⟩:=y e o1 h1;exact⟨o2,h2,d2.trans d1⟩
inductive OD{α:Type}:Sem α->Prop where
 | pure (a:α):OD (.pure a)
 | raise (e:ae):OD (.raise e)
 | unsup (x:String):OD (.unsupported x)
 | rule (t:String) (k:Unit->Sem α) (h:OD (k ())):OD (.rule t k)
 | load (a:ac) (p:Option ae) (k:Obj->Sem α) (h:∀o,OD (k o)):OD (.load a p k)
 | update (a:ac) (p:Option ae) (f:Obj->Obj) (k:Unit->Sem α) (hf:∀o,(f o).dict=o.dict/\(o.data≠.freed->(f o).data≠.freed)) (h:OD (k ())):OD (.update a p f k)
 | alloc (o:Obj) (k:ac->Sem α) (h:∀a,OD (k a)):OD (.alloc o k)
 | stack (k:List (Code×Pos)->Sem α) (h:∀l,OD (k l)):OD (.stack k)
def OD.bind{α β:Type}{m:Sem α}{f:α->Sem β}(h:OD m)(hf:∀a,OD (f a)):OD (m >>= f):=by
 show OD (Sem.bind m f);induction h with
 | pure a=>exact hf a
 | raise e=>exact .raise e
 | unsup x=>exact .unsup x
 | rule t k _ ih=>exact .rule t _ ih
 | load a p k _ ih=>exact .load a p _ ih
 | update a p g k hg _ ih=>exact .update a p g _ hg ih
 | alloc o k _ ih=>exact .alloc o _ ih
 | stack k _ ih=>exact .stack _ ih
def Z3{a:ac}{f:Obj->Obj}(hf:∀o,(f o).dict=o.dict/\(o.data≠.freed->(f o).data≠.freed)):NM h (h.update a f):=fun b o e=>by
 by_cases z:a=b
 .subst z
  have nf:o.data≠.freed:=fun q=>by
   have:=(ak.get?_some_iff.mp e).2;obtain⟨_,_,od,_⟩:=o
   cases q
   cases this
  refine⟨f o,tQ f e ?_,(hf o).1⟩;have:=(hf o).2 nf;revert this;generalize f o=u;obtain⟨_,_,od,_⟩:=u;intro nf
  cases od <;> first | rfl | exact absurd rfl nf
 .exact⟨o,(pL _ _ z).trans e,rfl⟩
def jkv{α:Type}{Γ:PySem.Ctx}{t:Sem α}(ht:OD t):∀{Q:α->Pos->af->Prop} {E:ae->Pos->af->Prop} {p:Pos} {s:af},ij M Γ t Q E p s->ij M Γ t (fun a p' s'=>Q a p' s'/\NM s.heap s'.heap) E p s:=by
 induction ht with
 | pure a=>intro Q E p s h;rw[ij]at h |-;exact⟨h,.refl _⟩
 | raise e=>intro Q E p s h;rw[ij]at h |-;exact h
 | unsup x=>intro Q E p s h;rw[ij]at h;exact h.elim
 | rule t k _ ih=>intro Q E p s h;rw[ij]at h |-;exact ih h
 | load a q k _ ih=>intro Q E p s h;rw[ij]at h |-;obtain⟨o,e,h⟩:=h;exact⟨o,e,ih o h⟩
 | update a q f k hf _ ih=>
  intro Q E p s h;rw[ij]at h |-;obtain⟨e,h⟩:=h;refine⟨e,Sem.wp_mono M Γ _ (fun x p' s' hx=>⟨hx.1,(Z3 hf).trans hx.2⟩) (fun _ _ _ z=>z) _ _ (ih h)⟩
 | alloc o k _ ih=>
  intro Q E p s h;rw[ij]at h |-;exact Sem.wp_mono M Γ _ (fun x p' s' hx=>⟨hx.1,NM.trans (fun b u e=>⟨u,bu _ e,rfl⟩) hx.2⟩) (fun _ _ _ z=>z) _ _ (ih _ h)
 | stack k _ ih=>intro Q E p s h;rw[ij]at h |-;exact ih _ h
def yd{α:Type}{t:Sem α}{Q:α->af->Prop}{E:ae->af->Prop}(ht:OD t)(h:am M A t Q E s):am M A t (fun a s'=>Q a s'/\NM s.heap s'.heap) E s:=
 fun Γ p hΓ=>jkv ht (h Γ p hΓ)
def Jy(v:ae)(i:Nat):OD (field v i):=by
 unfold field fieldsOf;refine .bind ?_ fun x=>?_
 .cases v <;> first | exact .unsup _ | skip
  refine .bind (.load _ _ _ fun o=>.pure o) fun o=>?_
  cases o.data <;> first | exact .pure _ | exact .unsup _
 .cases x[i]? with
  | none=>exact .unsup _
  | some y=>exact .pure y
def jaY(f:Array ae->Array ae)(o:Obj):(tP f o).dict=o.dict/\(o.data≠.freed->(tP f o).data≠.freed):=by
 obtain⟨c,d,od,sl⟩:=o
 cases od <;> exact⟨rfl,fun h=>by first | exact h | (intro z;cases z)⟩
def OD.ite{α:Type}{c:Prop}[Decidable c]{a b:Sem α}(h1:OD a)(h2:OD b):OD (if c then a else b):=by split <;> assumption
def yU(v:ae)(i:Nat)(x:ae):OD (sW v i x):=by
 unfold sW updateField
 cases v <;> first | exact .unsup _ | skip
 refine .bind (.load _ _ _ fun o=>.pure o) fun o=>?_
 cases o.data <;> first | exact .unsup _ | skip
 exact .ite (.update _ _ _ _ (jaY _) (.pure _)) (.unsup _)
theorem Jf:∀l:List Env,OD (readyFrames l)
 | []=>.pure ()
 | Ec :: iw=>by
  unfold readyFrames
  cases Ec.frame with
  | none=>exact .unsup _
  | some f=>
   refine .bind (.load _ _ _ fun o=>.pure o) fun o=>?_
   split
   .exact .pure ()
   .refine .bind ?_ fun im=>.bind ?_ fun bk=>.bind (.update _ _ _ _ (fun o=>⟨rfl,fun h=>h⟩) (.pure ())) fun _=>Jf iw
    .unfold behindIsImport
     split
     .exact .pure _
     .split
      .exact .pure _
      .exact .bind (Jy _ _) fun _=>.pure _
    .unfold keptBack
     split
     .split
      .exact .pure _
      .unfold underTheClaimsCaller
       exact .bind (.bind (.stack _ fun l=>.pure l) fun _=>.pure _) fun _=>.pure _
     .exact .pure _
def jcp(Ec:Env):OD (xI Ec):=by
 unfold xI frameEnvs;refine .bind (.bind (.stack _ fun l=>.pure l) fun _=>.pure _) fun l=>.bind ?_ fun x=>?_
 .unfold frameObject
  split
  .exact .pure _
  .exact .bind (Jf _) fun _=>.pure _
 .cases x <;> first | exact .pure _ | exact .unsup _
def yx(e:ae)(Ec:Env):OD (fY e Ec):=by
 unfold fY
 cases Ec.frame with
 | none=>exact .unsup _
 | some f=>
  refine .bind (Jy _ _) fun hd=>?_
  have tl:OD (do sW e 1 (<- Ol hd (<- xI Ec) .none (fq f) .none (<- entryPlaceOf f (hd != .none)))):=by
   refine .bind (jcp Ec) fun a=>.bind ?_ fun pl=>.bind ?_ fun b=>yU _ _ _
   .unfold entryPlaceOf
    refine .bind (.stack _ fun l=>.pure l) fun acts=>?_
    split <;> exact .pure _
   .unfold Ol newFields newObj
    refine .ite (.unsup _) ?_;exact .bind (.alloc _ _ fun a=>.pure a) fun a=>.pure _
  split
  .refine .bind (Jy _ _) fun x=>?_
   split
   .exact .pure _
   .exact .bind (yU _ _ _) fun _=>tl
  .exact tl
def zD(e:ae)(fr:Option ac):OD (iS e fr):=by
 unfold iS;refine .bind (Jy _ _) fun x=>?_
 split
 .exact yU _ _ _
 .exact .pure _
def Jx(Ec:Env)(e:ae):OD (leaving Ec e):=.bind (yx e Ec) fun _=>zD e none
structure P1(h0:ak)(H:Hp)(cls:ae)(dd:Option ac)(e:ac)(h:ak):Prop where
 fly:Rc h0 H cls e h
 dic:∃oe,h.get? e=some oe/\oe.dict=dd
variable {h':ak}{H:Hp}
def P1.stay{h0:ak}{cls:ae}(f:P1 h0 H cls dd e h)(g:Rc h0 H cls e h')(d:NM h h'):P1 h0 H cls dd e h':=by obtain⟨oe,e1,e2⟩:=f.dic;obtain⟨o',e3,e4⟩:=d e oe e1;exact⟨g,o',e3,e4.trans e2⟩
variable {base:ak}{vs:Array ae}
section
variable {E:ae->af->Prop}{h0:ak}{Ec:Env}{iw:List Env}{L:ac}{cls:ae}{Q:Unit->af->Prop}
def jd0(hA:A.frames=some (Ec :: iw))(bc:s.heap.FunFrames base (Ec :: iw))(hL:Ec.frame=some L)(hF:P1 h0 H cls dd e s.heap)(dh:∀b∈No (Ec :: iw),H b=none)(hH:∀b,s.heap.get? b=none->H b=none/\h0.get? b=none)
  (hQ:∀h',Qa (No (Ec :: iw)) h0 H s.heap h'->P1 h0 H cls dd e h'->h'.FunFrames base (Ec :: iw)->Q () { s with heap:=h' }) (hbs:∀b o,base.get? b=some o->b ∉ No (Ec :: iw)/\∃u,h0.get? b=some u):am M A (leaving Ec (.ref e)) Q E s:=by
 refine bz (yd (Jx Ec (.ref e)) (jfb (Q:=fun _ s'=>∃h',s'={ s with heap:=h' }/\Qa (No (Ec :: iw)) h0 H s.heap h'/\Rc h0 H cls e h'/\h'.FunFrames base (Ec :: iw)) hA bc hL hF.fly dh hH (fun h' l f r=>⟨h',rfl,l,f,r⟩) hbs)) (fun _ s' q=>?_) fun _ _ z=>z
 obtain⟨⟨h',rfl,l,f,r⟩,d⟩:=q
 exact hQ h' l (hF.stay f d) r
def jcY{a0:ae}(hA:A.frames=some (Ec :: iw))(bc:s.heap.FunFrames base (Ec :: iw))(hL:Ec.frame=some L)(he:H e=none)(ne:h0.get? e=none)(ho:s.heap.get? e=some oe)(hc:oe.cls=cls)(vV:oe.dict=dd)(hd:oe.data=.fields vs)(h1:vs[1]?=some .none)(ha:vs[0]?=some a0)(dh:∀b∈No (Ec :: iw),H b=none)(hH:∀b,s.heap.get? b=none->H b=none/\h0.get? b=none)
  (hQ:∀h',Qa (No (Ec :: iw)) h0 H s.heap h'->P1 h0 H cls dd e h'->h'.FunFrames base (Ec :: iw)->Q () { s with heap:=h' }) (hbs:∀b o,base.get? b=some o->b ∉ No (Ec :: iw)/\∃u,h0.get? b=some u):am M A (leaving Ec (.ref e)) Q E s:=by
 refine bz (yd (Jx Ec (.ref e)) (jd1 (Q:=fun _ s'=>∃h',s'={ s with heap:=h' }/\Qa (No (Ec :: iw)) h0 H s.heap h'/\Rc h0 H cls e h'/\h'.FunFrames base (Ec :: iw)) hA bc hL he ne ho hc hd h1 ha dh hH (fun h' l f r=>⟨h',rfl,l,f,r⟩) hbs)) (fun _ s' q=>?_) fun _ _ z=>z
 obtain⟨⟨h',rfl,l,f,r⟩,d⟩:=q
 obtain⟨o',e3,e4⟩:=d e oe ho
 exact hQ h' l ⟨f,o',e3,e4.trans vV⟩ r
def jfc(hA:A.frames=some (Ec :: iw))(bc:s.heap.FunFrames base (Ec :: iw))(hL:Ec.frame=some L)(hF:P1 h0 H cls dd e s.heap)(dh:∀b∈No (Ec :: iw),H b=none)(hH:∀b,s.heap.get? b=none->H b=none/\h0.get? b=none)
  (hQ:∀h',Qa (No (Ec :: iw)) h0 H s.heap h'->P1 h0 H cls dd e h'->h'.FunFrames base (Ec :: iw)->Q () { s with heap:=h' }) (hbs:∀b o,base.get? b=some o->b ∉ No (Ec :: iw)/\∃u,h0.get? b=some u) :
  am M A (fY (.ref e) Ec) (fun _ s2=>am M A (iS (.ref e) none) Q E s2) E s:=by
 have k:=jht (Q:=fun _ s'=>∃h',s'={ s with heap:=h' }/\Qa (No (Ec :: iw)) h0 H s.heap h'/\Rc h0 H cls e h'/\h'.FunFrames base (Ec :: iw)) (M:=M) (A:=A) (E:=E) hA bc hL hF.fly dh hH (fun h' l f r=>⟨h',rfl,l,f,r⟩) hbs
 refine bz (yd (yx (.ref e) Ec) k) (fun _ s2 q=>?_) fun _ _ z=>z
 obtain⟨q,d1⟩:=q
 refine bz (yd (zD (.ref e) none) q) (fun _ s' q=>?_) fun _ _ z=>z
 obtain⟨⟨h',rfl,l,f,r⟩,d⟩:=q
 exact hQ h' l (hF.stay f (d1.trans d)) r
def jd3(bc:s.heap.FunFrames base (Ec :: iw))(hF:P1 h0 H cls dd e s.heap)(dh:∀b∈No (Ec :: iw),H b=none)(hH:∀b,s.heap.get? b=none->H b=none/\h0.get? b=none)
  (hQ:∀h',Qa (No (Ec :: iw)) h0 H s.heap h'->P1 h0 H cls dd e h'->h'.FunFrames base (Ec :: iw)->Q () { s with heap:=h' }) (hbs:∀b o,base.get? b=some o->b ∉ No (Ec :: iw)/\∃u,h0.get? b=some u) :
  am M A (iS (.ref e) none) Q E s:=by
 refine bz (yd (zD (.ref e) none) (jfd (Q:=fun _ s'=>∃h',s'={ s with heap:=h' }/\Qa (No (Ec :: iw)) h0 H s.heap h'/\Rc h0 H cls e h'/\h'.FunFrames base (Ec :: iw)) bc hF.fly dh hH (fun h' l f r=>⟨h',rfl,l,f,r⟩) hbs)) (fun _ s' q=>?_) fun _ _ z=>z
 obtain⟨⟨h',rfl,l,f,r⟩,d⟩:=q
 exact hQ h' l (hF.stay f d) r
end
def PY(P:aC)(w:ax):RH:=fun iw H s E e s'=>∃ea cls dd H',e=.ref ea/\s'.os=s.os/\io s'.gens/\Un (No iw) [] H H' s.heap s'.heap/\P6 P w H' s'.heap/\P1 s.heap H' cls dd ea s'.heap/\E cls dd H'
variable {ad:List (ac×Obj)}{E:XK}
section
variable {σ:St}{cls:ae}
structure XD(X:Cx)(E:XK):Prop where
 Ec:X.stack=X.Ec :: X.iw
 fr:X.Ec.frame=some X.Ec.locals
 ex:X.ex=[]
 xe:X.xe=fun e s'=>am (au X.prog X.w) X.A (leaving X.Ec e) (fun _ dB=>PY X.prog X.w X.iw X.H₀ X.s₀ E e dB) (fun e' dB=>PY X.prog X.w X.iw X.H₀ X.s₀ E e' dB) s'
def XD.left(W:XD X E)(I:xJ X ad σ H s)(l:Qa (No (X.Ec :: X.iw)) X.s₀.heap H s.heap h')(f:P1 X.s₀.heap H cls dd e h')(hE:E cls dd H):PY X.prog X.w X.iw X.H₀ X.s₀ E (.ref e) { s with heap:=h' }:=by
 have hb:=I.base;rw[W.ex]at hb;have nL:∀b o,X.s₀.heap.get? b=some o->b ∉ No X.iw->b ∉ No (X.Ec :: X.iw):=fun b o e hn hm=>by
  unfold No at hm;rw[fF,W.fr]at hm;rcases aA.mp hm with rfl | hm
  .exact absurd (aY e) (Ad.mpr I.ok.above)
  .exact hn hm
 have Hg:∀b,b∈No X.iw->b∈No (X.Ec :: X.iw):=fun b hm=>by unfold No at hm |-;rw[fF,W.fr];exact aH _ hm
 have stk:=I.stkFree;rw[W.Ec]at stk;refine⟨e,cls,dd,H,rfl,I.os,I.bare,⟨fun b o h1 h2 h3 h4=>?_,fun b o h1 h2 h3 h4=>?_,fun b o h1 h2 h3=>hb.free b o h1 h2 h3,fun b o h1 h2=>?_,hb.tups,hb.frzs,hb.tbls,fun b o xs q h1 h3 h4=>l.keep b o (hb.stay b o xs q h1 h3 h4) (nL b o h1 h3) (.inr ⟨o,h1⟩)⟩,fun a o ho=>?_,f,hE⟩
 .exact l.keep b o (hb.keep b o h1 h2 h3 h4) (nL b o h1 h3) (.inr ⟨o,h1⟩)
 .obtain⟨sl,h5⟩:=hb.slot b o h1 h2 h3 h4
  obtain⟨dA,h6⟩:=l.slot b _ h5 (Hg b h3);exact⟨dA,h6⟩
 .obtain⟨o',h5⟩:=hb.there b o h1 h2
  by_cases hm:b∈No (X.Ec :: X.iw)
  .obtain⟨dA,h6⟩:=l.slot b _ h5 hm
   exact⟨_,h6⟩
  .exact⟨o',l.keep b o' h5 hm (.inr ⟨o,h1⟩)⟩
 .refine (I.hok a o ho).stay (fun b u lx q=>?_) (fun _ q=>q) fun _ _ q=>q
  have aR:H b≠none:=by
   rcases lx with rfl | lx
   .rw[ho];simp
   .rw[lx];simp
  exact l.keep b u q (fun hm=>aR (stk b hm)) (.inl aR)
def XD.hH(W:XD X E)(I:xJ X ad σ H s):∀b,s.heap.get? b=none->H b=none/\X.s₀.heap.get? b=none:=fun b hb=>by
 refine⟨?_,?_⟩
 .rcases hh:H b with _ | o
  .rfl
  .obtain⟨u,hu⟩:=(I.hok b o hh).ex
   rw[hu]at hb;cases hb
 .rcases hh:X.s₀.heap.get? b with _ | o
  .rfl
  .have eS:=I.base
   rw[W.ex]at eS;obtain⟨o',h5⟩:=eS.there b o hh NZ;rw[h5]at hb;cases hb
def XD.hbs(W:XD X E)(I:xJ X ad σ H s):∀b o,X.base.get? b=some o->b ∉ No (X.Ec :: X.iw)/\∃u,X.s₀.heap.get? b=some u:=fun b o hb=>by
 refine⟨fun hm=>?_,⟨o,(I.ok.bs b o hb).1⟩⟩;have hs:=I.stack;rw[W.Ec]at hs;have:∀{l:List Env},s.heap.FunFrames X.base l->b∈No l->False:=by
  intro l;induction l with
  | nil=>intro _ h;cases h
  | cons Ec l ih=>
   intro hf hm;obtain⟨_,⟨L,o',e1,e2,_,_⟩,hr⟩:=hf;unfold No at hm;rw[fF,e1]at hm;rcases aA.mp hm with rfl | hm
   .rw[e2]at hb;cases hb
   .exact ih hr hm
 exact this hs hm
def XD.next(W:XD X E)(I:xJ X ad σ H s)(F:P1 X.s₀.heap H cls dd e s.heap)(hE:E cls dd H):X.xe (.ref e) s:=by have stk:=I.stkFree;have hs:=I.stack;have hf:=I.ok.frames;rw[W.Ec]at stk hs hf;rw[W.xe];exact jd0 hf hs W.fr F stk (W.hH I) (fun h' l f _=>W.left I l f hE) (W.hbs I)
def XD.first(W:XD X E)(I:xJ X ad σ H s){a0:ae}(he:H e=none)(ne:X.s₀.heap.get? e=none)(ho:s.heap.get? e=some oe)(hc:oe.cls=cls)(vV:oe.dict=dd)(hd:oe.data=.fields vs)(h1:vs[1]?=some .none)(ha:vs[0]?=some a0)(hE:E cls dd H):X.xe (.ref e) s:=by have stk:=I.stkFree;have hs:=I.stack;have hf:=I.ok.frames;rw[W.Ec]at stk hs hf;rw[W.xe];exact jcY hf hs W.fr he ne ho hc vV hd h1 ha stk (W.hH I) (fun h' l f _=>W.left I l f hE) (W.hbs I)
def xJ.raisedD{s':af}{ev:ae}(I:xJ X ad σ H s)(h:PY X.prog X.w X.stack H s E ev s'):∃ea cls dd H',ev=.ref ea/\xJ X ad σ H' s'/\P1 s.heap H' cls dd ea s'.heap/\E cls dd H':=by obtain⟨ea,cls,dd,H',rfl,os,bare,un,hok,fly,hE⟩:=h;obtain⟨hh,g,d,t,uK⟩:=s';obtain rfl:uK=s.os:=os;exact⟨ea,cls,dd,H',rfl,I.call (h':=hh) (g':=g) (d':=d) (t':=t) (ch:=[]) un hok bare (fun b z=>absurd z NZ),fly,hE⟩
def P1.back{s':af}(W:XD X E)(I:xJ X ad σ H s){H':Hp}(F:P1 s.heap H' cls dd e s'.heap):P1 X.s₀.heap H' cls dd e s'.heap:=by obtain⟨oe,vs,T,oT,ts,a0,t1,t2,t3,t4,t5,t6,t7,t8,t9,bW,cC⟩:=F.fly.tr;exact⟨⟨F.fly.he,(W.hH I e F.fly.ne).2,oe,vs,T,oT,ts,a0,t1,t2,t3,t4,t5,t6,t7,t8,t9,bW,(W.hH I T cC).2⟩,F.dic⟩
def XD.passes(W:XD X E):ym (PY X.prog X.w) X E:=fun ad σ H s ev s' I h=>by obtain⟨ea,cls,dd,H',rfl,I',F,hE⟩:=I.raisedD h;exact W.next I' (P1.back W I F) hE
end
structure NI(P:aC)(w:ax)(K:ao)(mg:Str->Option ae)(base:ak)(k:Nat)(x:Str)(ps:List Str)(sp:Sp):Prop where
 ex:∃f fd,MT P w K mg base (PY P w) k f fd ps sp/\Nr K fd ps []/\di K (.ref f)=true/\mg x=some (.ref f)
variable {P:aC}
def NI.mk'{mg:Str->Option ae}{k:Nat}{st:ay}{f:ac}{fd:aE}(F:Fun K x x st f fd)(b:Nr K fd ps [])(m:mg x=some (.ref f))(G:MT P w K mg base (PY P w) k f fd ps sp):NI P w K mg base k x ps sp:=⟨f,fd,G,b,F.kp,m⟩
def Fun.okD{mg:Str->Option ae}{a_:Str}{st:ay}{f:ac}{fd:aE}{N:List Str}{k:Nat}(F:Fun K x a_ st f fd)(S:tS N ps (jo st))(lA:∀(aB:ae) (A:aN) (iw:List Env) (s:af) (H:Hp) (vs:List V) (Q:VK) (E:XK),Np k (A.deeper (envOfC a_ (jo st) s.heap.objs.size f aB))->XD (qF (PY P w) P w K mg base N a_ (jo st) f aB A iw s H E) E->sp vs H Q E->
   ∃t,Rv (qF (PY P w) P w K mg base N a_ (jo st) f aB A iw s H E) (zK st) t/\t { nx:=fun _ H'=>Q .non H',rt:=Q } (yy N vs) H)(len:∀vs H Q E,sp vs H Q E->vs.length=ps.length:=by intro _ _ _ _ h;first|(cases h;subst_vars;rfl)|repeat first|(obtain⟨rfl,_⟩:=h;rfl)|(obtain⟨_,h⟩:=h)):MT P w K mg base (PY P w) (k+1) f fd ps sp:=by
 obtain⟨oc,od,kV,cy,pm,an,aB,ct,gN,rfl,lk,eQ⟩:=F.ex
 refine jl3 lk eQ S len fun A iw s H vs Q E hr fb=>?_
 obtain⟨t,h,q⟩:=lA aB A iw s H vs Q E hr ⟨rfl,rfl,rfl,rfl⟩ fb
 exact⟨t,h.h,q⟩
section
variable {E:ae->af->Prop}{Ec:Env}{bs:List ae}{sub:List ae}
def jeQ{x:Sem ae}{Q:Flow->af->Prop}(eS:bm.contains (.type "BaseException")=true)(hh:A.handled=none)
  (h:am M A x (fun v s₁=>∃e dx vs sl,v=.ref e/\s₁.heap.get? C=some (nA nm q C N bs bm hdct sn sub ab col dd k0 k1 k2 k3 k5 newId)/\
   s₁.heap.get? e=some { cls:=.ref C,dict:=dx,data:=.fields vs,slots:=sl }/\vs[1]?=some .none/\E (.ref e) s₁) E s) :
  am M A (raiseStmt Ec (some x) none) Q E s:=by
 have IJ:(Value.ref C :: bm).contains (.type "BaseException")=true:=by rw[Fk,eS,Pt]
 unfold raiseStmt
 refine aq (bz h (fun v s₁ h₁=>?_) fun _ _ x=>x)
 obtain⟨e,dx,vs,sl,rfl,hC,he,h1,hE⟩:=h₁
 obtain⟨hp,g,d,tk,os⟩:=s₁
 repeat (first | with_reducible refine fX he rfl h1 ?_ | with_reducible refine nn he ?_ | with_reducible refine nn hC ?_ | (with_reducible refine xD hC ?_;rw[IJ]) | wp_step)
 exact wpAny_raiseNew_none hh hE
end
def jfx{prog:aC}{E:ae->af->Prop}{g:Array nN}{d:Drawn}{t:Nat}{os:tN}{bs:List ae}{sub:List ae}{B Bn uN initId uW:String}{wC:List ae}
  (f1:x_ Bn newId uW wC) (f2:cX.contains (.type Bn)=true) (f3:x_ B uN initId cX) (ot:pJ h cX bm) {qm:List ae} {Q:ae->af->Prop}
  (hC:h.get? C=some (nA nm q C N bs bm hdct sn sub ab col dd k0 k1 k2 k3 k5 newId)) (hz:qm.length<=aF) (hq:∀a,(Code.builtin newId a).quiet=true)
  (hi:∀(h':ak) (e:ac),h.MadeExcOf h' e (.ref C) qm->am (au prog w) (A.under (.builtin "type.__call__" ⟨.ref C :: qm,[]⟩)) (xL (.ref e) "__init__" qm) (fun r s'=>r=some .none/\Q (.ref e) s') E { heap:=h',gens:=g,drawn:=d,toks:=t,os:=os }) :
  am (au prog w) A (call (.ref C) qm) Q E { heap:=h,gens:=g,drawn:=d,toks:=t,os:=os }:=by
 have g1:=tc_lookup
 have g2:=tc_bind (.ref C)
 have hT:(⟨h,g,d,t,os⟩:af).TypeIs (.ref C) "type":=⟨_,hC,rfl⟩
 refine lP (codeAny_of_tree ?_)
 show am _ _ (callAny (.ref C) _) _ _ _
 repeat (any_goals (first | assumption | with_reducible refine nn hC ?_ | wp_step))
 refine⟨rfl,?_⟩
 refine codeAny_call_builtin_at (y_ _ N3) entry_typeCall (wpAny_check_type_call_sub hC (ZZ (fI:=0) f1 f2 f3 ot hC hz hq fun h' e hm=>?_))
 exact hi h' e hm
def xIn(K:ao)(C:ac)(cX:List ae)(newId:String):Bool:=match K.lookup C with
 | some ⟨.type "type",_,.cls cd,sl⟩=>(match cd.mro,sl.toList with
  | .ref C' :: bm,[_,_,_,_,some (.builtin n),_]=>C' == C && n == newId && !cd.hasDel && W.tailIn K cX bm
  | _,_=>false)
 | _=>false
def xObj_of_in(X:K.In h)(e:xIn K C cX newId=true):∃bm N nm q bs hdct sn sub ab col dd k0 k1 k2 k3 k5,
  h.get? C=some (nA nm q C N bs bm hdct sn sub ab col dd k0 k1 k2 k3 k5 newId)/\pJ h cX bm:=by
 unfold xIn at e
 split at e
 .rename_i sy cd sl hl
  split at e
  .rename_i C' bm a0 a1 a2 a3 n a5 hm hs
   simp only[bg,beq_iff_eq,fG]at e
   obtain⟨⟨⟨e1,e2⟩,e3⟩,e4⟩:=e
   subst e1 e2
   have cu:sl=#[a0,a1,a2,a3,some (.builtin n),a5]:=by apply PB.mp;rw[hs]
   obtain⟨c1,c2,c3,c4,c5,c6,c7,c8,c9,LR,c11⟩:=cd
   dsimp only at hm e3 e4
   subst hm cu e3
   exact⟨bm,c4,_,_,_,_,_,_,_,_,_,_,_,_,_,_,X _ _ hl,W.tail_of_in X e4⟩
  .cases e
 .cases e
def Ry(C e:ac):HO:=.ext fun h=>∃vs sl,h.get? e=some { cls:=.ref C,dict:=none,data:=.fields vs,slots:=sl }/\vs[1]?=some .none/\6<=vs.size
def ZY(C e dx:ac):HO:=.ext fun h=>∃vs sl,h.get? e=some { cls:=.ref C,dict:=some dx,data:=.fields vs,slots:=sl }/\vs[1]?=some .none/\6<=vs.size
def jec(k:P6 P w H h)(he:H e=some (Ry C e)):∃vs sl,h.get? e=some { cls:=.ref C,dict:=none,data:=.fields vs,slots:=sl }/\vs[1]?=some .none/\6<=vs.size:=
 (show Ng P w H h e (Ry C e) from k e _ he).1
def jhF{dx:ac}(k:P6 P w H h)(he:H e=some (ZY C e dx)):∃vs sl,h.get? e=some { cls:=.ref C,dict:=some dx,data:=.fields vs,slots:=sl }/\vs[1]?=some .none/\6<=vs.size:=
 (show Ng P w H h e (ZY C e dx) from k e _ he).1
def jgr{sl:Array (Option ae)}(he:h.get? e=some { cls:=.ref C,dict:=none,data:=.fields vs,slots:=sl })(h1:vs[1]?=some .none)(h2:6<=vs.size):Ng P w H h e (Ry C e):=
 ⟨⟨vs,sl,he,h1,h2⟩,⟨_,he⟩,fun h1 h2 ⟨v,dA,q1,q2⟩ k=>⟨v,dA,k _ q1,q2⟩⟩
def jjO{dx:ac}{sl:Array (Option ae)}(he:h.get? e=some { cls:=.ref C,dict:=some dx,data:=.fields vs,slots:=sl })(h1:vs[1]?=some .none)(h2:6<=vs.size):Ng P w H h e (ZY C e dx):=
 ⟨⟨vs,sl,he,h1,h2⟩,⟨_,he⟩,fun h1 h2 ⟨v,dA,q1,q2⟩ k=>⟨v,dA,k _ q1,q2⟩⟩
def xJ.track{σ:St}{o:HO}{t':Nat}(I:xJ X ad σ H s)(k:∀b u,s.heap.get? b=some u->h'.get? b=some u)(he:s.heap.get? e=none)(hn:H e=none)(ho:Ng X.prog X.w (upd H e o) h' e o):xJ X ad σ (upd H e o) { s with heap:=h',toks:=t' }:=
 I.un ((Un.kept k).track hn he) ((I.hok.kept k).track hn ho)
def xJ.drop{σ:St}{φ:ak->Prop}(I:xJ X ad σ (upd H e (.ext φ)) s)(hn:H e=none):xJ X ad σ H s:=by
 have g:∀b,b≠e->upd H e (.ext φ) b=H b:=fun b z=>jq z
 refine I.un (t':=s.toks) ⟨fun b o q _ _ _=>q,fun b o q _ _ _=>⟨o.slots,q⟩,fun b o q n _=>?_,fun b o q _=>⟨o,q⟩,fun b xs q=>?_,fun b o xs q=>?_,fun b ps q=>?_,fun b o xs _ q _ _=>q⟩ fun a o ho=>?_
 .by_cases z:b=e
  .rw[z];exact hn
  .rw[g b z]at n;exact n
 .by_cases z:b=e
  .subst z;rw[jc]at q;cases q
  .rw[g b z]at q;exact q
 .by_cases z:b=e
  .subst z;rw[jc]at q;cases q
  .rw[g b z]at q;exact q
 .by_cases z:b=e
  .subst z;rw[jc]at q;cases q
  .rw[g b z]at q;exact⟨#[],by rw[q];simp⟩
 .have z:a≠e:=fun z=>by rw[z,hn]at ho;cases ho
  refine (I.hok a o (by rw[g a z];exact ho)).stay (fun b u _ q=>q) (fun b q=>?_) fun b xs q=>?_
  .by_cases y:b=e
   .subst y;rw[jc]at q;cases q
   .rw[g b y]at q;exact q
  .by_cases y:b=e
   .subst y;rw[jc]at q;cases q
   .rw[g b y]at q;exact q
def jkx(C:ac)(sp:Sp)(E:XK)(t:TA):TS:=fun _ σ H=>t σ H fun vs H1=>vs.length<=1000/\∀e,H1 e=none->sp (.ref e :: (vs++[])) (upd H1 e (Ry C e)) (fun v H2=>v=.non/\∃dx H3,H2=upd H3 e (ZY C e dx)/\H3 e=none/\E (.ref C) (some dx) H3) E0
end L2
namespace PySem.W
open PySem PySem.Spec PySem.Calls PyProof.Rows Builtin Builtin.ObjectAttr
def jdF{h:ak}{cX:List ae}{self:ae}{Az:Str}:∀{l:List ae},pJ h cX l->DY self Az l=DY self Az cX:=by
 intro l t;induction t with
 | base=>rfl
 | own _ _ _ _ ih=>rw[refuseLoop_ref];exact ih
theorem xset{prog:aC}{w:ax}{A:aN}{E:ae->af->Prop}{K:Frag}{s:af}{x C:ac}{vs:Array ae}{sl:Array (Option ae)}{name:Str}{v:ae}{Q:Unit->af->Prop}(X:K.In s.heap)
  (ex:L2.xIn K C L2.valB "ValueError.__new__" = true) (ob:mroIn K C (.type "object")=some true) (hs:findIn K (.ref C) "__setattr__" = some (some (.builtin "object.__setattr__"))) (hn:findIn K (.ref C) name=some none) (hh:hasDictIn K C=true)
  (hx:s.heap.get? x=some { cls:=.ref C,dict:=none,data:=.fields vs,slots:=sl })
  (hq:∀h' t',h'.get? x=some { cls:=.ref C,dict:=some s.heap.objs.size,data:=.fields vs,slots:=sl }->h'.Ns1 s.heap.objs.size (fun y=>if y=name then some v else none)->(∀b o,b≠x->s.heap.get? b=some o->h'.get? b=some o)->Q () { s with heap:=h',toks:=t' }) :
  am (au prog w) A (setAttr (.ref x) name v) Q E s:=by
 have I:InstAt s.heap x { cls:=.ref C,dict:=none,data:=.fields vs,slots:=sl } C none:=⟨hx,rfl,rfl,True.intro⟩
 refine set_plain X I hs ?_
 have SF:=PySem.F.store_object
 have sub:Looks (au prog w) s.heap (s_ (.ref x) (.type "object")) true:=I.type.andThen (Eg X ob)
 refine nB SF.slot.plain SF.entry (@check_slot (au prog w) _ _ { s with toks:=s.toks+1 } "object.__setattr__" "object" "__setattr__" (.ref x) [.str name s.toks,v] [] _ SF.kind SF.split sub (SF.args (.ref x) (.str name s.toks) v) ?_)
 obtain⟨bm,N,nm,q,bs,hdct,sn,uB,ab,col,dd,k0,k1,k2,k3,k5,o1,o4⟩:=L2.xObj_of_in X ex
 have hC:=o1
 rw[osa_eq,refuse_eq]
 obtain⟨hp,g,d,t,os⟩:=s
 refine aq (aq (I.type.at (aq (wpAny_mroOf_exc o1 ?_))))
 rw[refuseLoop_ref,jdF o4,show DY (.ref x) "__setattr__" L2.valB=pure () from PySem.F.store_ValueError.passes _]
 refine aO (aq (I.type.at (aq ((looks_findIn X hn).at (aq (aO ?_))))))
 obtain⟨cd,hc,gX⟩:=any_some hh
 refine aq (aO (aq (aq (DO hx (aq ((looks_clsIn X hc).at ?_))))))
 rw[gX]
 show am _ _ (alloc { cls:=.type "dict",data:=.dict #[] } >>= _) _ _ _
 have iD:(hp.push { cls:=.type "dict",data:=.dict #[] }).get? x=some { cls:=.ref C,dict:=none,data:=.fields vs,slots:=sl }:=bu _ hx
 have BL:x≠hp.objs.size:=bU (aY hx)
 refine aq (wpAny_alloc' ?_)
 refine aq (wpAny_update' iD ?_)
 refine aO ?_
 have dJ:=tQ (fun o:Obj=>{ cls:=o.cls,dict:=some hp.objs.size,data:=o.data,slots:=o.slots }) iD rfl
 have Iq:((hp.push { cls:=.type "dict",data:=.dict #[] }).update x fun o=>{ cls:=o.cls,dict:=some hp.objs.size,data:=o.data,slots:=o.slots }).get? hp.objs.size=some { cls:=.type "dict",data:=.dict #[] }:=
  (N6 _ _ _ _ BL.symm).trans (Ex rfl rfl)
 have ll:((hp.push { cls:=.type "dict",data:=.dict #[] }).update x fun o=>{ cls:=o.cls,dict:=some hp.objs.size,data:=o.data,slots:=o.slots }).Ns hp.objs.size (fun _=>none):=
  ⟨_,#[],_,Iq,rfl,fun e he=>absurd he NZ,fun _=>rfl⟩
 show am _ _ (storeInDict hp.objs.size (.str name t) name v) _ _ _
 unfold storeInDict newKeyGuard
 refine aq (aO (aq (wpAny_nsSet1 (N8 ll) fun h' iH cu=>?_)))
 obtain⟨oD,LF,LG,vF,QQ,fU⟩:=iH.count (Within.cons name v Within.nil)
 refine aq (MM vF (by rw[QQ];exact M9 (aw fU (by rw[aM,cZ,nv];omega))) ?_)
 refine aO ?_
 refine hq h' _ ((cu.2 x BL).trans dJ) iH fun b ob hb e=>?_
 exact (cu.2 b (bU (aY e))).trans ((N6 _ _ _ _ hb).trans (bu _ e))
section
variable {prog:aC}{w:ax}{A:aN}{E:ae->af->Prop}{h:ak}{g:Array nN}{d:Drawn}{t:Nat}{os:tN}{a C:ac}{o:Obj}{K:Frag}{name:Str}{od:Option Obj}{v:ae}
def jh5{tk:Tok}{Q:Fin->af->Prop}(X:K.In h)(I:InstAt h a o C od)(hf:findObj K C od name=some (.value v))(hq:Q (.done (.ret v)) ⟨h,g,d,t,os⟩):
  am (au prog w) A (Builtin.«object.__getattribute__» ⟨[.ref a,.str name tk],[]⟩) Q E ⟨h,g,d,t,os⟩:=by
 have L0:=I.type (M:=au prog w)
 have L1:=looks_find (M:=au prog w) X I hf
 unfold Builtin.«object.__getattribute__»
 refine aq (aO ?_)
 refine aq (aO (aq (L0.at (aq (L1.at ?_)))))
 exact aO hq
def jnb{tk:Tok}{fill fV:Bool}{Q:ae->af->Prop}(Z:XCls K C)(X:K.In h)(I:InstAt h a o C od)(hf:findObj K C od name=some (.value v))(hh:handedIn v=true)(hq:Q v ⟨h,g,d,t,os⟩):
  am (au prog w) A (getAttrBy (.ref a) (.str name tk) fill fV) Q E ⟨h,g,d,t,os⟩:=by
 have f3:=x9.ga.bind (.ref a)
 have Hq:(fV && xG (Value.builtin "BaseException.__getattribute__"))=false:=by cases fV <;> rfl
 have dJ:(Value.builtin "BaseException.__getattribute__" == Value.builtin "object.__getattribute__")=false:=by decide +kernel
 have iD:(xG (Value.ref C) && Value.builtin "BaseException.__getattribute__" == Value.builtin "object.__getattribute__")=false:=by rw[dJ];rfl
 have L1:=looks_findIn (M:=au prog w) X Z.ga
 have L2:=looks_findIn (M:=au prog w) X Z.gt
 have hx:=I.at_
 have hc:=I.cls
 repeat (any_goals (first | assumption | (with_reducible refine nn hx ?_;rw[hc]) | with_reducible refine L1.at ?_ | with_reducible refine L2.at ?_ | wp_step))
 refine nB x9.ga.plain Oi (jdk Z X hx hc (jh5 X I hf ?_))
 have ho:handedOut v=pure v:=handedOut_of hh
 repeat (any_goals (first | assumption | rw[ho] | wp_step))
def xget{s:af}{fV:Bool}{Q:ae->af->Prop}(Z:XCls K C)(X:K.In s.heap)(I:InstAt s.heap a o C od)(hf:findObj K C od name=some (.value v))(hh:handedIn v=true)(hq:Q v { s with toks:=s.toks+1 }):
  am (au prog w) A (tj (.ref a) name fV) Q E s:=by
 obtain⟨hp,g,d,t,os⟩:=s
 unfold tj
 repeat (any_goals (first | assumption | with_reducible apply jnb Z X I hf hh | wp_step))
end
end PySem.W
namespace L2
open PySem PySem.Spec PyProof.Rows
variable {H:Hp}
def jma{a:ac}{o:HO}(h:H a=some o):upd H a o=H:=funext fun b=>by
 by_cases z:b=a
 .rw[z,jc,h]
 .rw[jq z]
variable {s:af}{K:ao}{C:ac}
theorem jhS{prog:aC}{w:ax}{A:aN}{E:ae->af->Prop}{e:ac}{dd:Option ac}{vs:Array ae}{sl:Array (Option ae)}{qm:List ae}{Q:ae->af->Prop}(X:K.In s.heap)(hx:xIn K C valB "ValueError.__new__" = true)
  (he:s.heap.get? e=some { cls:=.ref C,dict:=dd,data:=.fields vs,slots:=sl }) (hz:6<=vs.size) (hr:qm.length<=aF)
  (h:∀h',h'.get? e=some { cls:=.ref C,dict:=dd,data:=.fields (vs.setIfInBounds 0 (.ref s.heap.objs.size)),slots:=sl }->(∀b o,b≠e->s.heap.get? b=some o->h'.get? b=some o)->Q .none { s with heap:=h' }) :
  am (au prog w) A (call (.builtin "ValueError.__init__") (.ref e :: qm)) Q E s:=by
 obtain⟨bm,N,nm,q,bs,hdct,sn,sub,ab,col,fW,k0,k1,k2,k3,k5,o1,o4⟩:=xObj_of_in X hx
 have FF:=lZ
 refine lP (nB FF.init.plain FF.initEntry (wpAny_check_init_subU FF o4 o1 he rfl ?_))
 unfold Builtin.«BaseException.__init__»
 dsimp only
 rw[PN NZ]
 unfold newTuple Builtin.BaseException.bexcPut
 have hsz:0 < vs.size:=by omega
 obtain⟨a0,wb⟩:∃a0,vs[0]?=some a0:=⟨_,Fq N4⟩
 have vU:=bu (h:=s.heap) { cls:=.type "tuple",data:=.seq qm.toArray } he
 refine aq (MJ (aq (aq (fX vU rfl wb (aq (DN vU rfl hsz ?_))))) (by show qm.toArray.size<=aF;rw[bQ];exact hr))
 have hh:=h ((s.heap.push { cls:=.type "tuple",data:=.seq qm.toArray }).update e (tP (·.setIfInBounds 0 (.ref s.heap.objs.size)))) ?_ fun b o hb q=>?_
 .cases a0 <;> first | exact wpAny_letGo (aO hh) | exact aO (aO hh)
 .exact tQ _ vU rfl
 .rw[pL _ _ (cj hb)]
  exact bu _ q
def jgO(K:ao)(t:TA):TE:=fun σ H Q=>t σ H fun vs H1=>∃a C v,vs=[.ref a,v]/\H1 a=some (Ry C a)/\xIn K C valB "ValueError.__new__" = true/\Q .non H1
variable {X:Cx}{x:Str}{e:aj}{es:List aj}
theorem jcm{pl:Sem Bool}{C1:ac}{np dr x5:Pos}{t:TA}(hg:Gl X x)(hm:X.mg x=some (.ref C1))(hr:Ee X.K C1 (.type "type")=true)(hf:Ek X.K (.ref C1) (.type "type") "__init__" = some (.val (.builtin "ValueError.__init__")))(j_:nE X.K (.ref C1)=some (.type "type"))(ha:QA X (e :: es) t)(hd:(x == ("__debug__" : Str))=false:=by decide)
  (bZ:aX (e :: es) X.Ec=(false,eval e X.Ec) :: aX es X.Ec:=by rfl) (df:(cG x5 (aX es X.Ec)).any (·.1)=false:=by rfl)
  (ht:eval (.Call (.Attribute (.Name x np) "__init__" dr) (e :: es) [] x5) X.Ec=(do
   let ov <- eval (.Name x np) X.Ec
   xE dr.atName
   let (f,first) <- holding [ov] (getMethod ov "__init__" pl)
   tm x5 f first (cG x5 (aX (e :: es) X.Ec)) (tu x5 (sZ [] X.Ec))):=by rfl) :
  QE X (.Call (.Attribute (.Name x np) "__init__" dr) (e :: es) [] x5) (jgO X.K t):=⟨by
 intro ad s σ H Q I h
 refine W.methodCall_KW (pl:=pl) (yt I hg hm ?_ hd) ht
 have L0:=W.looks_typeIn (M:=au X.prog X.w) I.kIn j_
 have L1:=NB (M:=au X.prog X.w) I.kIn (show bA X.K (.type "type") "__getattribute__" = some (some (.builtin "type.__getattribute__")) from W.type_tga)
 unfold getMethod specialOf
 refine aq (aq (L0.here (L1.here ?_)))
 dsimp only
 rw[PP W.canon_tga]
 refine aq (bz (Q:=fun v s'=>am _ _ (tm x5 v [] (cG x5 (aX (e :: es) X.Ec)) (tu x5 (sZ [] X.Ec))) _ _ s') (E:=X.xe) ?_ (fun _ _ z=>aO z) fun _ _ z=>z)
 refine W.cls_value I.kIn hr hf rfl ?_
 have I1:xJ X ad σ H { s with toks:=s.toks+1 }:=I.tok _
 have hA:=ha.h x5 ad _ σ H _ I1 h
 rw[bZ]at hA |-
 refine EJ (by show (false || (cG x5 (aX es X.Ec)).any (·.1))=false;rw[df] <;> rfl) (EI ?_)
 refine Nn hA fun us s2 hM=>?_
 obtain⟨vs,H2,I2,r2,q0⟩:=hM
 obtain⟨a,C,v,rfl,hH,hx,q⟩:=q0
 obtain⟨u1,u2,rfl,r1,r3⟩:=jdn r2
 cases r1
 obtain⟨ws,sl,w1,w2,w3⟩:=jec I2.hok hH
 refine jhS I2.kIn hx w1 w3 (by show 1<=aF;exact cP (kA (by omega:1<=1000))) fun h' e1 e2=>?_
 have I3:=I2.write (x:=a) (e:=a) (o:=Ry C a) (t':=s2.toks) (by rw[hH];exact True.intro) (.inl rfl) e2 ⟨_,e1⟩ (jgr e1 (by rw[Array.getElem?_setIfInBounds_ne N5];exact w2) (by rw[Array.size_setIfInBounds];exact w3))
 rw[jma hH]at I3
 exact⟨.non,H2,I3,rfl,q⟩⟩
structure Sn(K:ao)(C:ac)(f:Str):Prop where
 ex:xIn K C valB "ValueError.__new__" = true
 cl:PySem.W.XCls K C
 sa:bA K (.ref C) "__setattr__" = some (some (.builtin "object.__setattr__"))
 no:bA K (.ref C) f=some none
 hd:nF K C=true
def jnt(K:ao)(ta tv:TE)(f:Str):TS:=fun D σ H=>tv σ H fun y H1=>ta σ H1 fun x H2=>∃a C,x=.ref a/\H2 a=some (Ry C a)/\Sn K C f/\∀dx,H2 dx=none->D.nx σ (upd (upd H2 a (ZY C a dx)) dx (.xd [(f,y)]))
variable {f:Str}{x5:Pos}{ta:TE}
def jhV{o value:aj}{d_:Pos}{tv:TE}(ha:QE X o ta)(hv:QE X value tv)(hs:gC value (some (.Attribute o f d_)) x5.line X.Ec=pure false):QS X (.Assign [.Attribute o f d_] value x5) (jnt X.K ta tv f):=⟨by
 intro ad s σ H D I h;refine M7 (Nn (hv.h ad s σ H _ I h) fun u s1 ⟨y,H1,I1,ry,q⟩=>Nn (ha.h ad s1 σ H1 _ I1 q) fun ov s2 hM=>?_) hs;obtain⟨x,H2,I2,rx,a,C,ex,ea,c,q2⟩:=hM;subst ex;obtain rfl:ov=Value.ref a:=rx;obtain⟨ws,sl,w1,w2,w3⟩:=jec I2.hok ea;refine W.xset I2.kIn c.ex c.cl.ob c.sa c.no c.hd w1 fun h' t' e1 e2 e3=>?_
 have fr:H2 s2.heap.objs.size=none:=I2.hok.fresh (aK _);have na:s2.heap.objs.size≠a:=fun z=>by rw[z,ea]at fr;cases fr
 refine⟨σ,_,?_,q2 s2.heap.objs.size fr⟩;have mu:SN (H2 a):=by rw[ea];exact True.intro
 have k:∀b u,b≠a->s2.heap.get? b=some u->h'.get? b=some u:=e3;have n2:upd H2 a (ZY C a s2.heap.objs.size) s2.heap.objs.size=none:=by rw[jq na];exact fr
 refine I2.un ((Un.write mu (.inl rfl) k ⟨_,e1⟩).track n2 (by simp[Ey])) ((I2.hok.write mu (.inl rfl) k ⟨_,e1⟩ (jjO e1 w2 w3)).track n2 ⟨_,e2,fun g=>?_⟩);by_cases z:g=f
 .subst z
  rw[PP rfl];show P2 (eE g [(g,y)]) (some u);rw[i4];exact ry
 .rw[PN z]
  show P2 (eE g [(f,y)]) none;rw[gj,show (g == f)=false from PQ.mpr z];exact True.intro⟩
variable {E:XK}{ps:List Str}{sp:Sp}
theorem K6{f:ac}{fd:aE}{k:Nat}{np bO x5:Pos}{t:TA}(Wd:XD X E)(hc:X.calm=true)(hg:Gl X x)(hm:X.mg x=some (.ref C))(hx:xIn X.K C valB "ValueError.__new__" = true)
  (hi:bA X.K (.ref C) "__init__" = some (some (.ref f))) (hf:nE X.K (.ref f)=some (.type "function")) (F:MT X.prog X.w X.K X.mg X.base PU k f fd ps sp) (hb:Nr X.K fd ps []) (hr:Np (k+1) X.A) (ha:QA X (e :: es) t) (hd:(x == ("__debug__" : Str))=false:=by decide) (hp:(e :: es).all qD=true:=by rfl) :
  QS X (.Raise (some (.Call (.Name x np) (e :: es) [] bO)) none x5) (jkx C sp E t):=⟨by
 intro ad s σ H D I h
 rw[eX,bg]at hp
 have he:=qX hp.1 es X.Ec
 have df:=yV bO X.Ec es hp.2
 have mG:(cG bO (aX (e :: es) X.Ec)).any (·.1)=false:=by rw[he];exact df
 obtain⟨bm,N,nm,q,bs,hdct,sn,sub,ab,col,dd,k0,k1,k2,k3,k5,o1,o4⟩:=xObj_of_in I.mod.kin hx
 have si:bm.contains (.type "BaseException")=true:=Ev o4 lZ.hasBase
 rw[arm_exec_Raise]
 refine aq (lO (jeQ (C:=C) (nm:=nm) (q:=q) (N:=N) (bs:=bs) (bm:=bm) (hdct:=hdct) (sn:=sn) (sub:=sub) (ab:=ab) (col:=col) (dd:=dd) (k0:=k0) (k1:=k1) (k2:=k2) (k3:=k3) (k5:=k5) (newId:="ValueError.__new__") si (I.ok.hd hc) (aq (bz (wpAny_Call_ofName (yt I hg hm ?_ hd)) (fun v s₃ h₃=>aq (lO (aO h₃))) fun _ _ x=>x))))
 unfold tm
 have fg:=ha.h bO ad s σ H _ I h
 rw[he]at fg |-
 refine aq (ic (EI (Nn fg fun us s2 ⟨vs,H2,I2,r,bb,hE⟩=>aq (lO ?_))))
 have HI:(cG bO ((false,eval e X.Ec) :: aX es X.Ec)).any (·.1)=false:=df
 simp only[HI]
 obtain⟨aQ,g2,d2,t2,Bf⟩:=s2
 refine aq (wpAny_keeperOf_exc (I2.bk _ _ o1) ?_)
 refine aq (jfx lZ (show valB.contains (.type "ValueError")=true from lZ.hasB) lZ (jbv I2.bk o4) (I2.bk _ _ o1) ?_ (fun a=>y_ _ lZ.quiet) fun h' ea me=>?_)
 .show us.length<=aF
  rw[<- r.length]
  exact cP (kA bb)
 obtain⟨tt,m1,m2,m3⟩:=me.there
 obtain⟨n1,n2⟩:=Wd.hH I2 ea me.new
 have I3:xJ X ad σ (upd H2 ea (Ry C ea)) ⟨h',g2,d2,t2,Bf⟩:=I2.track (t':=t2) me.keeps me.new n1 (jgr m1 rfl (aK _))
 have hq:=hE ea n1
 have r2:Nb (V.ref ea :: (vs++[])) (Value.ref ea :: us):=.cons rfl (by rw[bE];exact r)
 have hl:((Value.ref ea :: us)++[]).length=ps.length:=by have e:=r2.length;rw[F.len _ _ _ _ hq]at e;rw[bE];exact e.symm
 have cm:=hb ⟨h',g2,d2,t2,Bf⟩ (Value.ref ea :: us) I3.kIn hl
 rw[bE]at cm
 refine jdu I3.kIn m1 rfl hi hf ?_
 refine lP (lS (F.run _ X.stack _ _ ⟨Value.ref ea :: us,[]⟩ (Value.ref ea :: us) _ _ E0 (hr.make C us []) (I3.env0.make C us []) cm r2 hq) fun rr s' fN=>?_)
 cases rr with
 | error e=>exact fN.elim
 | ok fl=>
  cases fl with
  | ret u=>
   obtain⟨v,H',I4,rv,ev,dx,H3,rfl,h3,q3⟩:=I3.after fN
   subst ev
   cases rv
   refine⟨rfl,?_⟩
   obtain⟨ws,sl,w1,w2,w3⟩:=jhF I4.hok jc
   have I5:=I4.drop h3
   refine aq (ic (wpAny_point (aO ⟨ea,some dx,ws,sl,rfl,I4.bk _ _ o1,w1,w2,?_⟩)))
   obtain⟨a0,wb⟩:∃a0,ws[0]?=some a0:=⟨_,Fq N4⟩
   exact Wd.first I5 h3 n2 w1 rfl rfl rfl w2 wb q3
  | next=>exact db fN
  | brk=>exact db fN
  | cont=>exact db fN⟩
def yR(C e dx:ac):HO:=.ext fun h=>∃oe vs,h.get? e=some oe/\oe.cls=.ref C/\oe.dict=some dx/\oe.data=.fields vs
def jjN{P:aC}{w:ax}{h0 h:ak}{e dx:ac}(F:P1 h0 H (.ref C) (some dx) e h):Ng P w (upd H e (yR C e dx)) h e (yR C e dx):=by obtain⟨oe,vs,T,oT,ts,a0,t1,t2,t3,_⟩:=F.fly.tr;obtain⟨mr,FK,t4⟩:=F.dic;obtain rfl:oe=mr:=dz (t1.symm.trans FK);exact⟨⟨oe,vs,t1,t2,t4,t3⟩,⟨oe,t1⟩,fun h1 h2 ⟨o,v,q1,q2⟩ k=>⟨o,v,k o q1,q2⟩⟩
def jlK(K:ao)(ta:TE)(f:Str):TE:=fun σ H Q=>ta σ H fun x H1=>∃a C dx fs v,x=.ref a/\H1 a=some (yR C a dx)/\H1 dx=some (.xd fs)/\Sn K C f/\fs.lookup f=some v/\Q v H1
def jhZ(he:QE X e ta)(hb:lT e f X.Ec (eval e X.Ec)=eval e X.Ec):QE X (.Attribute e f x5) (jlK X.K ta f):=⟨by
 intro ad s σ H Q I h;refine jgE hb (Nn (he.h ad s σ H _ I h) fun u s1 hM=>?_);obtain⟨x,H1,I1,rx,a,C,dx,fs,v,ex,ea,ed,c,l,q⟩:=hM;subst ex;obtain rfl:u=Value.ref a:=rx;obtain⟨oe,vs,t1,t2,t3,t4⟩:=(show Ng X.prog X.w H1 s1.heap a (yR C a dx) from I1.hok a _ ea).1;obtain⟨mA,hn,hr⟩:=(show Ng X.prog X.w H1 s1.heap dx (.xd fs) from I1.hok dx _ ed)
 obtain⟨od,ho,hl⟩:=jbW hn;obtain⟨u,hu,ru⟩:=P2.some_of (v:=v) (o:=mA f) (by rw[<- l];exact hr f);refine W.xget (o:=oe) (od:=some od) c.cl I1.kIn ⟨t1,t2,by unfold W.notCls;rw[t4],by rw[t3];exact ho⟩ (W.findObj_own c.hd c.no rfl (by rw[hl,hu])) (jb1 ru) ⟨v,H1,I1.tok _,ru,q⟩⟩
def XD.own(W:XD X E):xW (au X.prog X.w) X.A X.Ec X.xe:=by rw[W.xe];exact xW.leaving
theorem jM{k k':Nat}{t:TA}{p x5:Pos}(F:NI X.prog X.w X.K X.mg X.base k x ps sp)(W:XD X E)(hr:Np k' X.A)(ha:QA X (e :: es) t)(hk:k<=k':=by first | decide | omega)(hg:Gl X x:=by rfl)
  (hd:(x == ("__debug__" : Str))=false:=by decide) (hp:(e :: es).all qD=true:=by rfl):QE X (.Call (.Name x p) (e :: es) [] x5) (zM sp [] E t):=⟨by
 obtain⟨f,fd,G,b,kp,m⟩:=F.ex
 rw[eX,bg]at hp
 exact jcQ G (hr.mono hk) hg m kp b .nil W.passes ha.h hd (qX hp.1 es X.Ec) (yV x5 X.Ec es hp.2)⟩
def jgJ(he:QE X e ta)(hb:lT e f X.Ec (eval e X.Ec)=eval e X.Ec:=by rfl)(hK:X.K=K:=by rfl):QE X (.Attribute e f x5) (jlK K ta f):=by subst hK;exact jhZ he hb
theorem ja6{B h h':ak}:∀{l:List Env},h.FunFrames B l->(∀b∈No l,h'.get? b=h.get? b)->h'.FunFrames B l
 | [],_,_=>trivial
 | Ec :: l,hf,hb=>by
  obtain⟨k,⟨L,o,e1,e2,e3,e4⟩,hr⟩:=hf;have hm:L∈No (Ec :: l):=by unfold No;rw[fF,e1];exact aJ
  refine⟨k,⟨L,o,e1,e2,(hb L hm).trans e3,e4⟩,ja6 hr fun b cm=>hb b ?_⟩;unfold No at cm |-;rw[fF,e1];exact aH _ cm
section
variable {M:dj}{A:aN}{E:ae->af->Prop}{base h0:ak}{Ec:Env}{iw:List Env}{L e:ac}{cls:ae}{dd:Option ac}{Q:Unit->af->Prop}
def jbs{B:ak}{l:List Env}{a0 fl:ae}(fr:Option ac)(rW:B.StaysIn s.heap)(hl:s.heap.FunFrames B l)(ht:s.heap.TracedAtW B e cls a0 fl)
  (h:∀h' mY,B.StaysIn h'->h'.FunFrames B l->h'.TracedAtW B e cls a0 mY->(∀b o,s.heap.get? b=some o->(∀vs,o.data≠.fields vs)->h'.get? b=some o)->Q () { s with heap:=h' }) :
  am M A (iS (.ref e) fr) Q E s:=by
 obtain⟨oe,vs,T,oT,ts,he,lu,hd,h1,rS,sj,hT,iL,h3⟩:=ht
 have BM:3 < ts.size:=(Fp.mp h3).1
 have gM:∀b,b≠T->(s.heap.update T (tP (·.setIfInBounds 3 (fr.elim Value.none fun f=>fq f)))).get? b=s.heap.get? b:=
  fun b hb=>pL _ _ (cj hb)
 have oq:∀b o,s.heap.get? b=some o->(∀vs,o.data≠.fields vs)->b≠T:=fun b o hb dm q=>by rw[q,hT]at hb;injection hb with hb;subst hb;exact dm ts iL
 unfold iS
 refine aq (fX he hd h1 ?_)
 rw[PP (show (Value.ref T != Value.none)=true from NZ)]
 refine DN hT iL BM (h _ (fr.elim Value.none fun f=>fq f) (fun b o lB=>(gM b fun q=>by rw[q,rS]at lB;cases lB).trans (rW b o lB))
  (hl.of_keeps fun b o hb dm=>⟨o,(gM b (oq b o hb dm)).trans hb,rfl⟩) ?_ fun b o hb dm=>(gM b (oq b o hb dm)).trans hb)
 exact⟨oe,vs,T,_,_,(gM e (cj sj)).trans he,lu,hd,h1,rS,sj,tQ _ hT (Obj.isFreed_of_fields (N1 iL _)),N1 iL _,by simp[BM]⟩
def jdZ{B:ak}{a0 fl:ae}(bc:A.frames=some (Ec :: iw))(hl:s.heap.FunFrames B (Ec :: iw))(hf:Ec.frame=some L)(ht:s.heap.TracedAtW B e cls a0 fl)(rW:B.StaysIn s.heap)(Iy:B.get? e=none)
  (h:∀h',Heap.LeftW B (Ec :: iw) e cls a0 s.heap h'->Q () { s with heap:=h' }):am M A (leaving Ec (.ref e)) Q E s:=by
 by_cases gW:fl=fq L
 .subst gW
  unfold leaving
  refine aq (wpAny_noteFrame_againW hf ht ?_)
  exact DM rW hl ht fun h' k1 k2 k3 k4=>h h' ⟨k1,k2,k3,fun b o hb hn=>⟨o.slots,k4 b o hb hn⟩⟩
 obtain⟨oe,vs,T,oT,ts,he,⟨lu,h0⟩,hd,h1,rS,sj,hT,iL,h3⟩:=ht
 subst lu
 unfold leaving fY
 simp only[hf]
 refine aq (aq (fX he hd h1 ?_))
 rw[PP (show (Value.ref T != Value.none)=true from NZ)]
 refine aq (fX hT iL h3 ?_)
 rw[PN (show ¬((fl == fq L)=true) from fun z=>gW (eq_of_beq z))]
 refine aq (DN hT iL (Fp.mp h3).1 ?_)
 have gM:∀b,b≠T->(s.heap.update T (tP (·.setIfInBounds 3 Value.none))).get? b=s.heap.get? b:=fun b hb=>pL _ _ (cj hb)
 have oq:∀b o,s.heap.get? b=some o->(∀vs,o.data≠.fields vs)->b≠T:=fun b o hb dm q=>by rw[q,hT]at hb;injection hb with hb;subst hb;exact dm ts iL
 refine wpAny_newEntryW bc (hl.of_keeps fun b o hb dm=>⟨o,(gM b (oq b o hb dm)).trans hb,rfl⟩) hf ((gM e (cj sj)).trans he)
  (fun b o lB=>(gM b fun q=>by rw[q,rS]at lB;cases lB).trans (rW b o lB)) Iy hd (Fp.mp h1).1 h0
  fun h' ⟨x1,x2,x3,x4⟩=>h h' ⟨x1,x2,x3,fun b o hb dm=>x4 b o ((gM b (oq b o hb dm)).trans hb) dm⟩
def jfr{m:Str->Option ae}{Q2:ae->Unit->af->Prop}{E2:ae->ae->af->Prop}(hA:A.frames=some (Ec :: iw))(bc:s.heap.FunFrames base (Ec :: iw))(hL:Ec.frame=some L)(hF:P1 h0 H cls dd e s.heap)(dh:∀b∈No (Ec :: iw),H b=none)(hH:∀b,s.heap.get? b=none->H b=none/\h0.get? b=none)
  (hC:C ∉ No (Ec :: iw)) (La:H C=none) (Lb:h0.get? C=none) (K_:s.heap.Ns C m)
  (hQ:∀h',Qa (No (Ec :: iw)) h0 H s.heap h'->P1 h0 H cls dd e h'->Q2 (.ref e) () { s with heap:=h' }) (hbs:∀b o,base.get? b=some o->b ∉ No (Ec :: iw)/\∃u,h0.get? b=some u) :
  am M A (fY (.ref e) Ec) (fun _ s2=>Ze M A C (fun x s3=>am M A (leaving Ec x) (Q2 x) (E2 x) s3) (.ref e) s2) E s:=by
 obtain⟨oe,vs,T,oT,ts,a0,t1,t2,t3,t4,t5,t6,t7,t8,t9,bW,cC⟩:=hF.fly.tr
 obtain⟨mr,BT,IE⟩:=hF.dic
 obtain rfl:oe=mr:=by rw[t1]at BT;injection BT
 have cN:∀b∈C :: e :: T :: No (Ec :: iw),(f_ s.heap (C :: e :: T :: No (Ec :: iw))).get? b=none:=fun b hb=>tD _ hb
 have pb:∀b∈C :: e :: T :: No (Ec :: iw),H b=none/\(b∈No (Ec :: iw)\/h0.get? b=none):=fun b hb=>by
  rcases aA.mp hb with rfl | hb
  .exact⟨La,.inr Lb⟩
  rcases aA.mp hb with rfl | hb
  .exact⟨hF.fly.he,.inr hF.fly.ne⟩
  rcases aA.mp hb with rfl | hb
  .exact⟨bW,.inr cC⟩
  .exact⟨dh b hb,.inl hb⟩
 generalize hB:f_ s.heap (C :: e :: T :: No (Ec :: iw))=B at *
 have Ld:B.StaysIn s.heap:=fun b o hb=>by rw[<- hB]at hb;exact tz _ hb
 have me:e∈C :: e :: T :: No (Ec :: iw):=aH _ aJ
 have mT:T∈C :: e :: T :: No (Ec :: iw):=aH _ (aH _ aJ)
 have HX:am M A (fY (.ref e) Ec) (fun _ s2=>∃h',s2={ s with heap:=h' }/\ak.NotedW B (Ec :: iw) e cls a0 (fq L) s.heap h') E s:=
  MI hA (qq bc fun b hb=>cN b (aH _ (aH _ (aH _ hb)))) hL ⟨oe,vs,T,oT,ts,t1,⟨t2,t4⟩,t3,t5,cN T mT,t6,t7,t8,t9⟩ Ld (cN e me) fun h' N=>⟨h',rfl,N⟩
 refine bz (yd (yx (.ref e) Ec) HX) (fun _ s2 q=>?_) fun _ _ z=>z
 obtain⟨⟨h1,rfl,k1,k2,k3,k4⟩,d1⟩:=q
 have n1:=ak.UpToSlots.ns k4 K_
 refine⟨m,n1,fun h2 sb mZ _=>?_⟩
 have aR:∀b o vs,h1.get? b=some o->o.data=.fields vs->b≠C:=fun b o vs ho hd z=>by
  obtain⟨o',es,ep,h3,h4,_⟩:=n1;rw[z,h3]at ho
  cases ho
  rw[h4]at hd
  cases hd
 have ml:B.StaysIn h2:=fun b o hb=>(sb.2 b fun z=>by rw[z,cN C aJ]at hb;cases hb).trans (k1 b o hb)
 have LC:h2.FunFrames B (Ec :: iw):=ja6 k2 fun b hb=>sb.2 b fun z=>hC (z ▸ hb)
 have AE:h2.TracedAtW B e cls a0 (fq L):=by obtain⟨mr,AA,T',Bg,AC,r1,r2,r3,r4,r5,r6,r7,r8,r9⟩:=k3;exact⟨mr,AA,T',Bg,AC,(sb.2 e (aR e _ _ r1 r3)).trans r1,r2,r3,r4,r5,r6,(sb.2 T' (aR T' _ _ r7 r8)).trans r7,r8,r9⟩
 have LM:∃o2,h2.get? e=some o2/\o2.dict=dd:=by
  obtain⟨o1,e3,e4⟩:=d1 e _ t1;obtain⟨mr,AA,T',Bg,AC,r1,r2,r3,_⟩:=k3;have e3:h1.get? e=some o1:=e3;rw[r1]at e3
  cases e3
  exact⟨_,(sb.2 e (aR e _ _ r1 r3)).trans r1,e4.trans IE⟩
 unfold M_
 obtain⟨oe2,vs2,T2,oT2,ts2,r1,r2,r3,r4,r5,r6,r7,r8,r9⟩:=id AE
 refine aq (fX (s:={ s with heap:=h2 }) r1 r3 r4 ?_)
 rw[PN (show ¬((Value.ref T2 == Value.none)=true) from NZ)]
 have sf:am M A (iS (.ref e) mZ.frame) (fun _ s3=>∃h3 mY,s3={ s with heap:=h3 }/\B.StaysIn h3/\h3.FunFrames B (Ec :: iw)/\h3.TracedAtW B e cls a0 mY/\∀b o,h2.get? b=some o->(∀vs,o.data≠.fields vs)->h3.get? b=some o) (fun x s3=>am M A (leaving Ec x) (Q2 x) (E2 x) s3) { s with heap:=h2 }:=
  jbs mZ.frame ml LC AE fun h' mY a b c d=>⟨h',mY,rfl,a,b,c,d⟩
 refine aq (bz (yd (zD (.ref e) mZ.frame) sf) (fun _ s3 q=>?_) fun _ _ z=>z)
 obtain⟨⟨h3,mY,rfl,gL,LB,FH,GW⟩,d3⟩:=q
 refine wpAny_throw ?_
 have lv:am M A (leaving Ec (.ref e)) (fun _ s4=>∃h4,s4={ s with heap:=h4 }/\Heap.LeftW B (Ec :: iw) e cls a0 h3 h4) (E2 (.ref e)) { s with heap:=h3 }:=
  jdZ hA LB hL FH gL (cN e me) fun h' LW=>⟨h',rfl,LW⟩
 refine bz (yd (Jx Ec (.ref e)) lv) (fun _ s4 q=>?_) fun _ _ z=>z
 obtain⟨⟨h4,rfl,mj,LA,FG,GV⟩,d4⟩:=q
 have eO:h4.FunFrames base (Ec :: iw):=qq LA fun b hb=>by
  rcases hh:base.get? b with _ | o
  .rfl
  .exact absurd hb (hbs b o hh).1
 refine hQ h4 ⟨fun b o hb hf ho=>?_,fun b o hb hf=>?_⟩ ⟨ja9 (s:=s) (l:=Ec :: iw) (a0:=a0) hF.fly.he hF.fly.ne hB.symm pb eO hH FG,?_⟩
 .refine mj b o ?_
  rw[<- hB]
  refine Ei _ hb fun hm=>?_
  obtain⟨h1,h2⟩:=pb b hm
  rcases ho with ho | ⟨u,hu⟩
  .exact absurd h1 ho
  .rcases h2 with h2 | h2
   .exact hf h2
   .rw[h2]at hu;cases hu
 .obtain⟨o',e1,e2⟩:=KR bc b hf
  rw[hb]at e1
  cases e1
  obtain⟨sl,q1⟩:=k4 b o hb e2
  have q2:=(sb.2 b fun z=>hC (z ▸ hf)).trans q1
  have q3:=GW b _ q2 e2
  obtain⟨dA,q4⟩:=GV b _ q3 e2
  exact⟨dA,q4⟩
 .obtain⟨o2,e3,e4⟩:=LM
  obtain⟨o3,e5,e6⟩:=d3 e o2 e3
  obtain⟨o4,e7,e8⟩:=d4 e o3 e5
  exact⟨o4,e7,e8.trans (e6.trans e4)⟩
end
def jcU{e:ae}{a b:Env}(h:a.frame=b.frame):fY e a=fY e b:=by unfold fY xI;rw[h]
variable {nP:ce}
def XD.blk(W:XD X E){own:List Str}{fr:List Nat}{ad:List (ac×Obj)}{σ:St}{ex:List ac}(I:xJ X ad σ H s)(hex:∀b∈ex,Z5 X ad H b/\b < s.heap.objs.size):
  ym (PY X.prog X.w) ((L2.blk X nP own fr s H ex).wish (notedBy (au X.prog X.w) X.A (L2.blk X nP own fr s H ex).Ec (Ze (au X.prog X.w) X.A s.heap.objs.size X.xe))) E:=by
 intro A4 σ1 H1 s1 ev s2 J hx
 obtain⟨ea,cls,dd,H2,rfl,os,bare,un,hok,fly,hE⟩:=hx
 have J0:xJ (L2.blk X nP own fr s H ex) A4 σ1 H1 s1:=J.unwish
 have J1:xJ (L2.blk X nP own fr s H ex) A4 σ1 H2 s2:=J0.call' os un hok bare (fun b z=>absurd z NZ)
 have J2:xJ (L2.blk X nP own fr s H ex) [] σ1 H2 s2:=⟨J1.ok,J1.os,J1.bare,J1.base,J1.loc,J1.cell,J1.free,J1.freeC,fun p hp=>absurd hp (by simp[L2.blk]),J1.hok,J1.len⟩
 have I2:xJ X ad σ H2 s2:=jbn I hex J2 (N7 ..)
 have stk:=I2.stkFree
 have hs:=I2.stack
 have hf:=I2.ok.frames
 rw[W.Ec]at stk hs hf
 obtain⟨m,hm,_⟩:=J2.loc
 have J_:X.s₀.heap.objs.size<=s.heap.objs.size:=I.sz
 have F0:P1 X.s₀.heap H2 cls dd ea s2.heap:=by
  obtain⟨oe,vs,T,oT,ts,a0,t1,t2,t3,t4,t5,t6,t7,t8,t9,bW,cC⟩:=fly.fly.tr;have back:∀b,s1.heap.get? b=none->X.s₀.heap.get? b=none:=fun b hb=>by
   rcases hh:X.s₀.heap.get? b with _ | o
   .rfl
   .have u:Un (No X.stack) ex H H1 s.heap s1.heap:=J0.base
    have eS:=I.base;rw[W.ex]at eS;obtain⟨o',h5⟩:=eS.there b o hh NZ;by_cases hm:b∈ex
    .have:=(hex b hm).1.2.2.2.1
     rw[W.ex]at this;rcases this with z | z
     .cases z
     .exact absurd (aY hh) (Ad.mpr z)
    .obtain⟨o'',h6⟩:=u.there b o' h5 hm
     rw[h6]at hb;cases hb
  exact⟨⟨fly.fly.he,back _ fly.fly.ne,oe,vs,T,oT,ts,a0,t1,t2,t3,t4,t5,t6,t7,t8,t9,bW,back _ cC⟩,fly.dic⟩
 show am (au X.prog X.w) X.A (fY (.ref ea) (L2.blk X nP own fr s H ex).Ec) (fun _ dB=>Ze (au X.prog X.w) X.A s.heap.objs.size X.xe (.ref ea) dB) (fun y dB=>Ze (au X.prog X.w) X.A s.heap.objs.size X.xe y dB) s2
 rw[jcU (show (L2.blk X nP own fr s H ex).Ec.frame=X.Ec.frame from rfl),W.xe]
 refine jfr (h0:=X.s₀.heap) (base:=X.base) (Q2:=fun x _ dB=>PY X.prog X.w X.iw X.H₀ X.s₀ E x dB) (E2:=fun x y dB=>PY X.prog X.w X.iw X.H₀ X.s₀ E y dB) hf hs W.fr F0 stk (W.hH I2) (fun gU=>?_) J2.free ?_ hm (fun h' l f=>W.left I2 l f hE) (W.hbs I2)
 .have z:=I.nofs (a:=s.heap.objs.size) (aK _)
  unfold No at gU
  rw[fF,W.fr]at gU
  rcases aA.mp gU with q | q
  .exact absurd I.lt (by rw[<- q];exact iY _)
  .exact z q
 .rcases hh:X.s₀.heap.get? s.heap.objs.size with _ | o
  .rfl
  .exact absurd (aY hh) (Ad.mpr J_)
def jhP{bt tg iter:aj}{ifs:List aj}{wi:TI}{g:TG}{tt:TT}{te:TE}{use:Option (ae->Sem Unit)}{own:List Str}{fr:List Nat}(W:XD X E)(hc:X.calm=true)(O:P3 X nP fr)(hi:PI X tg iter wi)
  (hb:∀s H ex xe,ym (PY X.prog X.w) ((blk X nP own fr s H ex).wish xe) E->PG ((blk X nP own fr s H ex).wish xe) tg g/\SL ((blk X nP own fr s H ex).wish xe) ifs tt/\PE ((blk X nP own fr s H ex).wish xe) bt te)
  (hs:∀x,iT iter X.Ec x=pure x) {ad:List (ac×Obj)} {s:af} {σ:St} {H:Hp} {Q:VK} {R:ae->af->Prop} (I:xJ X ad σ H s) (h:ZQ own fr wi g tt te σ H Q)
  (fin:∀(p C:ac) (H':Hp) (s':af) (m:Str->Option ae),s'.heap.Ns C m->H' C=none->C≠X.Ec.locals->(∀x c,X.Ec.cells.lookup x=some c->c≠C)->X.s₀.heap.objs.size<=C->(∀p∈X.pn++ad,p.1≠C)->xJ X ad σ H' s'->(∀h',dX C s'.heap h'->xJ X ad σ H' { s' with heap:=h' })->Q (.ref p) H'->
   xK (au X.prog X.w) X.A X.xe use R (.ref p) C (.ok .next) s') :
  am (au X.prog X.w) X.A (comprehension (.ListComp bt [⟨tg,iter,ifs,0⟩] nP x5) nP X.Ec (D3 [⟨tg,iter,ifs,0⟩] x5) (sY []) false (eval iter X.Ec) use) R X.xe s:=by
 refine jb9 hc O hi (fun {_ _ H s ex} I fo=>⟨_,fun _ _ z=>z,?_⟩) hs I h fin
 exact hb s H ex _ (W.blk (nP:=nP) (own:=own) (fr:=fr) I fo)
def YI{bt tg iter:aj}{ifs:List aj}{x5:Pos}{wi:TI}{g:TG}{tt:TT}{te:TE}{i:Nat}{y:Str}{py iy:Pos}(hN:X.N.Nodup)(cM:X.N[i]?=some y)(hy:Loc X.Ec.scope y)(own:List Str)(fr:List Nat)(W:XD X E)(hc:X.calm=true)(O:P3 X nP fr)(hi:QI X tg iter wi)
  (hb:∀s H ex xe,ym (PY X.prog X.w) ((blk X nP own fr s H ex).wish xe) E->QG ((blk X nP own fr s H ex).wish xe) tg g/\QTs ((blk X nP own fr s H ex).wish xe) ifs tt/\QE ((blk X nP own fr s H ex).wish xe) bt te)
  (hs:∀x,iT iter X.Ec x=pure x:=by intro _;rfl)
  (k_:gC (.ListComp bt [⟨tg,iter,ifs,0⟩] nP x5) (some (.Name y py)) iy.line X.Ec=pure true:=by rfl)
  (hf:X.fn y=true\/X.Ec.scope.names.lookup y=some .local:=by first | exact .inl rfl | exact .inr rfl | assumption) :
  QS X (.Assign [.Name y py] (.ListComp bt [⟨tg,iter,ifs,0⟩] nP x5) iy) (R8 (ZQ own fr wi g tt te) (qz i)):=by
 refine⟨fun ad s σ H D I h=>?_⟩
 rw[Nm _ _ _ _ k_]
 refine aq (lO (aq ?_))
 show am _ _ (do let _ <- comprehension (.ListComp bt [⟨tg,iter,ifs,0⟩] nP x5) nP X.Ec _ (sY []) false (eval iter X.Ec) (some (assign (.Name y py) X.Ec))) _ _ s
 refine aq (bz (jhP (use:=some (assign (.Name y py) X.Ec)) (R:=fun _ s'=>SP X ad D .next s') W hc O hi.h (fun s H ex xe W'=>⟨(hb s H ex xe W').1.h,(hb s H ex xe W').2.1.h,(hb s H ex xe W').2.2.h⟩) hs I h
  fun p C H' s' m hm hC hL o8 hz vw I' back q=>?_) (fun _ s' hq=>aO (aO hq)) fun _ _ e=>e)
 show am _ _ (assign (.Name y py) X.Ec (.ref p)) _ _ _
 refine DR (Zr (v:=.ref p) I' hN cM hy rfl (fun s2 I2 vm=>?_) hf)
 obtain⟨a,vo,ha⟩:=vm
 have wk:C≠a:=by
  rcases ha with rfl | e
  .exact hL
  .exact fun z=>o8 _ _ e z.symm
 refine⟨m,hm.sameBut vo wk,fun h' cu=>?_⟩
 exact⟨_,H',I2.turned (t':=s2.toks) (fun b o hb e=>(cu.2 b hb).trans e) hC hL (.inr hz) o8 vw,q⟩
theorem jfG{k k':Nat}{t:TA}{p x5:Pos}(F:NI X.prog X.w X.K X.mg X.base k x ps sp)(W:ym (PY X.prog X.w) X E)(hr:Np k' X.A)(ha:QA X (e :: es) t)(hk:k<=k':=by first | decide | omega)(hg:Gl X x:=by rfl)
  (hd:(x == ("__debug__" : Str))=false:=by decide) (hp:(e :: es).all qD=true:=by rfl):QE X (.Call (.Name x p) (e :: es) [] x5) (zM sp [] E t):=by
 obtain⟨f,fd,G,b,kp,m⟩:=F.ex
 rw[eX,bg]at hp
 exact⟨jcQ G (hr.mono hk) hg m kp b .nil W ha.h hd (qX hp.1 es X.Ec) (yV x5 X.Ec es hp.2)⟩
open PySem PySem.Spec PyProof.Rows PySem.W
def jbw(h:X.K=K:=by rfl):Qm X (dy .NotIn) (rIn K true):=by subst h;exact Y1
def jeU(h:X.K=K:=by rfl):Qm X (dy .In) (rIn K false):=by subst h;exact KL
theorem yH(x:Str):∀ys:List Str,RD (.str x) (ys.map V.str)=decide (x∈ys)
 | []=>by simp[RD]
 | y :: ys=>by
  have ih:=yH x ys;unfold RD at ih |-;rw[bn,nZ,ih];have e:RE (.str y) (.str x)=decide (x=y):=by
   show (y == x)=_;by_cases h:x=y
   .subst h;simp
   .rw[PM h];simpa using fun z=>h z.symm
  rw[e];simp[aA]
theorem Jp:∀ys:List Str,(ys.map V.str).all K5=true
 | []=>rfl
 | y :: ys=>by rw[bn,eX,Jp ys];rfl
theorem Rp{a b c:List Nat}(h1:ltCps a b=true)(h2:ltCps b c=true):ltCps a c=true:=by
 induction a generalizing b c with
 | nil=>cases c with
  | nil=>cases b <;> simp[ltCps]at h1 h2
  | cons _ _=>rfl
 | cons x a ih=>
  cases b with
  | nil=>simp[ltCps]at h1
  | cons y b=>cases c with
   | nil=>simp[ltCps]at h2
   | cons z c=>
    simp only[ltCps,Au,bg,decide_eq_true_eq,beq_iff_eq]at h1 h2 |-;rcases h1 with h1 | ⟨h1,pk⟩
    .rcases h2 with h2 | ⟨h2,Cs⟩
     .left;omega
     .left;omega
    .rcases h2 with h2 | ⟨h2,Cs⟩
     .left;omega
     .right;exact⟨N4,ih pk Cs⟩
variable {t1 t2 u:TS}
def Y7{D:OK}{σ:St}(h:let r2:=u;let r1:=jC t2 r2;jC t1 r1 D σ H):(jC t1 (jC t2 u)) D σ H:=h
variable {t3 t4:TS}
def K4{D:OK}{σ:St}(h:let r4:=u;let r3:=jC t4 r4;let r2:=jC t3 r3;let r1:=jC t2 r2;jC t1 r1 D σ H):(jC t1 (jC t2 (jC t3 (jC t4 u)))) D σ H:=h
variable {t5:TS}
def jnX{D:OK}{σ:St}(h:let r5:=u;let r4:=jC t5 r5;let r3:=jC t4 r4;let r2:=jC t3 r3;let r1:=jC t2 r2;jC t1 r1 D σ H):(jC t1 (jC t2 (jC t3 (jC t4 (jC t5 u))))) D σ H:=h
variable {t6:TS}
def jjy{D:OK}{σ:St}(h:let r6:=u;let r5:=jC t6 r6;let r4:=jC t5 r5;let r3:=jC t4 r4;let r2:=jC t3 r3;let r1:=jC t2 r2;jC t1 r1 D σ H):(jC t1 (jC t2 (jC t3 (jC t4 (jC t5 (jC t6 u)))))) D σ H:=h
variable {t7:TS}
def jnW{D:OK}{σ:St}(h:let r7:=u;let r6:=jC t7 r7;let r5:=jC t6 r6;let r4:=jC t5 r5;let r3:=jC t4 r4;let r2:=jC t3 r3;let r1:=jC t2 r2;jC t1 r1 D σ H):(jC t1 (jC t2 (jC t3 (jC t4 (jC t5 (jC t6 (jC t7 u))))))) D σ H:=h
variable {t8:TS}
def jnV{D:OK}{σ:St}(h:let r8:=u;let r7:=jC t8 r8;let r6:=jC t7 r7;let r5:=jC t6 r6;let r4:=jC t5 r5;let r3:=jC t4 r4;let r2:=jC t3 r3;let r1:=jC t2 r2;jC t1 r1 D σ H):(jC t1 (jC t2 (jC t3 (jC t4 (jC t5 (jC t6 (jC t7 (jC t8 u)))))))) D σ H:=h
variable {t9:TS}
def jnU{D:OK}{σ:St}(h:let r9:=u;let r8:=jC t9 r9;let r7:=jC t8 r8;let r6:=jC t7 r7;let r5:=jC t6 r6;let r4:=jC t5 r5;let r3:=jC t4 r4;let r2:=jC t3 r3;let r1:=jC t2 r2;jC t1 r1 D σ H):(jC t1 (jC t2 (jC t3 (jC t4 (jC t5 (jC t6 (jC t7 (jC t8 (jC t9 u))))))))) D σ H:=h
variable {bW:TS}
def jmO{D:OK}{σ:St}(h:let ol:=u;let r9:=jC bW ol;let r8:=jC t9 r9;let r7:=jC t8 r8;let r6:=jC t7 r7;let r5:=jC t6 r6;let r4:=jC t5 r5;let r3:=jC t4 r4;let r2:=jC t3 r3;let r1:=jC t2 r2;jC t1 r1 D σ H):(jC t1 (jC t2 (jC t3 (jC t4 (jC t5 (jC t6 (jC t7 (jC t8 (jC t9 (jC bW u)))))))))) D σ H:=h
def jmN{cC:TS}{D:OK}{σ:St}(h:let oj:=u;let ol:=jC cC oj;let r9:=jC bW ol;let r8:=jC t9 r9;let r7:=jC t8 r8;let r6:=jC t7 r7;let r5:=jC t6 r6;let r4:=jC t5 r5;let r3:=jC t4 r4;let r2:=jC t3 r3;let r1:=jC t2 r2;jC t1 r1 D σ H):(jC t1 (jC t2 (jC t3 (jC t4 (jC t5 (jC t6 (jC t7 (jC t8 (jC t9 (jC bW (jC cC u))))))))))) D σ H:=h
def jmM{cC AI AH:TS}{D:OK}{σ:St}(h:let rm:=u;let rp:=jC AH rm;let oj:=jC AI rp;let ol:=jC cC oj;let r9:=jC bW ol;let r8:=jC t9 r9;let r7:=jC t8 r8;let r6:=jC t7 r7;let r5:=jC t6 r6;let r4:=jC t5 r5;let r3:=jC t4 r4;let r2:=jC t3 r3;let r1:=jC t2 r2;jC t1 r1 D σ H):(jC t1 (jC t2 (jC t3 (jC t4 (jC t5 (jC t6 (jC t7 (jC t8 (jC t9 (jC bW (jC cC (jC AI (jC AH u))))))))))))) D σ H:=h
def jlZ(mask:Nat):Nat->Nat×Nat->Nat×Nat
 | 0,p=>p
 | n+1,p=>jlZ mask n (nJ mask p.1 p.2)
def R6(M:Nat):Nat->Nat->Nat
 | 0,a=>a
 | n+1,a=>R6 M n ((a * 5+1) % M)
theorem jag(M:Nat):∀(a b x:Nat),R6 M (a+b) x=R6 M b (R6 M a x)
 | 0,b,x=>by rw[nR];rfl
 | a+1,b,x=>by rw[show a+1+b=a+b+1 by omega];exact jag M a b _
def Full(M:Nat):Prop:=(∀e,e < M->∃k,k < M/\R6 M k 0=e)/\R6 M M 0=0
theorem Full.reach{M:Nat}(F:Full M){a e:Nat}(ha:a < M)(he:e < M):∃k,k < M/\R6 M k a=e:=by
 obtain⟨i,hi,rfl⟩:=F.1 a ha;obtain⟨j,hj,rfl⟩:=F.1 e he;rcases gf j i with c | c
 .refine⟨M - i+j,N4,?_⟩
  rw[<- jag,show i+(M - i+j)=M+j from N4,jag,F.2]
 .refine⟨j - i,N4,?_⟩
  rw[<- jag,show i+(j - i)=j by omega]
def Rf(t:iV)(p:nK):Nat->nK
 | 0=>p
 | n+1=>t.advance (Rf t p n)
theorem jfV(t:iV)(p:nK)(a:Nat):∀b,Rf t p (a+b)=Rf t (Rf t p a) b
 | 0=>rfl
 | b+1=>by show t.advance (Rf t p (a+b))=_;rw[jfV t p a b];rfl
theorem jdx(t:iV):∀(n:Nat) (p:nK),n<=p.more->Rf t p n={ p with j:=p.j+n,more:=p.more - n }
 | 0,p,_=>rfl
 | n+1,p,h=>by show t.advance (Rf t p n)=_;rw[jdx t n p N4];unfold NU;dsimp only;rw[PP N4];congr 1
theorem jmk(mask i:Nat):xU mask i - i<=9:=by unfold xU;split <;> omega
def jm8(t:iV)(p:nK):Prop:=p.j=p.i/\p.more=xU t.mask p.i - p.i
theorem jhA{t:iV}{p:nK}(h:jm8 t p):∃n,n<=10/\jm8 t (Rf t p n)/\((Rf t p n).i,(Rf t p n).perturb)=nJ t.mask p.i p.perturb:=by
 refine⟨p.more+1,?_,?_⟩
 .have:=jmk t.mask p.i
  rw[<- h.2]at this;omega
 .have e:Rf t p (p.more+1)={ p with j:=(nJ t.mask p.i p.perturb).1,more:=xU t.mask (nJ t.mask p.i p.perturb).1 - (nJ t.mask p.i p.perturb).1,i:=(nJ t.mask p.i p.perturb).1,perturb:=(nJ t.mask p.i p.perturb).2 }:=by show t.advance (Rf t p p.more)=_;rw[jdx t p.more p (aK _)];unfold NU;dsimp only;rw[PN N4]
  rw[e];exact⟨⟨rfl,rfl⟩,rfl⟩
theorem jnZ{t:iV}:∀(n:Nat) {p:nK},jm8 t p->∃m,m<=10 * n/\(Rf t p m).j=(jlZ t.mask n (p.i,p.perturb)).1
 | 0,p,h=>⟨0,aK _,h.1⟩
 | n+1,p,h=>by obtain⟨a,ha,h1,h2⟩:=jhA h;obtain⟨b,hb,h3⟩:=jnZ n h1;refine⟨a+b,N4,?_⟩;rw[jfV,h3,h2];rfl
def Rg{uJ:Array (Option Nat)}{j:Nat}(h:uJ.getD j (some 0)=none):uJ[j]?=some none:=by
 by_cases hj:j < uJ.size
 .rw[Fq hj]
  simp[PH,hj]at h;rw[h]
 .simp[PH,hj]at h
section
variable {prog:aC}{w:ax}{K:Type}[DecidableEq K]{knd:KeyKind prog w K}{A:aN}{E:ae->af->Prop}
def Msk(n mask:Nat):Prop:=(mask=7/\n<=4)\/(mask=31/\n<=18)\/(mask=127/\n<=76)
theorem Msk.le{n mask:Nat}(h:Msk n mask):n<=mask/\n+1<=mask/\mask<=127:=by unfold Msk at h;omega
end
end L2
namespace PySem
end PySem
namespace L2
open PySem PySem.Spec PyProof.Rows PySem.W
end L2
namespace LW
open PySem L2
def NS(i:Nat):ay:=PySem.Challenge.pw_outlineward_k25_whole_texts_refused.main.body.getD i (.Pass ⟨0,0,0,0⟩)
theorem q5{H:Hp}:∀{xs:List Str} {vs:List V},MN H (xs.map D.str) vs->vs=xs.map V.str
 | [],_,h=>jX h
 | _ :: _,_,h=>by
  obtain⟨v,r,rfl,h1,h2⟩:=ji h
  cases jT h1
  rw[q5 h2];rfl
structure Pc where
 f:Str
 ps:List Str
 rs:List Str
 nd:List Cl
 gv:List Cl
 lv:Nat
 bd:List (Qi lv)
def Pc.toD(p:Pc):D:=.tup [.str "proc",.str p.f,.tup (p.ps.map D.str),.tup (p.rs.map D.str),.tup (p.nd.map Cl.toD),.tup (p.gv.map Cl.toD),.tup (p.bd.map (Re p.lv))]
variable {H:Hp}
def jms{p:Pc}{v:V}(h:Na H p.toD v):∃a ap ar an ag ab vn vg vb,v=.ref a/\H a=some (.tup [.str "proc",.str p.f,.ref ap,.ref ar,.ref an,.ref ag,.ref ab])/\H ap=some (.tup (p.ps.map V.str))/\H ar=some (.tup (p.rs.map V.str))/\H an=some (.tup vn)/\MN H (p.nd.map Cl.toD) vn/\H ag=some (.tup vg)/\MN H (p.gv.map Cl.toD) vg/\H ab=some (.tup vb)/\MN H (p.bd.map (Re p.lv)) vb:=by
 obtain⟨a,xs,rfl,ha,h1⟩:=jJ h;obtain⟨v1,r1,rfl,e1,h2⟩:=ji h1;obtain⟨v2,r2,rfl,e2,h3⟩:=ji h2;obtain⟨v3,r3,rfl,e3,h4⟩:=ji h3;obtain⟨v4,r4,rfl,e4,h5⟩:=ji h4;obtain⟨v5,r5,rfl,e5,h6⟩:=ji h5;obtain⟨v6,r6,rfl,e6,h7⟩:=ji h6;obtain⟨v7,r7,rfl,e7,h8⟩:=ji h7
 cases jX h8
 cases jT e1
 cases jT e2
 obtain⟨ap,xp,rfl,hp,iF⟩:=jJ e3;obtain⟨ar,xr,rfl,hr,bS⟩:=jJ e4;obtain⟨an,vn,rfl,hn,iH⟩:=jJ e5;obtain⟨ag,vg,rfl,hg,Iu⟩:=jJ e6;obtain⟨ab,vb,rfl,hb,cm⟩:=jJ e7
 cases q5 iF
 cases q5 bS
 exact⟨a,ap,ar,an,ag,ab,vn,vg,vb,rfl,ha,hp,hr,hn,iH,hg,Iu,hb,cm⟩
theorem jjh:∀{l m:List Str},l.Nodup->(∀x∈l,x∈m)->l.length<=m.length
 | [],_,_,_=>cn _
 | x :: l,m,nd,h=>by
  obtain⟨n1,n2⟩:=bM.mp nd;have hx:=h x aJ;have:=jjh (m:=m.erase x) n2 fun y hy=>(List.mem_erase_of_ne (show y≠x from fun z=>n1 (by rw[<- z];exact hy))).mpr (h y (aH _ hy))
  rw[List.length_erase_of_mem hx]at this;have:0 < m.length:=List.length_pos_of_mem hx;rw[aM];omega
variable {tt:TT}{ta tb u:TS}
def JX{D:OK}{σ:St}(C:Bool->Hp->Prop)(k:∀b G,C b G->if b=true then ta { D with nx:=u D } σ G else tb { D with nx:=u D } σ G)(h:(∀b G,C b G->if b=true then ta { D with nx:=u D } σ G else tb { D with nx:=u D } σ G)->yL tt ta tb { D with nx:=u D } σ H):jC (yL tt ta tb) u D σ H:=h k
abbrev jis:ay:=NS 47
abbrev jiq:ay:=NS 48
abbrev jip:ay:=NS 49
abbrev jcC:ay:=NS 53
abbrev jin:ay:=NS 50
abbrev jeI:ay:=NS 51
abbrev Dl:Type:=Prod Int Int
def Nl(w:Int)(s:Dl):HO:=.lst [.int s.1,.int s.2]
def jlP{D:OK}{σ:St}(J:St->Hp->Prop)(k:∀σ' G,J σ' G->u D σ' G)(h:(∀σ' G,J σ' G->u D σ' G)->yL tt ta tb { D with nx:=u D } σ H):jC (yL tt ta tb) u D σ H:=h k
def uo(a:ac)(H H':Hp):Prop:=∀b o,b≠a->H b=some o->H' b=some o
def uo.upd(a:ac)(H:Hp)(o:HO):uo a H (L2.upd H a o):=fun b u hb e=>by rw[jq hb];exact e
variable {a:ac}
def uo.trans{H1 H2:Hp}(h:uo a H H1)(h':uo a H1 H2):uo a H H2:=fun b o hb e=>h' b o hb (h b o hb e)
variable {H':Hp}
def uo.same(h:ML H H'):uo a H H':=fun b o _ e=>h b o e
def jd{p:ac}(h:H p=none)(o:HO):ML H (upd H p o):=fun b u q=>by rw[jq (jm q h)];exact q
def Rq(x:Int):Int:=if x < 0 then -x else x
def Sb(ns:List Int)(k:Int):Int×Dl:=
 (0,if k < (ns.length:Int)/\10 ^ 18<=Rq (ns.getD k.toNat 0) then Rq (ns.getD k.toNat 0) else 0,
  (if 0 < ns.length then ns.getD (k % (ns.length:Int)).toNat 0 * 48271+7919 * k * k else 7919 * k+11) % 2147483647)
def jk(w:Int)(n:Dl)(m:Int):Int×Dl:=
 if 0 < n.1 then (n.1 % m,n.1 / m,n.2) else
 let n1:=(n.2 * 48271+7919) % 2147483647
 let n2:=(n1 * 40692+104729) % 2147483399
 ((n1 * n1 % 2147483629 * 2147483563+n2 * n2 % 2147483563) % m,n.1,n2)
theorem jN(w:Int)(n:Dl){m:Int}(h:0 < m):0<=(jk w n m).1:=by
 unfold jk;split
 .exact ul _ N4
 .exact ul _ N4
def jL(w:Int)(n:Dl){m:Int}(h:0 < m):(jk w n m).1 < m:=by
 unfold jk;split
 .exact um _ h
 .exact um _ h
def Y4(w:Int)(n:Dl):Int×Dl:=
 let a:=jk w n 4
 if a.1 < 2 then jk w a.2 (if a.1=0 then 1 else 10)
 else ((5 - 2 * a.1) * (jk w a.2 (10 ^ 18+1)).1,(jk w a.2 (10 ^ 18+1)).2)
theorem jka{ns:List Int}{k:Int}(h0:0<=k)(h:k < (ns.length:Int)):Qd (ns.map V.int) k=some (.int (ns.getD k.toNat 0)):=by
 have hk:k.toNat < ns.length:=by omega
 have ek:k=((k.toNat:Nat):Int):=by omega
 have q:Qd (ns.map V.int) ((k.toNat:Nat):Int)=some (.int (ns.getD k.toNat 0)):=ju (by rw[bP,aP hk,eI,aP hk] <;> rfl);rw[<- ek]at q;exact q
def jeD(K:ao):Sp:=fun vs H Q _=>∃(a:ac) (ns:List Int) (k:Int),vs=[.ref a,.int k]/\ES K H a (ns.map V.int)/\ns.length<=63/\0<=k/\k<=1000/\
 ∀(r:ac) (H':Hp),H r=none->ML H H'->H' r=some (Nl (Sb ns k).1 (Sb ns k).2)->Q (.ref r) H'
def qJ:Sp:=fun vs H Q _=>∃(a:ac) (w:Int) (n:Dl) (m:Int),vs=[.ref a,.int m]/\H a=some (Nl w n)/\0 < m/\m < 2 ^ 200/\Q (.int (jk w n m).1) (upd H a (Nl w (jk w n m).2))
def jig(K:ao):Sp:=fun vs H Q _=>∃(a:ac) (ns:List Int),vs=[.ref a]/\ES K H a (ns.map V.int)/\ns.length<=63/\Q (.int (if ns.length=0 then 1 else (ns.length:Nat))) H
def Jh:Sp:=fun vs H Q _=>∃(a:ac) (w:Int) (n:Dl),vs=[.ref a]/\H a=some (Nl w n)/\∀H',uo a H H'->H' a=some (Nl w (Y4 w n).2)->Q (.int (Y4 w n).1) H'
structure MH(H:Hp)(a:ac)(ds:List ac)(L:List (Int×Dl)):Prop where
 l:H a=some (.lst (ds.map V.ref))
 n:ds.length=L.length
 nd:ds.Nodup
 few:ds.length<=100
 at_:∀(i:Nat) d x,ds[i]?=some d->L[i]?=some x->H d=some (Nl x.1 x.2)
def qI:List (Int×Dl)->(Int×Dl)×List (Int×Dl)
 | []=>((0,1,7),[])
 | x :: L=>(x,L)
def Yb:Sp:=fun vs H Q _=>∃(a:ac) (ds:List ac) (L:List (Int×Dl)),vs=[.ref a]/\MH H a ds L/\∀(r:ac) (H':Hp),uo a H H'->(H r=none\/r∈ds)->H' r=some (Nl (qI L).1.1 (qI L).1.2)->r ∉ ds.tail->MH H' a ds.tail (qI L).2->Q (.ref r) H'
def jO:List Str:=["each","rise","to","proc","need","give","back","any","claim","if","else","end","while","keep","call","out"]
def jcv:Sp:=fun vs H Q _=>vs=[]/\∀l,H l=none->Q (.ref l) (upd H l (.lst (jO.map V.str)))
variable {P:aC}{w:ax}{K:ao}{mg:Str->Option ae}{base:ak}{f:ac}{fd:aE}
section
theorem jk6(F:Fun K "_law_deal" "_law_deal" jis f fd)(B:Ni mg):MT P w K mg base PU 1 f fd MR (jeD K):=by
 have sc:tS ["_law_script","_law_k","_law_number_here","_law_own"] MR (jo jis):=fQ;refine F.okZ sc (fun aB A iw s H vs Q E hr h=>?_);obtain⟨a,ns,k,rfl,hS,Lh,h0,h1,q⟩:=h;have hu:=jl0 hr;refine⟨_,(ja (jh 2 sc.nd (jn qb (jn yE je (bB 1)) je)) (ja (jh 3 sc.nd je) (ja (jR (jx Kj (j7 jE N9 B.len_ ku (jp (bB 0))) je (jA _)) (jg (jh 2 sc.nd (jn qb (jn yE (js jQ (bB 0) (jn JC (bB 1) (j7 jE N9 B.len_ ku (jp (bB 0))))) je) (jn yE (jn yE je (bB 1)) (bB 1))))) jH) (ja (jR (zx (jx Se (bB 1) (j7 jE N9 B.len_ ku (jp (bB 0))) (jA _)) (zh (jx jiP (j7 jbk N9 B.abs_ jfz (jp (js jQ (bB 0) (bB 1)))) (jn jiO je je) (jA _)))).pt (jg (jh 3 sc.nd (j7 jbk N9 B.abs_ jfz (jp (js jQ (bB 0) (bB 1)))))) jH) (jg (jy (jI (jj (bB 3) (jn JC (bB 2) je))))))))),?_⟩
 refine kK ?_;refine K4 ?_;intro _ _ _ _;have hl:(ns.map V.int).length=ns.length:=av _;refine Pp rfl (Pq rfl rfl ⟨.inl ⟨N5,N5⟩,Pq rfl rfl ?_⟩);refine gQ ?_;dsimp only;refine (?_:qz 3 (V.int 0) [some (.ref a),some (.int k),some (.int (7919 * k+11)),none] H _);refine gQ ?_;dsimp only;unfold Sb at q;refine jlP (fun σ G=>σ=[some (.ref a),some (.int k),some (.int (if 0 < ns.length then ns.getD (k % (ns.length:Int)).toNat 0 * 48271+7919 * k * k else 7919 * k+11)),some (.int 0)]/\G=H) ?_ (fun kk=>?_);rotate_left
 .refine Pp rfl ⟨a,Pp rfl ⟨.inl hS,Pq rfl rfl (Pp rfl (kW (fun c=>?_) (fun c=>?_)))⟩⟩
  .have c':0 < ns.length:=by have:=PK c;rw[hl]at this;omega
   have HZ:0<=k % (ns.length:Int):=ul _ N4;have fO:k % (ns.length:Int) < (ns.length:Int):=um _ N4;have bF:Qd (ns.map V.int) (k % (((ns.map V.int).length:Nat):Int))=some (.int (ns.getD (k % (ns.length:Int)).toNat 0)):=by rw[hl];exact jka HZ fO
   refine Ps rfl rfl (Pp rfl ⟨a,Pp rfl ⟨.inl hS,Pq rfl rfl ⟨(by rw[hl];omega),a,_,Pq rfl rfl ⟨hS,bF,Pq rfl rfl ⟨.inr ⟨N5,N5⟩,Pp rfl (Pq rfl rfl ⟨.inl ⟨N5,N5⟩,Pp rfl (Pq rfl rfl ⟨.inl ⟨N4,N4⟩,Pq rfl rfl ?_⟩)⟩)⟩⟩⟩⟩⟩);exact kk _ _ ⟨by rw[PP c'];rfl,rfl⟩
  .have c':¬0 < ns.length:=fun e=>c (PL (by rw[hl];omega))
   exact kk _ _ ⟨by rw[PN c'],rfl⟩
 rintro σ G ⟨rfl,rfl⟩;generalize (if 0 < ns.length then ns.getD (k % (ns.length:Int)).toNat 0 * 48271+7919 * k * k else 7919 * k+11)=nh at *;refine jlP (fun σ G'=>σ=[some (.ref a),some (.int k),some (.int nh),some (.int (if k < (ns.length:Int)/\10 ^ 18<=Rq (ns.getD k.toNat 0) then Rq (ns.getD k.toNat 0) else 0))]/\G'=G) ?_ (fun kk=>?_);rotate_left
 .refine Ps rfl rfl ⟨a,Pp rfl ⟨.inl hS,Pq rfl rfl (Pp rfl (kW (fun c=>?_) (fun c=>?_)))⟩⟩
  .have c':k < (ns.length:Int):=by have:=PK c;rw[hl]at this;exact this
   have bF:Qd (ns.map V.int) k=some (.int (ns.getD k.toNat 0)):=jka h0 c';refine Ps rfl rfl ⟨a,_,Pq rfl rfl ⟨hS,bF,Pp rfl ⟨10,18,rfl,rfl,⟨N5,N5,N5⟩,Pq rfl rfl (Pp rfl (kW (fun c2=>?_) (fun c2=>?_)))⟩⟩⟩
   .have m5:=PK c2
    refine Ps rfl rfl ⟨a,_,Pq rfl rfl ⟨hS,bF,Pp rfl ?_⟩⟩;have e9:(if k < (ns.length:Int)/\10 ^ 18<=Rq (ns.getD k.toNat 0) then Rq (ns.getD k.toNat 0) else 0)=Rq (ns.getD k.toNat 0):=PP ⟨c',m5⟩;exact kk _ _ ⟨by rw[e9];rfl,rfl⟩
   .exact kk _ _ ⟨by rw[PN (fun h=>c2 (PL h.2))],rfl⟩
  .exact kk _ _ ⟨by rw[PN (fun h=>c (PL (by rw[hl];exact h.1)))],rfl⟩
 rintro σ G' ⟨rfl,rfl⟩;refine Ps rfl rfl (Pq rfl rfl ⟨(by show (0:Int) < _;decide),sm rfl,fun r bS=>?_⟩);exact q r _ bS (jd bS _) jc
theorem jk4(F:Fun K "_law_draw" "_law_draw" jiq f fd):MT P w K mg base PU 1 f fd Nx qJ:=by
 have sc:tS ["_law_deal_here","_law_many_here","_law_found","_law_number_here","_law_one","_law_two"] Nx (jo jiq):=fQ;refine F.okZ sc (fun aB A iw s H vs Q E hr h=>?_);obtain⟨a,w,n,m,rfl,hS,h0,h1,q⟩:=h;refine⟨_,(ja (jR (jx Kj (js jQ (bB 0) je) je (jA _)) (ja (jh 2 sc.nd (jn JC (js jQ (bB 0) je) (bB 1))) (ja (kz (jn Y2 (js jQ (bB 0) je) (bB 1)) (jfF (bB 0) je jdw)) (jg (jy (bB 2))))) jH) (ja (jh 3 sc.nd (jn JC (jn qb (jn yE (js jQ (bB 0) je) je) je) je)) (ja (kz (jn JC (jn qb (jn yE (bB 3) je) je) je) (jfF (bB 0) je jdw)) (ja (jh 4 sc.nd (jn JC (jn yE (bB 3) (bB 3)) je)) (ja (jh 5 sc.nd (jn JC (jn yE (js jQ (bB 0) je) (js jQ (bB 0) je)) je)) (jg (jy (jn JC (jn qb (jn yE (bB 4) je) (bB 5)) (bB 1))))))))),?_⟩
 refine kK ?_;have mX:H a=some (.lst [.int n.1,.int n.2]):=hS;refine Pp rfl ⟨a,_,Pq rfl rfl ⟨ES.of mX,rfl,Pq rfl rfl (Pp rfl (kW (fun c=>?_) (fun c=>?_)))⟩⟩
 .have c':=PK c
  unfold jk at q;rw[PP c']at q;refine Pp rfl ⟨a,_,Pq rfl rfl ⟨ES.of mX,rfl,Pp rfl (Pq rfl rfl ⟨h0,?_⟩)⟩⟩;refine gQ ?_;refine Pp rfl ⟨a,_,Pq rfl rfl ⟨ES.of mX,rfl,Pp rfl (Pq rfl rfl ⟨⟨h0,h1⟩,Pp rfl ⟨a,_,_,0,rfl,rfl,mX,rfl,?_⟩⟩)⟩⟩;exact Pp rfl q
 .have c':¬0 < n.1:=fun z=>c (PL z)
  have b1:∀x:Int,0<=x % 2147483647/\x % 2147483647 < 2147483647:=fun x=>⟨ul _ N5,um _ N5⟩
  have b2:∀x:Int,0<=x % 2147483399/\x % 2147483399 < 2147483399:=fun x=>⟨ul _ N5,um _ N5⟩
  refine Pp rfl ⟨a,_,Pq rfl rfl ⟨ES.of mX,rfl,Pq rfl rfl ⟨.inr ⟨N5,N5⟩,Pq rfl rfl (Pq rfl rfl ⟨(by show (0:Int) < _;decide),?_⟩)⟩⟩⟩;obtain⟨x1,x2⟩:=b1 (n.2 * 48271+7919);unfold jk at q;rw[PN c']at q;dsimp only at q;refine gQ ?_;refine Pp rfl (Pq rfl rfl ⟨.inr ⟨N5,N5⟩,Pq rfl rfl (Pq rfl rfl ⟨(by show (0:Int) < _;decide),Pp rfl ⟨a,_,_,1,rfl,rfl,mX,rfl,?_⟩⟩)⟩);obtain⟨y1,y2⟩:=b2 ((n.2 * 48271+7919) % 2147483647 * 40692+104729);refine Ps rfl rfl (Pq rfl rfl ⟨.inl ⟨N4,N4⟩,Pq rfl rfl ⟨(by show (0:Int) < _;decide),?_⟩⟩);refine gQ ?_;refine Pp rfl ⟨a,_,Pq rfl rfl ⟨ES.of jc,rfl,Pp rfl ⟨a,_,Pq rfl rfl ⟨ES.of jc,rfl,Pq rfl rfl ⟨.inl ⟨N4,N4⟩,Pq rfl rfl ⟨(by show (0:Int) < _;decide),?_⟩⟩⟩⟩⟩⟩;refine gQ ?_;refine Pp rfl (Pq rfl rfl ⟨.inr ⟨N5,N5⟩,Pp rfl (Pq rfl rfl (Pp rfl (Pq rfl rfl ⟨h0,?_⟩)))⟩);exact q
theorem jk2(F:Fun K "_law_many" "_law_many" jip f fd)(B:Ni mg):MT P w K mg base PU 1 f fd M4 (jig K):=by
 have sc:tS M4 M4 (jo jip):=fQ;refine F.ok sc (fun vs H Q E h=>?_) (fun aB A iw s H vs Q E hr h=>?_)
 .obtain⟨a,ns,rfl,_⟩:=h
  rfl
 obtain⟨a,ns,rfl,hS,Lh,q⟩:=h;refine⟨_,(jae (jcL (jdL (ZM rfl) N9 B.max_ jfy (RA Yt (RA (jdL (jhR rfl) N9 B.min_ jm1 (RA Yt (RA (jdL jE N9 B.len_ ku (RA (pv 0) Yu)) Yu))) Yu))))),?_⟩;refine Pp rfl ⟨a,Pp rfl ⟨.inl hS,_,Pp rfl ⟨_,Pp rfl ?_⟩⟩⟩;have e:(if (if (((ns.map V.int).length:Nat):Int) < 63 then (((ns.map V.int).length:Nat):Int) else 63) > 1 then (if (((ns.map V.int).length:Nat):Int) < 63 then (((ns.map V.int).length:Nat):Int) else 63) else 1)=(if ns.length=0 then 1 else ((ns.length:Nat):Int)):=by rw[av];split <;> split <;> (try split) <;> omega
 rw[e];exact q
theorem jg9(F:Fun K "_law_number" "_law_number" jcC f fd)(aG:Fn P w K mg base 1 "_law_draw" Nx qJ):MT P w K mg base PU 2 f fd Ny Jh:=by
 have sc:tS ["_law_deal_here","_law_form"] Ny (jo jcC):=fQ;refine F.okZ sc (fun aB A iw s H vs Q E hr h=>?_);obtain⟨a,w,n,rfl,hS,q⟩:=h;refine⟨_,(ja (jh 1 sc.nd (jB aG hr (jj (bB 0) je))) (ja (jR (jx Se (bB 1) je (jA _)) (jg (jy (jB aG hr (jj (bB 0) (js jQ (jI (jj je je)) (bB 1)))))) jH) (jg (jy (jn yE (jn Ki je (jn yE je (bB 1))) (jB aG hr (jj (bB 0) (jn qb (jn jiO je je) je)))))))),?_⟩
 refine kK ?_;refine Pp rfl ⟨a,w,n,4,rfl,hS,N5,N5,?_⟩;have lo:=jN w n (m:=4) N5;have hi:=jL w n (m:=4) N5;unfold Y4 at q;dsimp only at q;generalize jk w n 4=x at *;obtain⟨x,n1⟩:=x;dsimp only at lo hi q |-;refine gQ ?_;refine Pp rfl (Pq rfl rfl (Pp rfl (kW (fun c=>?_) (fun c=>?_))))
 .have c':=PK c
  rw[PP c']at q;refine Pp rfl ⟨sm rfl,fun p hp=>?_⟩;have iB:a≠p:=fun z=>by rw[<- z,jc]at hp;cases hp
  refine Pp rfl ⟨p,_,_,.int (if x=0 then 1 else 10),rfl,rfl,ES.of jc,?_,?_⟩
  .have:x=0\/x=1:=by omega
   rcases this with rfl | rfl <;> rfl
  .refine⟨a,w,n1,Pp rfl ⟨by rw[jq iB,jc],by split <;> decide,by split <;> decide,?_⟩⟩
   refine q _ (fun b o hb e=>?_) jc;rw[jq hb,jq (jm (by rw[jq hb];exact e) hp),jq hb];exact e
 .have c':¬x < 2:=fun z=>c (PL z)
  rw[PN c']at q;refine Pp rfl (Pq rfl rfl ⟨.inl ⟨N5,N5⟩,Pq rfl rfl (Pp rfl (Pq rfl rfl ⟨⟨N5,N5,N5⟩,Pq rfl rfl ?_⟩))⟩);refine⟨a,w,n1,10 ^ 18+1,rfl,jc,N5,N5,Pq rfl rfl ⟨.inl ⟨N4,N4⟩,?_⟩⟩;rw[jks];exact q _ (uo.upd _ _ _) jc
theorem jk0(F:Fun K "_law_next" "_law_next" jin f fd)(B:Ni mg):MT P w K mg base PU 1 f fd M1 Yb:=by
 have sc:tS M1 M1 (jo jin):=fQ;refine F.ok sc (fun vs H Q E h=>?_) (fun aB A iw s H vs Q E hr h=>?_)
 .obtain⟨a,ds,L,rfl,_⟩:=h
  rfl
 obtain⟨a,ds,L,rfl,D,q⟩:=h;refine⟨_,(jdI (jlS (jf1 Kj (jdL jE N9 B.len_ ku (RA (pv 0) Yu)) Yt (jA _)) (jae (jcL (jiM bL pR x6 jdR (pv 0) (RA Yt Yu)))) jf2) (jae (jcL (jiJ (RA Yt (RA Yt Yu)))))),?_⟩
 refine Pp rfl ⟨a,Pp rfl ⟨.inl (ES.of D.l),Pq rfl rfl (Pp rfl (kW (fun c=>?_) (fun c=>?_)))⟩⟩
 .have c':=PK c
  rw[av]at c';have hn:=D.n;obtain _ | ⟨d,ds⟩:=ds
  .exact absurd c' N5
  obtain _ | ⟨x,L⟩:=L
  .cases hn
  refine Pp rfl ⟨.inl ⟨rfl,_,ES.of D.l⟩,a,_,0,0,.ref d,rfl,rfl,D.l,N5,N5,?_,rfl,?_⟩
  .unfold xF;simp
  have hd:=D.at_ 0 d x rfl rfl;have uQ:=D.nd;rw[bM]at uQ;have nd:∀b y z,H b=some (.lst [.int y,.int z])->b≠a:=fun b y z e q=>by rw[q,D.l]at e;cases e
  refine q d _ (uo.upd a H _) (.inr (aJ ..)) (by rw[jq (nd _ _ _ hd)];exact hd) uQ.1 ⟨jc,tV hn,uQ.2,aw (fB _) D.few,fun i e y he hy=>?_⟩;have h2:=D.at_ (i+1) e y he hy;rw[jq (nd _ _ _ h2)];exact h2
 .have hz:ds=[]:=by
   have:¬0 < ds.length:=fun z=>c (PL (by rw[av];omega))
   exact uc.mp N4
  subst hz;have hL:L=[]:=uc.mp D.n.symm;subst hL;refine⟨sm rfl,fun p hp=>?_⟩;have s1:=jd hp (.lst [V.int 1,V.int 7]);exact q p _ (uo.same s1) (.inl hp) jc (fun z=>by cases z) ⟨s1 _ _ D.l,rfl,nT,cn _,fun i d x h=>by cases h⟩
end
section
def jkG:tS [] [] (jo jeI):=fQ
def ji1(F:Fun K "_law_taken" "_law_taken" jeI f fd):MT P w K mg base PU 1 f fd [] jcv:=by have sc:=jkG;refine F.okZ sc (fun aB A iw s H vs Q E hr h=>?_);obtain⟨rfl,q⟩:=h;refine⟨_,(jg (jy (jI (jr jb (jr jb (jr jb (jr jb (jr jb (jr jb (jr jb (jr jb (jr jb (jr jb (jr jb (jr jb (jr jb (jr jb (jj jb jb)))))))))))))))))),?_⟩;refine kK ?_;exact⟨sm rfl,fun l hl=>q l hl⟩
end
abbrev jcB:ay:=NS 54
abbrev jeH:ay:=NS 55
abbrev jcF:ay:=NS 56
def em(xs:List Str):List Str:=(aa "") :: xs
def qY(xs:List Str)(d:Int):Str:=xs.getD d.toNat ""
variable {xs:List Str}
theorem zk{d:Int}(h0:0<=d)(h1:d < (xs.length:Nat)):qY xs d∈xs:=by
 have:d.toNat < xs.length:=by omega
 unfold qY;rw[eI,aP this];exact cH this
theorem qS{d:Int}(h0:0<=d)(h1:d < (xs.length:Nat)):Qd (xs.map V.str) d=some (.str (qY xs d)):=by
 have hk:d.toNat < xs.length:=by omega
 have ek:d=((d.toNat:Nat):Int):=by omega
 have q:Qd (xs.map V.str) ((d.toNat:Nat):Int)=some (.str (qY xs d)):=ju (by unfold qY;rw[bP,aP hk,eI,aP hk] <;> rfl);rw[<- ek]at q;exact q
def uo.tk(k:uo a H H'){xs:List V}(ha:H a=some (.lst xs)):TK H H':=fun b ys e=>k b _ (fun z=>by rw[z,ha]at e;cases e) e
def uo.strs{l:ac}(k:uo a H H'){w:Int}{n:Dl}(ha:H a=some (Nl w n))(hl:H l=some (.lst (xs.map V.str))):H' l=some (.lst (xs.map V.str)):=k l _ (fun z=>by
 rw[z,ha]at hl
 cases xs with
 | nil=>cases hl
 | cons x xs=>injection hl with e;injection e with e;injection e with e;cases e) hl
def yD(w:Int)(n:Dl)(xs:List Str):(Str×Int)×Dl:=
 let a:=jk w n (((em xs).length:Nat):Int)
 let b:=Y4 w a.2
 ((qY (em xs) a.1,b.1),b.2)
def qG(w:Int)(n:Dl)(xs rs:List Str):Tm×Dl:=
 let a:=jk w n 3
 if a.1=0/\0 < rs.length then
  let b:=jk w a.2 ((rs.length:Nat):Int)
  let p:=yD w b.2 xs
  (.at_ (qY rs b.1) p.1.1 p.1.2,p.2)
 else
  let b:=jk w a.2 (((em xs).length:Nat):Int)
  (.is (qY (em xs) b.1),b.2)
def zS(w:Int)(n:Dl)(xs rs:List Str):Cl×Dl:=
 let a:=qG w n xs rs
 let b:=qG w a.2 xs rs
 let c:=Y4 w b.2
 (.least a.1 b.1 c.1,c.2)
def JV:Sp:=fun vs H Q _=>∃(d l:ac) (w:Int) (n:Dl) (xs:List Str),vs=[.ref d,.ref l]/\H d=some (Nl w n)/\H l=some (.lst (xs.map V.str))/\xs.length<=100/\∀u H',uo d H H'->H' d=some (Nl w (yD w n xs).2)->Na H' (Q4 (yD w n xs).1.1 (yD w n xs).1.2) u->Q u H'
def YU:Sp:=fun vs H Q _=>∃(d l r:ac) (w:Int) (n:Dl) (xs rs:List Str),vs=[.ref d,.ref l,.ref r]/\H d=some (Nl w n)/\H l=some (.lst (xs.map V.str))/\H r=some (.lst (rs.map V.str))/\xs.length<=100/\rs.length<=100/\∀u H',uo d H H'->H' d=some (Nl w (qG w n xs rs).2)->Na H' (qG w n xs rs).1.toD u->Q u H'
def YV:Sp:=fun vs H Q _=>∃(d l r:ac) (w:Int) (n:Dl) (xs rs:List Str),vs=[.ref d,.ref l,.ref r]/\H d=some (Nl w n)/\H l=some (.lst (xs.map V.str))/\H r=some (.lst (rs.map V.str))/\xs.length<=100/\rs.length<=100/\∀u H',uo d H H'->H' d=some (Nl w (zS w n xs rs).2)->Na H' (zS w n xs rs).1.toD u->Q u H'
section
theorem jg7(F:Fun K "_law_place" "_law_place" jcB f fd)(B:Ni mg)(aG:Fn P w K mg base 1 "_law_draw" Nx qJ)(du:Fn P w K mg base 2 "_law_number" Ny Jh):MT P w K mg base PU 3 f fd MX JV:=by
 have sc:tS ["_law_deal_here","_law_numbers","_law_some","_law_x"] MX (jo jcB):=fQ;refine F.okZ sc (fun aB A iw s H vs Q E hr h=>?_);obtain⟨d,l,w,n,xs,rfl,hd,hl,hz,q⟩:=h;refine⟨_,(ja (jh 2 sc.nd (jn j9 (jI (jp jb)) (bB 1))) (ja (jh 3 sc.nd (js jQ (bB 2) (jB aG hr (jj (bB 0) (j7 jE N9 B.len_ ku (jp (bB 2))))))) (jg (jy (jG (jj (bB 3) (jB du hr (jp (bB 0))))))))),?_⟩
 refine kK ?_;refine⟨sm rfl,fun p hp=>?_⟩;have s1:=jd hp (.lst [V.str (aa "")]);have e1:=Pn (H:=H) p (.lst [V.str (aa "")]);generalize upd H p _=H1 at *;refine Pp rfl ⟨p,l,Pq rfl rfl ⟨e1,s1 _ _ hl,jU (by rw[av];simp only[aM,cZ];omega),fun t ht=>?_⟩⟩;have s2:=s1.trans (jd ht (.lst ([V.str (aa "")]++xs.map V.str)));have e2:upd H1 t (.lst ([V.str (aa "")]++xs.map V.str)) t=some (.lst ((em xs).map V.str)):=jc;generalize upd H1 t _=H2 at *;have GN:(em xs).length=xs.length+1:=rfl;refine gQ ?_;have lo:=jN w n (m:=((em xs).length:Nat)) N4;have hi:=jL w n (m:=((em xs).length:Nat)) N4;refine Ps rfl rfl (Pp rfl ⟨t,Pp rfl ⟨.inl (ES.of e2),d,w,n,((em xs).length:Nat),by rw[av];rfl,s2 _ _ hd,N4,N4,t,_,Pq rfl rfl ⟨ES.of ((uo.upd d H2 _).strs (s2 _ _ hd) e2),qS lo hi,?_⟩⟩⟩);refine gQ ?_;refine Ps rfl rfl ⟨d,w,Pp rfl ⟨jc,fun H3 k3 d3=>⟨sm rfl,fun p hp=>?_⟩⟩⟩;have s4:=jd hp (.tup [V.str (qY (em xs) (jk w n ((em xs).length:Nat)).1),V.int (Y4 w (jk w n ((em xs).length:Nat)).2).1]);exact q _ _ ((uo.same s2).trans ((uo.upd d H2 _).trans (k3.trans (uo.same s4)))) (s4 _ _ d3) (jK jc (jf jD (jf kL jF)))
theorem jiX(F:Fun K "_law_term" "_law_term" jeH f fd)(B:Ni mg)(aG:Fn P w K mg base 1 "_law_draw" Nx qJ)(eV:Fn P w K mg base 3 "_law_place" MX JV):MT P w K mg base PU 4 f fd Nq YU:=by
 have sc:tS ["_law_deal_here","_law_numbers","_law_rows","_law_r","_law_some"] Nq (jo jeH):=fQ;refine F.okZ sc (fun aB A iw s H vs Q E hr h=>?_);obtain⟨d,l,r,w,n,xs,rs,rfl,hd,hl,bS,hz,iC,q⟩:=h;refine⟨_,(ja (jR (zx (jx j6 (jB aG hr (jj (bB 0) je)) je (jA _)) (zh (jx Kj (j7 jE N9 B.len_ ku (jp (bB 2))) je (jA _)))).pt (ja (jh 3 sc.nd (js jQ (bB 2) (jB aG hr (jj (bB 0) (j7 jE N9 B.len_ ku (jp (bB 2))))))) (jg (jy (jG (jr jb (jj (bB 3) (jB eV hr (jj (bB 0) (bB 1))))))))) jH) (ja (jh 4 sc.nd (jn j9 (jI (jp jb)) (bB 1))) (jg (jy (jG (jj jb (js jQ (bB 4) (jB aG hr (jj (bB 0) (j7 jE N9 B.len_ ku (jp (bB 4)))))))))))),?_⟩
 refine kK ?_;have k0:=uo.upd d H (Nl w (jk w n 3).2);have d0:=Pn (H:=H) d (Nl w (jk w n 3).2);refine JX (fun b G=>b=decide ((jk w n 3).1=0/\0 < rs.length)/\G=upd H d (Nl w (jk w n 3).2)) (fun b G hb=>?_) (fun kk=>?_);rotate_left
 .refine Pp rfl ⟨d,w,n,3,rfl,hd,N5,N5,rfl,Pp rfl (kW (fun z=>?_) (fun z=>kk false _ ⟨?_,rfl⟩))⟩
  .have z':(jk w n 3).1=0:=by have:=PK z;injection this
   refine Pp rfl ⟨r,Pp rfl ⟨.inl (ES.of (k0.strs hd bS)),Pq rfl rfl (Pp rfl (kk _ _ ⟨?_,rfl⟩))⟩⟩;rw[av];exact decide_eq_decide.mpr ⟨fun h=>⟨z',N4⟩,fun h=>N4⟩
  .exact (PM fun h=>z (PL (PR V.int h.1))).symm
 obtain⟨rfl,rfl⟩:=hb;have mM:=k0.strs hd hl;have lh:=k0.strs hd bS;unfold qG at q;dsimp only at q;generalize upd H d _=H0 at *;generalize jk w n 3=x at *;obtain⟨x,n1⟩:=x;dsimp only at q d0;by_cases c:x=0/\0 < rs.length
 .rw[PL c]
  refine k9 ?_;rw[PP c]at q;have lo:=jN w n1 (m:=(rs.length:Nat)) N4;have hi:=jL w n1 (m:=(rs.length:Nat)) N4;have k1:=uo.upd d H0 (Nl w (jk w n1 (rs.length:Nat)).2);refine Ps rfl rfl (Pp rfl ⟨r,Pp rfl ⟨.inl (ES.of lh),d,w,n1,(rs.length:Nat),by rw[av];rfl,d0,N4,N4,r,_,Pq rfl rfl ⟨ES.of (k1.strs d0 lh),qS lo hi,?_⟩⟩⟩);refine gQ ?_;refine Ps rfl rfl (Pp rfl ⟨d,l,w,_,xs,rfl,jc,k1.strs d0 mM,hz,fun u H3 k3 d3 h3=>⟨sm rfl,fun p hp=>?_⟩⟩);have s4:=jd hp (.tup [V.str (aa "at"),V.str (qY rs (jk w n1 (rs.length:Nat)).1),u]);exact q _ _ (k0.trans (k1.trans (k3.trans (uo.same s4)))) (s4 _ _ d3) (jK jc (jf jD (jf jD (jf (h3.mono s4) jF))))
 rw[PM c];refine kT ?_;rw[PN c]at q;refine⟨sm rfl,fun p hp=>?_⟩;have s1:=jd hp (.lst [V.str (aa "")]);have e1:=Pn (H:=H0) p (.lst [V.str (aa "")]);generalize upd H0 p _=H1 at *;refine Pp rfl ⟨p,l,Pq rfl rfl ⟨e1,s1 _ _ mM,jU (by rw[av];simp only[aM,cZ];omega),fun t ht=>?_⟩⟩;have s2:=s1.trans (jd ht (.lst ([V.str (aa "")]++xs.map V.str)));have e2:upd H1 t (.lst ([V.str (aa "")]++xs.map V.str)) t=some (.lst ((em xs).map V.str)):=jc;generalize upd H1 t _=H2 at *;have GN:(em xs).length=xs.length+1:=rfl;refine gQ ?_;have lo:=jN w n1 (m:=((em xs).length:Nat)) N4;have hi:=jL w n1 (m:=((em xs).length:Nat)) N4;have k3:=uo.upd d H2 (Nl w (jk w n1 ((em xs).length:Nat)).2);refine Ps rfl rfl (Pp rfl ⟨t,Pp rfl ⟨.inl (ES.of e2),d,w,n1,((em xs).length:Nat),by rw[av];rfl,s2 _ _ d0,N4,N4,t,_,Pq rfl rfl ⟨ES.of (k3.strs (s2 _ _ d0) e2),qS lo hi,sm rfl,fun p hp=>?_⟩⟩⟩);have s4:=jd hp (.tup [V.str (aa "is"),V.str (qY (em xs) (jk w n1 ((em xs).length:Nat)).1)]);exact q _ _ (k0.trans ((uo.same s2).trans (k3.trans (uo.same s4)))) (s4 _ _ jc) (jK jc (jf jD (jf jD jF)))
def jhd(F:Fun K "_law_least" "_law_least" jcF f fd)(eC:Fn P w K mg base 4 "_law_term" Nq YU)(du:Fn P w K mg base 2 "_law_number" Ny Jh):MT P w K mg base PU 5 f fd Nq YV:=by
 have sc:tS ["_law_deal_here","_law_numbers","_law_rows","_law_one","_law_other"] Nq (jo jcF):=fQ;refine F.okZ sc (fun aB A iw s H vs Q E hr h=>?_);obtain⟨d,l,r,w,n,xs,rs,rfl,hd,hl,bS,hz,iC,q⟩:=h;refine⟨_,(ja (jh 3 sc.nd (jB eC hr (jr (bB 0) (jj (bB 1) (bB 2))))) (ja (jh 4 sc.nd (jB eC hr (jr (bB 0) (jj (bB 1) (bB 2))))) (jg (jy (jG (jr jb (jr (bB 3) (jj (bB 4) (jB du hr (jp (bB 0))))))))))),?_⟩
 refine kK ?_;refine Ps rfl rfl (Pp rfl ⟨d,l,r,w,n,xs,rs,rfl,hd,hl,bS,hz,iC,fun u H1 k1 d1 h1=>?_⟩);refine gQ ?_;refine Ps rfl rfl (Pp rfl ⟨d,l,r,w,_,xs,rs,rfl,d1,k1.strs hd hl,k1.strs hd bS,hz,iC,fun u2 H2 k2 d2 h2=>?_⟩);refine gQ ?_;refine Ps rfl rfl (Pp rfl ⟨d,w,Pp rfl ⟨d2,fun H3 k3 d3=>⟨sm rfl,fun p hp=>?_⟩⟩⟩);have s4:=jd hp (.tup [V.str "least",u,u2,V.int (Y4 w (qG w (qG w n xs rs).2 xs rs).2).1]);refine q _ _ (k1.trans (k2.trans (k3.trans (uo.same s4)))) (s4 _ _ d3) (jK jc (jf jD (jf ?_ (jf ?_ (jf kL jF)))))
 .exact (((k2.tk d1).held h1 |> (k3.tk d2).held)).mono s4
 .exact ((k3.tk d2).held h2).mono s4
end
abbrev jcI:ay:=NS 57
def Sx{D:OK}{σ:St}(J:St->Hp->Prop)(k:∀σ' G,J σ' G->u D σ' G)(h:(∀σ' G,J σ' G->u D σ' G)->yL tt ta tb { D with nx:=u D } σ H):jC (yL tt ta tb) u D σ H:=h k
def jn5:Tm->Bd
 | .is x=>.is x
 | .at_ _ x _=>.is x
def jia(w:Int)(n:Dl)(xs:List Str):(qG w n xs []).1.toD=(jn5 (qG w n xs []).1).toD:=by unfold qG;dsimp only;rw[PN (fun h=>absurd h.2 N5)];rfl
def Sl(w:Int)(n:Dl)(xs rs:List Str):Bd×Dl:=
 let b:=qG w n xs []
 let e:=jk w b.2 2
 if e.1=0 then
  let k:=jk w e.2 ((rs.length:Nat):Int)
  (.row (qY rs k.1),k.2)
 else (jn5 b.1,e.2)
def Sy(d:Int):Str:=if d=0 then ">=" else "<="
def YC(w:Int)(n:Dl)(xs rs:List Str):Cl×Dl:=
 let a:=jk w n 4
 if a.1 < 2\/rs.length=0 then zS w a.2 xs rs else
 let t:=yD w a.2 xs
 let u:=yD w t.2 xs
 let r:=jk w u.2 ((rs.length:Nat):Int)
 if a.1=2 then (.rise t.1.1 t.1.2 u.1.1 u.1.2 (qY rs r.1),r.2) else
 let b:=Sl w r.2 xs rs
 let y:=jk w b.2 2
 let c:=Y4 w y.2
 (.each t.1.1 t.1.2 u.1.1 u.1.2 (qY rs r.1) (Sy y.1) b.1 c.1,c.2)
def YW:Sp:=fun vs H Q _=>∃(d l r:ac) (w:Int) (n:Dl) (xs rs:List Str),vs=[.ref d,.ref l,.ref r]/\H d=some (Nl w n)/\H l=some (.lst (xs.map V.str))/\H r=some (.lst (rs.map V.str))/\xs.length<=100/\rs.length<=100/\∀u H',uo d H H'->H' d=some (Nl w (YC w n xs rs).2)->Na H' (YC w n xs rs).1.toD u->Q u H'
section
theorem jhh(F:Fun K "_law_claim" "_law_claim" jcI f fd)(B:Ni mg)(aG:Fn P w K mg base 1 "_law_draw" Nx qJ)(du:Fn P w K mg base 2 "_law_number" Ny Jh)(eV:Fn P w K mg base 3 "_law_place" MX JV)(eC:Fn P w K mg base 4 "_law_term" Nq YU)(gA:Fn P w K mg base 5 "_law_least" Nq YV):MT P w K mg base PU 6 f fd Nq YW:=by
 have sc:tS ["_law_deal_here","_law_numbers","_law_rows","_law_form","_law_t","_law_u","_law_r","_law_b","_law_way"] Nq (jo jcI):=fQ;refine F.okZ sc (fun aB A iw s H vs Q E hr h=>?_);obtain⟨d,l,r,w,n,xs,rs,rfl,hd,hl,bS,hz,iC,q⟩:=h;refine⟨_,(ja (jh 3 sc.nd (jB aG hr (jj (bB 0) je))) (ja (jR (yS (jx Se (bB 3) je (jA _)) (Jt (jx j6 (j7 jE N9 B.len_ ku (jp (bB 2))) je (jA _)))).pt (jg (jy (jB gA hr (jr (bB 0) (jj (bB 1) (bB 2)))))) jH) (ja (jh 4 sc.nd (jB eV hr (jj (bB 0) (bB 1)))) (ja (jh 5 sc.nd (jB eV hr (jj (bB 0) (bB 1)))) (ja (jh 6 sc.nd (js jQ (bB 2) (jB aG hr (jj (bB 0) (j7 jE N9 B.len_ ku (jp (bB 2))))))) (ja (jR (jx j6 (bB 3) je (jA _)) (jg (jy (jG (jr jb (jr (bB 4) (jj (bB 5) (bB 6))))))) jH) (ja (jh 7 sc.nd (jB eC hr (jr (bB 0) (jj (bB 1) (jI qf))))) (ja (jR (jx j6 (jB aG hr (jj (bB 0) je)) je (jA _)) (jg (jh 7 sc.nd (jG (jj jb (js jQ (bB 2) (jB aG hr (jj (bB 0) (j7 jE N9 B.len_ ku (jp (bB 2)))))))))) jH) (ja (jh 8 sc.nd (js jQ (jI (jj jb jb)) (jB aG hr (jj (bB 0) je)))) (jg (jy (jG (jr jb (jr (bB 4) (jr (bB 5) (jr (bB 6) (jr (bB 8) (jj (bB 7) (jB du hr (jp (bB 0))))))))))))))))))))),?_⟩
 try dsimp only[qF]
 refine kK ?_;refine jjy ?_;intro _ _ _ _ _ _;refine Pp rfl ⟨d,w,n,4,rfl,hd,N5,N5,?_⟩;have k0:=uo.upd d H (Nl w (jk w n 4).2);have d0:=Pn (H:=H) d (Nl w (jk w n 4).2);have mM:=k0.strs hd hl;have lh:=k0.strs hd bS;have GK:=jN w n (m:=4) N5;have B4:=jL w n (m:=4) N5;unfold YC at q;dsimp only at q;generalize upd H d _=H0 at *;generalize jk w n 4=x at *;obtain⟨x,n1⟩:=x;dsimp only at q d0 GK B4 |-;refine gQ ?_;refine JX (fun b G=>b=decide (x < 2\/rs.length=0)/\G=H0) (fun b G hb=>?_) (fun kk=>?_);rotate_left
 .refine Pp rfl (Pq rfl rfl (Pp rfl (kW (fun z=>kk true _ ⟨(PL (.inl (PK z))).symm,rfl⟩) (fun z=>?_))))
  refine Pp rfl ⟨r,Pp rfl ⟨.inl (ES.of lh),rfl,Pp rfl (kk _ _ ⟨?_,rfl⟩)⟩⟩;rw[av];refine decide_eq_decide.mpr ⟨fun h=>.inr (by injection h;omega),fun h=>?_⟩;rcases h with h | h
  .exact absurd (PL h) z
  .rw[h];rfl
 obtain⟨rfl,rfl⟩:=hb;by_cases c:x < 2\/rs.length=0
 .rw[PL c]
  refine k9 ?_;rw[PP c]at q;exact Ps rfl rfl (Pp rfl ⟨d,l,r,w,n1,xs,rs,rfl,d0,mM,lh,hz,iC,fun u H1 k1 d1 h1=>q u H1 (k0.trans k1) d1 h1⟩)
 rw[PM c];refine kT ?_;rw[PN c]at q;have hp:0 < rs.length:=by omega
 refine Ps rfl rfl ⟨d,l,w,n1,xs,rfl,d0,mM,hz,fun u1 H1 k1 d1 h1=>?_⟩;have cT:=k1.strs d0 mM;have HH:=k1.strs d0 lh;generalize yD w n1 xs=t at *;refine gQ ?_;refine Ps rfl rfl ⟨d,l,w,t.2,xs,rfl,d1,cT,hz,fun u2 H2 k2 d2 h2=>?_⟩;have cD:=k2.strs d1 cT;have gT:=k2.strs d1 HH;have Lp:=(k2.tk d1).held h1;generalize yD w t.2 xs=u at *;refine gQ ?_;have lo:=jN w u.2 (m:=(rs.length:Nat)) N4;have hi:=jL w u.2 (m:=(rs.length:Nat)) N4;have k3:=uo.upd d H2 (Nl w (jk w u.2 (rs.length:Nat)).2);have d3:=Pn (H:=H2) d (Nl w (jk w u.2 (rs.length:Nat)).2);have gw:=k3.strs d2 cD;have oK:=k3.strs d2 gT;have Cu:=(k3.tk d2).held Lp;have Cq:=(k3.tk d2).held h2;refine Ps rfl rfl (Pp rfl ⟨r,Pp rfl ⟨.inl (ES.of gT),d,w,u.2,(rs.length:Nat),by rw[av];rfl,d2,N4,N4,r,_,Pq rfl rfl ⟨ES.of oK,qS lo hi,?_⟩⟩⟩);generalize upd H2 d _=H3 at *;generalize jk w u.2 (rs.length:Nat)=y at *;have BH:=k0.trans (k1.trans (k2.trans k3));refine gQ ?_;refine Pp rfl ⟨rfl,Pp rfl (kW (fun z=>?_) (fun z=>?_))⟩
 .have z':x=2:=by have:=PK z;injection this
  rw[PP z']at q;refine Ps rfl rfl (Pp rfl ⟨sm rfl,fun p hp=>?_⟩);have s4:=jd hp (.tup [V.str (aa "rise"),u1,u2,V.str (qY rs y.1)]);exact q _ _ (BH.trans (uo.same s4)) (s4 _ _ d3) (jK jc (jf jD (jf (Cu.mono s4) (jf (Cq.mono s4) (jf jD jF)))))
 have z':¬x=2:=fun h=>z (PL (PR V.int h))
 rw[PN z']at q;refine Ps rfl rfl ⟨sm rfl,fun p hp=>?_⟩;have s4:=jd hp (.lst []);refine⟨d,l,p,w,y.2,xs,[],rfl,s4 _ _ d3,s4 _ _ gw,jc,hz,cn _,fun u4 H4 k4 d4 h4=>?_⟩;have rM:uo d H3 H4:=(uo.same s4).trans k4;have HG:=rM.strs d3 oK;have Lo:=(rM.tk d3).held Cu;have Ll:=(rM.tk d3).held Cq;rw[jia]at h4;refine gQ ?_;dsimp only;refine Sx (fun σ G=>∃v,σ=[some (.ref d),some (.ref l),some (.ref r),some (.int x),some u1,some u2,some (.str (qY rs y.1)),some v,none]/\uo d H4 G/\G d=some (Nl w (Sl w y.2 xs rs).2)/\Na G (Sl w y.2 xs rs).1.toD v) ?_ (fun kk=>?_);rotate_left
 .unfold Sl at kk
  dsimp only at kk;have k5:=uo.upd d H4 (Nl w (jk w (qG w y.2 xs []).2 2).2);have d5:=Pn (H:=H4) d (Nl w (jk w (qG w y.2 xs []).2 2).2);have BQ:=k5.strs d4 HG;have pj:=(k5.tk d4).held h4;refine Pp rfl ⟨d,w,_,2,rfl,d4,N5,N5,rfl,Pp rfl ?_⟩;generalize upd H4 d _=H5 at *;generalize jk w (qG w y.2 xs []).2 2=e at *;refine kW (fun z=>?_) (fun z=>?_)
  .have z2:e.1=0:=by have:=PK z;injection this
   rw[PP z2]at kk;have lo:=jN w e.2 (m:=(rs.length:Nat)) N4;have hi:=jL w e.2 (m:=(rs.length:Nat)) N4;have k6:=uo.upd d H5 (Nl w (jk w e.2 (rs.length:Nat)).2);refine Ps rfl rfl (Pp rfl ⟨r,Pp rfl ⟨.inl (ES.of BQ),d,w,e.2,(rs.length:Nat),by rw[av];rfl,d5,N4,N4,r,_,Pq rfl rfl ⟨ES.of (k6.strs d5 BQ),qS lo hi,sm rfl,fun p hp=>?_⟩⟩⟩);have s7:=jd hp (.tup [V.str (aa "row"),V.str (qY rs (jk w e.2 (rs.length:Nat)).1)]);refine gQ ?_;exact kk _ _ ⟨.ref p,rfl,k5.trans (k6.trans (uo.same s7)),s7 _ _ jc,jK jc (jf jD (jf jD jF))⟩
  .have z2:¬e.1=0:=fun h=>z (PL (PR V.int h))
   rw[PN z2]at kk;exact kk _ _ ⟨u4,rfl,k5,d5,pj⟩
 rintro σ G ⟨v,rfl,k5,d5,hv⟩;have wr:=(k5.tk d4).held Lo;have Lk:=(k5.tk d4).held Ll;generalize Sl w y.2 xs rs=b at *;refine⟨sm rfl,fun p hp=>?_⟩;have s6:=jd hp (.lst [V.str (aa ">="),V.str (aa "<=")]);have e6:upd G p (.lst [V.str (aa ">="),V.str (aa "<=")]) p=some (.lst (([aa ">=",aa "<="]:List Str).map V.str)):=jc;generalize upd G p _=H6 at *;have lo7:=jN w b.2 (m:=2) N5;have hi7:=jL w b.2 (m:=2) N5;have k7:=uo.upd d H6 (Nl w (jk w b.2 2).2);have d7:=Pn (H:=H6) d (Nl w (jk w b.2 2).2);have e7:=k7.strs (s6 _ _ d5) e6;refine Pp rfl ⟨d,w,b.2,2,rfl,s6 _ _ d5,N5,N5,p,_,_,.str (Sy (jk w b.2 2).1),rfl,rfl,ES.of e7,?_,?_⟩
 .have:(jk w b.2 2).1=0\/(jk w b.2 2).1=1:=by omega
  rcases this with h | h <;> rw[h] <;> rfl
 have rL:=(uo.same (a:=d) s6).trans k7;have sw:=(rL.tk d5).held wr;have Lj:=(rL.tk d5).held Lk;have Hs:=(rL.tk d5).held hv;generalize upd H6 d _=H7 at *;generalize jk w b.2 2=g at *;refine gQ ?_;refine Ps rfl rfl (Ps rfl rfl (Ps rfl rfl ⟨d,w,g.2,rfl,d7,fun H8 k8 d8=>⟨sm rfl,fun p hp=>?_⟩⟩));have s9:=jd hp (.tup [V.str (aa "each"),u1,u2,V.str (qY rs y.1),V.str (Sy g.1),v,V.int (Y4 w g.2).1]);have t8:=k8.tk d7;exact q _ _ (BH.trans (rM.trans (k5.trans (rL.trans (k8.trans (uo.same s9)))))) (s9 _ _ d8) (jK jc (jf jD (jf ((t8.held sw).mono s9) (jf ((t8.held Lj).mono s9) (jf jD (jf jD (jf ((t8.held Hs).mono s9) (jf kL jF))))))))
end
abbrev jaa:ay:=NS 58
def Qw(S:List ac)(H H':Hp):Prop:=∀b o,b ∉ S->H b=some o->H' b=some o
variable {ds:List ac}{L:List (Int×Dl)}
def MH.keep{r:ac}{w:Int}{n:Dl}(D:MH H a ds L)(k:uo r H H')(hr:H r=some (Nl w n))(nr:r ∉ ds):MH H' a ds L:=by
 refine⟨k _ _ (fun z=>?_) D.l,D.n,D.nd,D.few,fun i d x hd hx=>k _ _ (fun z=>nr (z ▸ gJ hd)) (D.at_ i d x hd hx)⟩;have:=D.l;rw[z,hr]at this
 cases ds with
 | nil=>cases this
 | cons d ds=>injection this with e;injection e with e;injection e with e;cases e
def MH.same(D:MH H a ds L)(k:ML H H'):MH H' a ds L:=⟨k _ _ D.l,D.n,D.nd,D.few,fun i d x hd hx=>k _ _ (D.at_ i d x hd hx)⟩
def MH.put{p:ac}{o:HO}(D:MH H a ds L)(h:p ∉ a :: ds):MH (upd H p o) a ds L:=⟨(jq (fun z=>h (aA.mpr (.inl z.symm)))).trans D.l,D.n,D.nd,D.few,fun i d x hd hx=>(jq (a:=p) (b:=d) (fun (z:d=p)=>h (aH _ (z ▸ gJ hd)))).trans (D.at_ i d x hd hx)⟩
theorem MH.ne{l:ac}(D:MH H a ds L)(hl:H l=some (.lst (xs.map V.str)))(h:l≠a):l ∉ a :: ds:=fun z=>by
 rcases aA.mp z with z | z
 .exact h z
 .obtain⟨i,hi,e⟩:=Al z
  have bX:i < L.length:=by have:=D.n;omega
  have:=D.at_ i l L[i] (by rw[aP hi,e]) (aP bX);rw[hl]at this
  cases xs with
  | nil=>cases this
  | cons x xs=>injection this with e;injection e with e;injection e with e;cases e
def qa(xs rs:List Str)(L:List (Int×Dl)):Nat->List Cl×List (Int×Dl)
 | 0=>([],L)
 | i+1=>
  let p:=qa xs rs L i
  let x:=qI p.2
  (p.1++[(YC x.1.1 x.1.2 xs rs).1],x.2)
def KG:Sp:=fun vs H Q _=>∃(a l r:ac) (ds:List ac) (L:List (Int×Dl)) (m:Nat) (xs rs:List Str),vs=[.ref a,.int (m:Nat),.ref l,.ref r]/\MH H a ds L/\H l=some (.lst (xs.map V.str))/\H r=some (.lst (rs.map V.str))/\l≠a/\r≠a/\xs.length<=100/\rs.length<=100/\m<=100/\∀u H',Qw (a :: ds) H H'->MH H' a (ds.drop m) (qa xs rs L m).2->Na H' (.tup ((qa xs rs L m).1.map Cl.toD)) u->Q u H'
section
theorem jeX(F:Fun K "_law_claims" "_law_claims" jaa f fd)(B:Ni mg)(cY:Fn P w K mg base 1 "_law_next" M1 Yb)(ib:Fn P w K mg base 6 "_law_claim" Nq YW):MT P w K mg base PU 7 f fd M6 KG:=by
 have sc:tS M6 M6 (jo jaa):=fQ;refine F.okZ sc (fun aB A iw s H vs Q E hr h=>?_);obtain⟨a,l,r,ds,L,m,xs,rs,rfl,D,hl,bS,na,nr,hz,iC,hm,q⟩:=h;refine⟨_,(jg (jy (kJ jZ N9 B.tuple_ kX (jp (qT M2 [0,2,3] rfl (qr (sc:=jo jaa) (N:=M6) rfl rfl N3) (kP N9 B.range_ (jp (bB 1))) (fun s H ex=>⟨(kU (i:=0) (show cv (["_law_k","_law_deals","_law_numbers","_law_rows"]:List Str) from N3) rfl oQ),qt,(jB ib hr (jr (jB cY hr (jp (bB 1))) (jj (bB 2) (bB 3))))⟩)))))),?_⟩
 try dsimp only[qF]
 refine kK ?_;refine Ps rfl rfl ⟨N4,N4,fun p hp=>?_⟩;rw[dk];have i9:p ∉ a :: ds:=fun z=>by
  rcases aA.mp z with z | z
  .rw[z,D.l]at hp;cases hp
  .obtain⟨i,hi,e⟩:=Al z
   have bX:i < L.length:=by have:=D.n;omega
   rw[D.at_ i p L[i] (by rw[aP hi,e]) (aP bX)]at hp
   cases hp
 have s0:=jd hp (.lst []);let Pv:Nat->St->Hp->Prop:=fun i σ' G=>∃u us,σ'=[u,some (.ref a),some (.ref l),some (.ref r)]/\Qw (a :: ds) H G/\MH G a (ds.drop i) (qa xs rs L i).2/\G p=some (.lst us)/\us.length=i/\MN G ((qa xs rs L i).1.map Cl.toD) us
 refine qg Pv ⟨none,[],rfl,fun b o _ e=>s0 _ _ e,D.same s0,jc,rfl,jF⟩ ?_ ?_
 .rintro i σ' G hi ⟨u,us,rfl,oG,DG,bN,oH,cw⟩
  have rV:=oG _ _ (D.ne hl na) hl;have HF:=oG _ _ (D.ne bS nr) bS;unfold qz K9;refine k9 ?_;refine Pp rfl ⟨a,ds.drop i,Pp rfl ⟨DG,fun d1 G1 k1 vX e1 Gp D1=>?_⟩⟩;refine Ps rfl rfl ⟨d1,l,r,_,_,xs,rs,rfl,e1,k1 _ _ na rV,k1 _ _ nr HF,hz,iC,fun v G2 k2 e2 h2=>?_⟩;have n1:∀b o,b ∉ a :: ds->G b=some o->b≠d1:=fun b o hb e z=>by
   rcases vX with h | h
   .rw[z,h]at e;cases e
   .exact hb (aH _ (gh (z ▸ h)))
  have Gq:∀b,b ∉ a :: ds->b≠a:=fun b hb z=>hb (z ▸ aJ ..)
  have st:∀b o,b ∉ a :: ds->G b=some o->G2 b=some o:=fun b o hb e=>k2 _ _ (n1 b o hb e) (k1 _ _ (Gq b hb) e)
  have g_:=st p _ i9 bN;have tk:TK G (upd G2 p (.lst (us++[v]))):=fun b ys e=>by rw[jq (fun z=>by rw[z,bN]at e;cases e)];exact k2.tk e1 _ _ (k1.tk DG.l _ _ e)
  refine⟨_,g_,kA N4,_,us++[v],rfl,fun b o hb e=>?_,?_,jc,by rw[az,oH];rfl,?_⟩
  .rw[jq (jm e hp)]
   exact st _ _ hb (oG _ _ hb e)
  .have D2:=D1.keep k2 e1 Gp
   rw[List.tail_drop]at D2;exact D2.put (fun z=>i9 (by
    rcases aA.mp z with z | z
    .exact z ▸ aJ ..
    .exact aH _ (gh z)))
  .show MN _ (((qa xs rs L i).1++[_]).map Cl.toD) _
   rw[bj];refine zT (tk.heldL cw) ?_;refine TK.held (fun b ys e=>?_) h2;rw[jq (fun z=>by rw[z,g_]at e;cases e)];exact e
 .rintro σ' G ⟨u,us,rfl,oG,DG,bN,oH,cw⟩
  refine⟨p,us,rfl,.inl ⟨ES.of bN,fun t ht=>?_⟩⟩;have s1:=jd ht (.tup us);exact q _ _ (fun b o hb e=>s1 _ _ (oG _ _ hb e)) (DG.same s1) (jK jc (cw.mono s1))
end
abbrev Sg:ay:=NS 59
abbrev Hd:Type:=Str×Nat×Nat
def QQ(h:Hd):D:=.tup [.str h.1,.int (h.2.1:Nat),.int (h.2.2:Nat)]
def jc8{h:Hd}{v:V}(x:Na H (QQ h) v):∃a,v=.ref a/\H a=some (.tup [.str h.1,.int (h.2.1:Nat),.int (h.2.2:Nat)]):=by
 obtain⟨a,xs,rfl,ha,h1⟩:=jJ x;obtain⟨v1,r1,rfl,e1,h2⟩:=ji h1;obtain⟨v2,r2,rfl,e2,h3⟩:=ji h2;obtain⟨v3,r3,rfl,e3,h4⟩:=ji h3
 cases jX h4
 cases jT e1
 cases qP e2
 cases qP e3
 exact⟨a,rfl,ha⟩
structure Wd where
 nl:ac
 fl:ac
 rl:ac
 hl:ac
structure Nf(H:Hp)(wd:ac)(A:Wd)(xs fr rs:List Str)(Et:List Hd)(left:Int):Prop where
 d:∃ah,H wd=some (.dK ah)/\ah.length<=5/\zP ah (.inr (aa "numbers"))=some (.ref A.nl)/\zP ah (.inr (aa "free"))=some (.ref A.fl)/\zP ah (.inr (aa "rows"))=some (.ref A.rl)/\zP ah (.inr (aa "heads"))=some (.ref A.hl)/\zP ah (.inr (aa "left"))=some (.int left)
 n:H A.nl=some (.lst (xs.map V.str))
 f:H A.fl=some (.lst (fr.map V.str))
 r:H A.rl=some (.lst (rs.map V.str))
 h:∃hs,H A.hl=some (.lst hs)/\MN H (Et.map QQ) hs
def Jq(rs:List Str)(Et:List Hd):List Hd:=Et.filter fun h=>decide (h.2.2<=rs.length)
def jhE{rs:List Str}{Et:List Hd}{i:Nat}(hi:i < Et.length):Jq rs (Et.take (i+1))=Jq rs (Et.take i)++if Et[i].2.2<=rs.length then [Et[i]] else []:=by
 unfold Jq;rw[gI,aP hi,Fg];congr 1;show List.filter _ [Et[i]]=_;by_cases h:Et[i].2.2<=rs.length
 .rw[PP h,nX,PP (PL h),Pg]
 .rw[PN h,nX,PN (by simpa using h),Pg]
def yi(w:Int)(xs:List Str)(n:Dl):Nat->List Str×Dl
 | 0=>([],n)
 | i+1=>
  let p:=yi w xs n i
  let d:=jk w p.2 ((xs.length:Nat):Int)
  (p.1++[qY xs d.1],d.2)
def qy(w:Int)(rs:List Str)(n:Dl):Nat->List Str×Dl×List Str
 | 0=>([],n,rs)
 | i+1=>
  let p:=qy w rs n i
  let d:=jk w p.2.1 ((p.2.2.length:Nat):Int)
  (p.1++[qY p.2.2 d.1],d.2,p.2.2.eraseIdx d.1.toNat)
theorem jjP{α β:Type}(f:α->β):∀(l:List α) (k:Nat),(l.map f).eraseIdx k=(l.eraseIdx k).map f
 | [],_=>rfl
 | _ :: _,0=>rfl
 | x :: l,k+1=>PR (f x :: ·) (jjP f l k)
theorem Jn{H:Hp}:∀xs:List Str,MN H (xs.map D.str) (xs.map V.str)
 | []=>jF
 | _ :: xs=>jf jD (Jn xs)
theorem ZN(w:Int)(xs:List Str)(n:Dl):∀i,(yi w xs n i).1.length=i
 | 0=>rfl
 | i+1=>by show (_++[_]).length=_;rw[az,ZN w xs n i];rfl
theorem KK(w:Int)(rs:List Str)(n:Dl):∀i,i<=rs.length->(qy w rs n i).1.length=i/\(qy w rs n i).2.2.length=rs.length - i
 | 0,_=>⟨rfl,rfl⟩
 | i+1,h=>by
  obtain⟨h1,h2⟩:=KK w rs n i N4;refine⟨by show (_++[_]).length=_;rw[az,h1];rfl,?_⟩;have hp:(0:Int) < ((qy w rs n i).2.2.length:Nat):=by omega
  have lo:=jN w (qy w rs n i).2.1 hp;have hi:=jL w (qy w rs n i).2.1 hp;show ((qy w rs n i).2.2.eraseIdx _).length=_;rw[List.length_eraseIdx,PP N4,h2];omega
def Sz(w:Int)(n:Dl)(x:Str)(xs rs:List Str)(Et:List Hd):Sm×Dl:=
 if (Jq rs Et).length=0 then (.set x (.is x) 1,n) else
 let d:=jk w n (((Jq rs Et).length:Nat):Int)
 let h:=(Jq rs Et).getD d.1.toNat ("",0,0)
 let a:=yi w xs d.2 h.2.1
 let b:=qy w rs a.2 h.2.2
 (.call x h.1 a.1 b.1,b.2.1)
def jcw:Sp:=fun vs H Q _=>∃(d wd:ac) (x:Str) (w:Int) (n:Dl) (A:Wd) (xs fr rs:List Str) (Et:List Hd) (left:Int),vs=[.ref d,.str x,.ref wd]/\H d=some (Nl w n)/\Nf H wd A xs fr rs Et left/\0 < xs.length/\xs.length<=100/\rs.length<=100/\Et.length<=100/\(∀h∈Et,h.2.1<=100)/\∀u H',uo d H H'->H' d=some (Nl w (Sz w n x xs rs Et).2)->Na H' (Sz w n x xs rs Et).1.toD u->Q u H'
section
theorem jjb(F:Fun K "_law_call" "_law_call" Sg f fd)(B:Ni mg)(aG:Fn P w K mg base 1 "_law_draw" Nx qJ):MT P w K mg base PU 2 f fd OU jcw:=by
 have sc:tS Oz OU (jo Sg):=fQ;refine F.okZ sc (fun aB A iw s H vs Q E hr h=>?_);obtain⟨d,wd,x,w,n,Z,xs,fr,rs,Et,left,rfl,hd,W,hp,hz,iC,Hj,hm,q⟩:=h;have hu:(A.deeper (EQ "_law_call" (jo Sg) s.heap.objs.size f aB)).units+1 < cLine:=by have:=hr.units;omega
 refine⟨_,(ja (jh 3 sc.nd (kJ zL N9 B.list_ Zm (jp (zA hu (bB 2) jb (fun _ _=>rfl))))) (ja (yb (i:=4) sc.nd rfl oQ ["_law_head"] [3] rfl (qr (sc:=jo Sg) (N:=Oz) rfl rfl N3) (YJ (zA hu (bB 2) jb (fun _ _=>rfl))) (fun s H ex=>⟨(kU (i:=0) (show cv (["_law_head","_law_rows"]:List Str) from N3) rfl oQ),(YG (jx jlV (js (jlp (K:=K)) (bB 0) je) (j7 (Jc (K:=K)) N9 B.len_ ku (jp (bB 1))) (jA _))),(bB 0)⟩)) (ja (jR (jx j6 (j7 jE N9 B.len_ ku (jp (bB 4))) je (jA _)) (jg (jy (jG (jr jb (jr (bB 1) (jj (jG (jj jb (bB 1))) je)))))) jH) (ja (kz (js jQ (bB 4) (jB aG hr (jj (bB 0) (j7 jE N9 B.len_ ku (jp (bB 4)))))) (kB rfl (jv (jt 5 sc.nd) (jv (jt 6 sc.nd) (jv (jt 7 sc.nd) kj))))) (ja (jh 8 sc.nd (zA hu (bB 2) jb (fun _ _=>rfl))) (ja (jh 9 sc.nd (kJ jZ N9 B.tuple_ kX (jp (qT M2 [0,8] rfl (qr (sc:=jo Sg) (N:=Oz) rfl rfl N3) (kP N9 B.range_ (jp (bB 6))) (fun s H ex=>⟨(kU (i:=0) (show cv (["_law_k","_law_deal_here","_law_numbers"]:List Str) from N3) rfl oQ),qt,(js (Y6 (K:=K)) (bB 2) (jB aG hr (jj (bB 1) (j7 (Jc (K:=K)) N9 B.len_ ku (jp (bB 2))))))⟩))))) (jg (jy (jG (jr jb (jr (bB 1) (jr (bB 5) (jj (bB 9) (kJ jZ N9 B.tuple_ kX (jp (qT M2 [0,3] rfl (qr (sc:=jo Sg) (N:=Oz) rfl rfl N3) (kP N9 B.range_ (jp (bB 7))) (fun s H ex=>⟨(kU (i:=0) (show cv (["_law_k","_law_deal_here","_law_rows"]:List Str) from N3) rfl oQ),qt,(jcl (K:=K) bL pR x6 jdR (bB 2) (jp (jB aG hr (jj (bB 1) (j7 (Jc (K:=K)) N9 B.len_ ku (jp (bB 2)))))))⟩))))))))))))))))),?_⟩
 try dsimp only[qF]
 obtain⟨ah,hw,B1,kn,kf,kr,kh,kl⟩:=W.d;obtain⟨hs,B5,gZ⟩:=W.h;have bb:=gZ.length;rw[av]at bb;refine kK ?_;refine jjy ?_;intro _ _ _ _ _ _;refine Pp rfl ⟨wd,.ref Z.rl,rfl,.inl ⟨ah,.inr (aa "rows"),Rd.of hw,rfl,kr.symm⟩,Z.rl,Pp rfl ⟨.inl (ES.of W.r),fun t ht=>?_⟩⟩;have s1:=jd ht (.lst (rs.map V.str));have e1:=Pn (H:=H) t (.lst (rs.map V.str));generalize upd H t _=H1 at *;refine gQ ?_;refine Pp rfl ⟨wd,.ref Z.hl,rfl,.inl ⟨ah,.inr (aa "heads"),Rd.of (s1 _ _ hw),rfl,kh.symm⟩,Z.hl,rfl,⟨_,ES.of (s1 _ _ B5)⟩,fun p hp=>?_⟩;let Pv:Nat->St->Hp->Prop:=fun i σ' G=>∃u us,σ'=[u,some (.ref t)]/\ML H1 G/\G p=some (.lst us)/\us.length<=i/\MN G ((Jq rs (Et.take i)).map QQ) us
 refine jcb (xs:=hs) Pv ⟨none,[],rfl,jd hp _,jc,aK _,jF⟩ ?_ ?_ ?_
 .rintro i σ' G _ ⟨u,us,rfl,sG,_⟩
  exact ES.of (sG _ _ (s1 _ _ B5))
 .rintro i v σ' G hx ⟨u,us,rfl,sG,bN,iI,cw⟩
  have hi:i < Et.length:=by have:=(dY.mp hx).1;omega
  obtain⟨v',e3,e4⟩:=gZ.get (j:=i) (d:=QQ Et[i]) (by rw[bP,aP hi];rfl);rw[hx]at e3
  cases e3
  have fs:=jhE (rs:=rs) hi;obtain⟨b,rfl,hb⟩:=jc8 e4;unfold qz;refine Pp rfl ⟨b,_,Pq rfl rfl ⟨Nu.of (sG _ _ (s1 _ _ hb)),rfl,Pp rfl ⟨t,Pp rfl ⟨.inl (ES.of (sG _ _ e1)),Pq rfl rfl (Pp rfl (kW (fun z=>?_) (fun z=>?_)))⟩⟩⟩⟩
  .have z':Et[i].2.2<=rs.length:=by have:=PK z;rw[av]at this;omega
   rw[PP z']at fs;refine Pp rfl ⟨_,bN,kA N4,_,us++[.ref b],rfl,fun c o e=>?_,jc,by rw[az];exact iX iI,?_⟩
   .rw[jq (jm e hp)];exact sG _ _ e
   .have tk:TK G (upd G p (.lst (us++[.ref b]))):=fun c ys e=>by rw[jq (fun z=>by rw[z,bN]at e;cases e)];exact e
    rw[fs,bj];exact zT (tk.heldL cw) (tk.held ((e4.mono s1).mono sG))
  .have z':¬Et[i].2.2<=rs.length:=fun h=>z (PL (by rw[av];omega))
   rw[PN z',bE]at fs;exact⟨_,us,rfl,sG,bN,fA iI,by rw[fs];exact cw⟩
 rintro σ' G ⟨u,us,rfl,sG,bN,-,cw⟩;rw[<- bb,iq]at cw;have vR:=cw.length;rw[av]at vR;have mn:=s1.trans sG;have gW:(Jq rs Et).length<=100:=aw (O8 _ _) Hj;have Iv:∀h∈Jq rs Et,h.2.1<=100/\h.2.2<=rs.length:=fun h hh=>⟨hm h (pV.mp hh).1,PK (pV.mp hh).2⟩
 unfold Sz at q;dsimp only at q;generalize Jq rs Et=fh at *;refine gQ ?_;refine Pp rfl ⟨p,Pp rfl ⟨.inl (ES.of bN),rfl,Pp rfl (kW (fun z=>?_) (fun z=>?_))⟩⟩
 .have z':fh.length=0:=by have:=PK z;injection this;omega
  rw[PP z']at q;refine Ps rfl rfl ⟨sm rfl,fun t2 dM=>⟨sm rfl,fun t3 fM=>?_⟩⟩;have s2:=jd dM (.tup [V.str (aa "is"),V.str x]);have s3:=jd fM (.tup [V.str (aa "set"),V.str x,V.ref t2,V.int 1]);exact q _ _ (uo.same (mn.trans (s2.trans s3))) (s3 _ _ (s2 _ _ (mn _ _ hd))) (jK jc (jf jD (jf jD (jf (jK (s3 _ _ jc) (jf jD (jf jD jF))) (jf kL jF)))))
 have z':¬fh.length=0:=fun h=>z (PL (by rw[<- vR,h];rfl))
 rw[PN z']at q;have lo:=jN w n (m:=(fh.length:Nat)) N4;have hi:=jL w n (m:=(fh.length:Nat)) N4;have hj:(jk w n (fh.length:Nat)).1.toNat < fh.length:=by omega
 obtain⟨v,ev,hv⟩:=cw.get (j:=(jk w n (fh.length:Nat)).1.toNat) (d:=QQ (fh.getD (jk w n (fh.length:Nat)).1.toNat ("",0,0))) (by rw[bP,aP hj,eI,aP hj];rfl);have gU:fh.getD (jk w n (fh.length:Nat)).1.toNat ("",0,0)∈fh:=by rw[eI,aP hj];exact cH hj
 have bF:Qd us (jk w n (fh.length:Nat)).1=some v:=by
  have ek:(jk w n (fh.length:Nat)).1=(((jk w n (fh.length:Nat)).1.toNat:Nat):Int):=by omega
  rw[ek];exact ju ev
 have eK:p≠d:=fun z=>by rw[z,s1 _ _ hd]at hp;cases hp
 have rZ:=mn _ _ hd;have k2:=uo.upd d G (Nl w (jk w n (fh.length:Nat)).2);have d2:=Pn (H:=G) d (Nl w (jk w n (fh.length:Nat)).2);have Hr:=k2 wd _ (fun z=>by rw[z,hd]at hw;cases hw) (mn _ _ hw);have mI:=k2.strs rZ (mn _ _ W.n);have e2:=k2.strs rZ (sG _ _ e1);obtain⟨Cc,cW⟩:=Iv _ gU;obtain⟨b,rfl,hb⟩:=jc8 hv;have gy:=k2.tk rZ _ _ hb;refine Ps rfl rfl (Pp rfl ⟨p,Pp rfl ⟨.inl (ES.of bN),d,w,n,(fh.length:Nat),by rw[<- vR];rfl,rZ,N4,N4,p,_,_,.ref b,rfl,rfl,ES.of (k2 _ _ eK bN),bF,?_⟩⟩);generalize upd G d _=H2 at *;generalize fh.getD (jk w n (fh.length:Nat)).1.toNat ("",0,0)=h at *;generalize (jk w n (fh.length:Nat)).2=n2 at *;have Hb:uo d H H2:=(uo.same mn).trans k2;refine Pq rfl (Nu.of gy) ⟨rfl,_,Pp rfl ⟨_,Pp rfl (Pq rfl rfl ?_)⟩⟩;refine gQ ?_;refine Pp rfl ⟨wd,.ref Z.nl,rfl,.inl ⟨ah,.inr (aa "numbers"),Rd.of Hr,rfl,kn.symm⟩,?_⟩;refine gQ ?_;refine Ps rfl rfl ⟨N4,N4,fun p2 aQ=>?_⟩;rw[dk];have mx:p2≠d:=fun z=>by rw[z,d2]at aQ;cases aQ
 let Pw:Nat->St->Hp->Prop:=fun i σ' G'=>∃u,σ'=[u,some (.ref d),some (.ref Z.nl)]/\uo d H2 G'/\G' d=some (Nl w (yi w xs n2 i).2)/\G' p2=some (.lst ((yi w xs n2 i).1.map V.str))
 refine qg Pw ⟨none,rfl,uo.same (jd aQ _),(by rw[jq mx.symm];exact d2),jc⟩ ?_ ?_
 .rintro i σ' G' cM ⟨u,rfl,kG,dG,g0⟩
  have BX:=kG.strs d2 mI;have lo:=jN w (yi w xs n2 i).2 (m:=(xs.length:Nat)) N4;have hi:=jL w (yi w xs n2 i).2 (m:=(xs.length:Nat)) N4;have k4:=uo.upd d G' (Nl w (jk w (yi w xs n2 i).2 (xs.length:Nat)).2);have al:=ZN w xs n2 i;unfold qz K9;refine k9 ?_;refine Ps rfl rfl (Pp rfl ⟨Z.nl,Pp rfl ⟨.inl (ES.of BX),d,w,_,(xs.length:Nat),by rw[av];rfl,dG,N4,N4,Z.nl,_,Pq rfl rfl ⟨ES.of (k4.strs dG BX),qS lo hi,_,k4 _ _ mx g0,kA (by rw[av];omega),Pp rfl ⟨fun c o hc e=>?_,?_,?_⟩⟩⟩⟩)
  .rw[jq (jm e aQ)];exact k4 _ _ hc (kG _ _ hc e)
  .rw[jq mx.symm];exact jc
  .rw[jc]
   show _=some (HO.lst (((yi w xs n2 i).1++[_]).map V.str));rw[bj];rfl
 rintro σ' G' ⟨u,rfl,kG,dG,g0⟩;refine⟨p2,Pp rfl (.inl ⟨ES.of g0,fun t4 vj=>?_⟩)⟩;have s5:=jd vj (.tup ((yi w xs n2 h.2.1).1.map V.str));have e5:upd G' t4 (.tup ((yi w xs n2 h.2.1).1.map V.str)) t4=some (.tup ((yi w xs n2 h.2.1).1.map V.str)):=jc;have BF:=kG.trans (uo.same s5);have d5:=s5 _ _ dG;generalize upd G' t4 (.tup ((yi w xs n2 h.2.1).1.map V.str))=H5 at *;have t5:=BF.strs d2 e2;generalize yi w xs n2 h.2.1=ar at *;refine gQ ?_;refine Ps rfl rfl (Ps rfl rfl (Pp rfl ⟨N4,N4,fun p3 cR=>?_⟩));rw[dk];have uS:p3≠d:=fun z=>by rw[z,d5]at cR;cases cR
 have uR:p3≠t:=fun z=>by rw[z,t5]at cR;cases cR
 have rC:t≠d:=fun z=>by rw[z,hd]at ht;cases ht
 let Px:Nat->St->Hp->Prop:=fun i σ' G=>∃u,σ'=[u,some (.ref d),some (.ref t)]/\(∀b o,b≠d->b≠t->H5 b=some o->G b=some o)/\G d=some (Nl w (qy w rs ar.2 i).2.1)/\G t=some (.lst ((qy w rs ar.2 i).2.2.map V.str))/\G p3=some (.lst ((qy w rs ar.2 i).1.map V.str))
 refine qg Px ⟨none,rfl,fun b o _ _ e=>jd cR _ _ _ e,(by rw[jq uS.symm];exact d5),(by rw[jq uR.symm];exact t5),jc⟩ ?_ ?_
 .rintro i σ' G cM ⟨u,rfl,kG,dG,tG,sr⟩
  obtain⟨F4,F3⟩:=KK w rs ar.2 i N4;have es:qy w rs ar.2 (i+1)=((qy w rs ar.2 i).1++[qY (qy w rs ar.2 i).2.2 (jk w (qy w rs ar.2 i).2.1 (((qy w rs ar.2 i).2.2.length:Nat):Int)).1],(jk w (qy w rs ar.2 i).2.1 (((qy w rs ar.2 i).2.2.length:Nat):Int)).2,(qy w rs ar.2 i).2.2.eraseIdx (jk w (qy w rs ar.2 i).2.1 (((qy w rs ar.2 i).2.2.length:Nat):Int)).1.toNat):=rfl;show _;generalize qy w rs ar.2 i=pp at *;obtain⟨dn,mm,lf⟩:=pp;dsimp only at F4 F3 dG tG sr es;have lo:=jN w mm (m:=(lf.length:Nat)) N4;have hi:=jL w mm (m:=(lf.length:Nat)) N4;have k6:=uo.upd d G (Nl w (jk w mm (lf.length:Nat)).2);have hk:(jk w mm (lf.length:Nat)).1.toNat < lf.length:=by omega
  unfold qz K9;refine k9 ?_;refine Pp rfl ⟨.inl ⟨rfl,_,ES.of tG⟩,Ps rfl rfl ⟨t,Pp rfl ⟨.inl (ES.of tG),d,w,mm,(lf.length:Nat),by rw[av];rfl,dG,N4,N4,?_⟩⟩⟩;refine⟨t,_,_,(jk w mm (lf.length:Nat)).1.toNat,.str (qY lf (jk w mm (lf.length:Nat)).1),rfl,rfl,k6 _ _ rC tG,N4,N4,PySem.StrLaws.seqIndex_nonneg lo (by rw[av];exact hi),?_,dn.map V.str,?_,kA (by rw[av];omega),?_⟩
  .rw[bP,aP hk]
   unfold qY;rw[eI,aP hk];rfl
  .rw[jq uR];exact k6 _ _ uS sr
  .refine Pp rfl ⟨fun c o hc cW e=>?_,?_,?_,?_⟩
   .rw[jq (jm e cR),jq cW];exact k6 _ _ hc (kG _ _ hc cW e)
   .rw[es,jq uS.symm,jq rC.symm];exact jc
   .rw[es,jq uR.symm,jc,jjP]
   .rw[es,jc,bj];rfl
 rintro σ' G ⟨u,rfl,kG,dG,tG,sr⟩;refine⟨p3,Pp rfl (.inl ⟨ES.of sr,fun t6 Hy=>⟨sm rfl,fun t7 Hx=>?_⟩⟩)⟩;have s6:=jd Hy (.tup ((qy w rs ar.2 h.2.2).1.map V.str));have s7:=jd Hx (.tup [V.str (aa "call"),V.str x,V.str h.1,V.ref t4,V.ref t6]);refine q _ _ (fun c o hc e=>?_) (s7 _ _ (s6 _ _ dG)) ?_
 .exact s7 _ _ (s6 _ _ (kG _ _ hc (jm e ht) (BF _ _ hc (Hb _ _ hc e))))
 .have rF:t4≠d:=fun z=>by rw[z,d5]at e5;cases e5
  have Gv:t4≠t:=fun z=>by rw[z,t5]at e5;cases e5
  refine jK jc (jf jD (jf jD (jf jD (jf (jK (s7 _ _ (s6 _ _ (kG _ _ rF Gv e5))) ?_) (jf (jK (s7 _ _ jc) ?_) jF)))))
  .exact Jn _
  .exact Jn _
end
end LW
namespace L2
open PySem PySem.Spec PyProof.Rows PySem.W PySem.Builtin PySem.Builtin.Str
section
variable {X:Cx}
def jjk:QZ X "str.index" (fun x vs H Q=>∃(z y:Str) (i:Nat) (r:List Nat),x=.str z/\vs=[.str y]/\occurrences z y 0 z.length 1=i :: r/\Q (.int (i:Nat)) H):=by intro ad s σ H x xs v us Q I rx rs h;obtain⟨z,y,i,r,rfl,rfl,ho,q⟩:=h;obtain⟨t,rfl⟩:=rx;obtain⟨u,rfl,t',rfl⟩:=zB rs;exact SC.index ho ⟨.int (i:Nat),H,I.tok _,⟨_,rfl⟩,q⟩
end
end L2
namespace LW
open PySem L2
def Ot(l:List Nat):Str:=⟨l.toArray⟩
def Jw(l:List Nat):(Ot l).cps.toList=l:=rfl
def Jv(l:List Nat):(Ot l).length=l.length:=by show l.toArray.size=_;simp
def jkr{l m:List Nat}(h:Ot l=Ot m):l=m:=by rw[<- Jw l,h];rfl
def KC(l m:List Nat):Ot l++Ot m=Ot (l++m):=ye (by rw[tJ,ur];rfl)
def jlo:∀ys:List Nat,gb "" (ys.map fun c=>Ot [c])=Ot ys:=by
 intro ys;have e:gb "" (ys.map fun c=>Ot [c])=("" : Str).join (ys.map fun c=>Ot [c]):=pG _ _;rw[e];clear e;induction ys with
 | nil=>rfl
 | cons y r ih=>
  cases r with
  | nil=>rfl
  | cons z r=>
   show ((Ot [y]++Ot [])++("" : Str).join ((z :: r).map fun c=>Ot [c]))=_;rw[ih,KC,KC];rfl
def YE:Str:="abcdefghijklmnopqrstuvwxyz"
def jkh:YE.cps.toList=(ir 26).map (·+97):=N3
theorem jki{i:Int}(h0:0<=i)(h1:i < 26):Qd YE.cps.toList i=some (i.toNat+97):=by
 have hk:i.toNat < 26:=by omega
 have:=ju (xs:=YE.cps.toList) (j:=i.toNat) (v:=i.toNat+97) (by rw[jkh,bP,List.getElem?_range hk];rfl);rw[show ((i.toNat:Nat):Int)=i by omega]at this;exact this
variable {i:Nat}
def jm3(h:i < 26):EL YE (Ot [i+97]) 0 YE.length 1=[i]:=by
 have:∀i < 26,EL YE (Ot [i+97]) 0 YE.length 1=[i]:=by decide +kernel
 exact this i h
def Qn(z:Str):Prop:=∃i r,z=Ot ((i+97) :: r)/\i < 26/\r.length<=7
def qZ(w:Int)(n:Dl):Nat->List Nat×Dl
 | 0=>([],n)
 | i+1=>
  let p:=qZ w n i
  let d:=jk w p.2 26
  (p.1++[d.1.toNat+97],d.2)
theorem KN(w:Int)(n:Dl):∀i,(qZ w n i).1.length=i
 | 0=>rfl
 | i+1=>by show (_++[_]).length=_;rw[az,KN w n i];rfl
theorem jdV(w:Int)(n:Dl)(i:Nat)(hi:i<=7):Qn (Ot (qZ w n (i+1)).1):=by
 have:∀i,∃k r,(qZ w n (i+1)).1=(k+97) :: r/\k < 26:=by
  intro i;induction i with
  | zero=>
   refine⟨(jk w n 26).1.toNat,[],rfl,?_⟩;have:=jL w n (m:=26) N5;have:=jN w n (m:=26) N5;omega
  | succ i ih=>
   obtain⟨k,r,e,h⟩:=ih;exact⟨k,r++[_],by show (qZ w n (i+1)).1++[_]=_;rw[e];rfl,h⟩
 obtain⟨k,r,e,h⟩:=this i;have hl:=KN w n (i+1);rw[e]at hl;have:r.length+1=i+1:=hl;exact⟨k,r,by rw[e],h,N4⟩
def ch0(z:Str):Nat:=z.cps.toList.getD 0 0
def Jk(w:Int)(n:Dl):Str×Dl:=
 let a:=jk w n 8
 let b:=qZ w a.2 (1+a.1).toNat
 (Ot b.1,b.2)
def chg(last z:Str)(i:Int):Str:=Jb last none (some i)++Ot [ch0 z]++Jb last (some (i+1)) none
def Jj(w:Int)(n:Dl)(last z:Str):Str×Dl:=
 let a:=jk w n 3
 if a.1=0/\1 < last.length then
  let b:=jk w a.2 ((last.length:Nat):Int)
  (chg last z b.1,b.2)
 else (z,a.2)
def Sa:List Str:=["row","is","at","least","set","put","know","lose","proc","pick"]
def Y5(w:Int)(n:Dl)(z:Str):Str×Dl:=
 let a:=jk w n 6
 if a.1=0 then
  let b:=jk w a.2 10
  (qY Sa b.1,b.2)
 else (z,a.2)
def jlA(z:Str):Str:=Ot [(ch0 z - 97+1) % 26+97]++Jb z (some 1) none
def Jo(tk:List Str):Nat->Str->Str
 | 0,z=>z
 | k+1,z=>if z∈tk then Jo tk k (jlA z) else z
def qd(tk:List Str):Str:=tk.getLastD ""
def qw(w:Int)(n:Dl)(tk:List Str):Str×Dl:=
 let a:=Jk w n
 let b:=Jj w a.2 (qd tk) a.1
 let c:=Y5 w b.2 b.1
 (Jo tk 26 c.1,c.2)
theorem nm1(w:Int)(n:Dl):Qn (Jk w n).1:=by unfold Jk;have h0:=jN w n (m:=8) N5;have h1:=jL w n (m:=8) N5;show Qn (Ot (qZ w (jk w n 8).2 (1+(jk w n 8).1).toNat).1);rw[show (1+(jk w n 8).1).toNat=(jk w n 8).1.toNat+1 by omega];exact jdV _ _ _ N4
def jfw(c:Nat)(r:List Nat):ch0 (Ot (c :: r))=c:=rfl
theorem jn4(c:Nat)(r:List Nat):Jb (Ot (c :: r)) (some 1) none=Ot r:=by refine ye ?_;rw[zV,HT.sIx_none,show (some (1:Int))=some ((1:Nat):Int) from rfl,HT.sIx_nat,Jv,Jw];rw[show min 1 (c :: r).length=1 by simp only[aM];omega,List.drop_succ_cons,p0,Jw];exact ip NZ
theorem jj3(c d:Nat)(r s:List Nat)(k:Nat)(hk:k < (c :: r).length):chg (Ot (c :: r)) (Ot (d :: s)) (k:Nat)=Ot ((c :: r).take k++d :: (c :: r).drop (k+1)):=by
 unfold chg;rw[jfw];have e1:Jb (Ot (c :: r)) none (some ((k:Nat):Int))=Ot ((c :: r).take k):=by refine ye ?_;rw[zV,HT.sIx_none,HT.sIx_nat,Jv,Jw,Jw,p0,Ac,fz N4]
 have e2:Jb (Ot (c :: r)) (some (((k:Nat):Int)+1)) none=Ot ((c :: r).drop (k+1)):=by refine ye ?_;rw[zV,HT.sIx_none,show ((k:Nat):Int)+1=((k+1:Nat):Int) from rfl,HT.sIx_nat,Jv,Jw,Jw,fz N4];exact ip (by rw[eF];omega)
 rw[e1,e2,KC,KC,bq];rfl
variable {w:Int}{n:Dl}{z:Str}
theorem nm2{last:Str}(hl:Qn last)(hz:Qn z):Qn (Jj w n last z).1:=by
 unfold Jj;dsimp only;split
 .rename_i c
  obtain⟨i,r,rfl,hi,hr⟩:=hl;obtain⟨j,s,rfl,hj,hs⟩:=hz;have hp:(0:Int) < ((Ot ((i+97) :: r)).length:Nat):=by have:=c.2;omega
  have h0:=jN w (jk w n 3).2 hp;have h1:=jL w (jk w n 3).2 hp;generalize (jk w (jk w n 3).2 (((Ot ((i+97) :: r)).length:Nat):Int)).1=k at h0 h1;show Qn (chg _ _ k);obtain⟨k,rfl⟩:∃m:Nat,k=(m:Nat):=⟨k.toNat,N4⟩
  rw[Jv]at h1;rw[jj3 _ _ _ _ _ N4]
  cases k with
  | zero=>exact⟨j,r,rfl,hj,hr⟩
  | succ k=>
   refine⟨i,r.take k++(j+97) :: r.drop (k+1),rfl,hi,?_⟩;simp only[aM]at h1;rw[az,aM,cq,eF];omega
 .exact hz
theorem jlX(h:(match z.cps.toList with | c :: r=>decide (97<=c/\c < 123/\r.length<=7) | []=>false)=true):Qn z:=by
 obtain⟨⟨l⟩⟩:=z
 cases l with
 | nil=>cases h
 | cons c r=>
  have:=PK h;refine⟨c - 97,r,?_,N4,this.2.2⟩;rw[OJ this.1];rfl
def nm3(hz:Qn z):Qn (Y5 w n z).1:=by
 unfold Y5;dsimp only;split
 .have h:=zk (xs:=Sa) (jN w (jk w n 6).2 (m:=10) N5) (jL w (jk w n 6).2 (m:=10) N5)
  have all:∀x∈Sa,(match x.cps.toList with | c :: r=>decide (97<=c/\c < 123/\r.length<=7) | []=>false)=true:=by decide +kernel
  exact jlX (all _ h)
 .exact hz
def zG:∀x∈jO,Qn x:=fun x hx=>jlX ((by decide +kernel:∀x∈jO,(match x.cps.toList with | c :: r=>decide (97<=c/\c < 123/\r.length<=7) | []=>false)=true) x hx)
def jgC(hi:i < 26)(r:List Nat):jlA (Ot ((i+97) :: r))=Ot (((i+1) % 26+97) :: r):=by unfold jlA;rw[jfw,jn4,KC,nS];rfl
def jb2{tk:List Str}(h:z ∉ tk):∀k,Jo tk k z=z
 | 0=>rfl
 | k+1=>by unfold Jo;rw[PN h]
def jd8{tk:List Str}(h:z∈tk)(k:Nat):Jo tk (k+1) z=Jo tk k (jlA z):=by rw[Jo,PP h]
theorem jbB{tk:List Str}{r:List Nat}{m:Nat}(hm:m<=26)(h:∀k < m,Ot (((i+k) % 26+97) :: r)∈tk):m<=tk.length:=by
 have nd:((ir m).map fun k=>Ot (((i+k) % 26+97) :: r)).Nodup:=by refine List.pairwise_map.mpr ((List.nodup_range).imp_of_mem ?_);intro a b ha hb lC e;have ha:=t0.mp ha;have hb:=t0.mp hb;have:=(md (jkr e)).1;omega
 have sub:∀x∈((ir m).map fun k=>Ot (((i+k) % 26+97) :: r)),x∈tk:=fun x hx=>by obtain⟨k,hk,rfl⟩:=fD.mp hx;exact h k (t0.mp hk)
 have:=jjh nd sub;rw[av,ub]at this;exact this
theorem jjJ{tk:List Str}(ht:tk.length<=25){r:List Nat}(hr:r.length<=7):∀(k m:Nat),m+k=26->(∀j < m,Ot (((i+j) % 26+97) :: r)∈tk)->Qn (Jo tk k (Ot (((i+m) % 26+97) :: r)))/\Jo tk k (Ot (((i+m) % 26+97) :: r)) ∉ tk:=by
 intro k;induction k with
 | zero=>
  intro m hm h;have:=jbB (m:=m) N4 h;omega
 | succ k ih=>
  intro m hm h;by_cases hz:Ot (((i+m) % 26+97) :: r)∈tk
  .rw[jd8 hz,jgC (tX _ N5),show ((i+m) % 26+1) % 26=(i+(m+1)) % 26 by omega]
   refine ih (m+1) N4 (fun j hj=>?_);rcases OM.mp hj with hj | rfl
   .exact h j hj
   .exact hz
  .rw[jb2 hz]
   exact⟨⟨_,r,rfl,tX _ N5,hr⟩,hz⟩
theorem jaW(w:Int)(n:Dl){tk:List Str}(hn:tk≠[])(ht:tk.length<=25)(h:∀z∈tk,Qn z):Qn (qw w n tk).1/\(qw w n tk).1 ∉ tk:=by unfold qw;dsimp only;have hl:Qn (qd tk):=h _ (by unfold qd;rw[Aj,uf hn];exact ue hn);have h3:=nm3 (w:=w) (n:=(Jj w (Jk w n).2 (qd tk) (Jk w n).1).2) (nm2 (w:=w) (n:=(Jk w n).2) hl (nm1 w n));generalize (Y5 w (Jj w (Jk w n).2 (qd tk) (Jk w n).1).2 (Jj w (Jk w n).2 (qd tk) (Jk w n).1).1).1=z at h3 |-;obtain⟨i,r,rfl,hi,hr⟩:=h3;have:=jjJ (i:=i) ht hr 26 0 rfl (fun j hj=>absurd hj (tW _));rw[show (i+0) % 26=i by omega]at this;exact this
abbrev jfX:ay:=NS 52
def jeC:Sp:=fun vs H Q _=>∃(d l:ac) (w:Int) (n:Dl) (tk:List Str),vs=[.ref d,.ref l]/\H d=some (Nl w n)/\H l=some (.lst (tk.map V.str))/\tk≠[]/\tk.length<=25/\(∀z∈tk,Qn z)/\∀H',(∀b o,b≠d->b≠l->H b=some o->H' b=some o)->H' d=some (Nl w (qw w n tk).2)->H' l=some (.lst ((tk++[(qw w n tk).1]).map V.str))->Q (.str (qw w n tk).1) H'
variable {H:Hp}
def jgL{c:TT}{tb:TS}{D:OK}{σ:St}(Pv:Nat->St->Hp->Prop)(n:Nat)(h0:Pv n σ H)
  (hs:∀m σ H,Pv m σ H->c σ H fun b H1=>if b=true then tb { D with nx:=fun σ' H'=>∃m',m' < m/\Pv m' σ' H',ct:=fun σ' H'=>∃m',m' < m/\Pv m' σ' H',bk:=D.nx } σ H1 else D.nx σ H1)
  (mono:∀σ H Q Q',(∀b H1,Q b H1->Q' b H1)->c σ H Q->c σ H Q'):jcr c tb D σ H:=by
 refine⟨Pv,⟨n,h0⟩,fun m σ H p=>mono σ H _ _ (fun b H1 q=>?_) (hs m σ H p)⟩
 cases b with
 | true=>exact⟨_,fun σ' H' h=>h,q⟩
 | false=>exact q
theorem jlE{tk:List Str}(h:tk≠[]):Qd (tk.map V.str) (-1)=some (.str (qd tk)):=by have hp:0 < tk.length:=pW.mpr h;have e:=uf h;rw[Pb]at e;unfold Qd RC qd;rw[PN N5,PP (by rw[av];omega),Aj,Pb,e];show (tk.map V.str)[_]?=_;rw[bP,show (-1+((tk.map V.str).length:Int)).toNat=tk.length - 1 by rw[av];omega,e];rfl
theorem je2(h:Qn z):z.length<=8:=by obtain⟨i,r,rfl,-,h⟩:=h;rw[Jv,aM];omega
variable {P:aC}{K:ao}{mg:Str->Option ae}{base:ak}{f:ac}{fd:aE}
section
variable {w:ax}
theorem jk1(F:Fun K "_law_name" "_law_name" jfX f fd)(B:Ni mg)(aG:Fn P w K mg base 1 "_law_draw" Nx qJ):MT P w K mg base PU 2 f fd Ov jeC:=by
 have sc:tS X6 Ov (jo jfX):=fQ;refine F.okZ sc (fun aB A iw s H vs Q E hr h=>?_);obtain⟨d,l,w,n,tk,rfl,hd,hl,aR,ht,bo,q⟩:=h;have hu:=jl0 hr;refine⟨_,(ja (jh 2 sc.nd jb) (ja (jh 3 sc.nd (jV bi pQ pO KM jb (jp (qT M2 [0,2] rfl (qr (sc:=jo jfX) (N:=X6) rfl rfl N3) (kP N9 B.range_ (jp (jn qb je (jB aG hr (jj (bB 0) je))))) (fun s H ex=>⟨(kU (i:=0) (show cv (["_law_k","_law_deal_here","_law_letters"]:List Str) from N3) rfl oQ),qt,(js jcZ (bB 2) (jB aG hr (jj (bB 1) je)))⟩))))) (ja (jR (zx (jx j6 (jB aG hr (jj (bB 0) je)) je (jA _)) (zh (jx Kj (j7 zd N9 B.len_ ku (jp (js jQ (bB 1) (K7 K8 je)))) je (jA _)))).pt (ja (jh 4 sc.nd (jB aG hr (jj (bB 0) (j7 zd N9 B.len_ ku (jp (js jQ (bB 1) (K7 K8 je))))))) (jg (jh 3 sc.nd (jn jw (jn jw (kq Zt (js jQ (bB 1) (K7 K8 je)) kF (kE (bB 4))) (js jcZ (bB 3) je)) (kq Zt (js jQ (bB 1) (K7 K8 je)) (kE (jn qb (bB 4) je)) kF))))) jH) (ja (jR (jx j6 (jB aG hr (jj (bB 0) je)) je (jA _)) (jg (jh 3 sc.nd (js jQ (jI (jr jb (jr jb (jr jb (jr jb (jr jb (jr jb (jr jb (jr jb (jj jb jb)))))))))) (jB aG hr (jj (bB 0) je))))) jH) (ja (jbA il (jx (jeU (K:=K)) (bB 3) (bB 1) rfl) (jg (jh 3 sc.nd (jn jw (js jcZ (bB 2) (jn JC (jn qb (jV bi PySem.F.slot_str_index PySem.F.type_str_index jjk (bB 2) (jp (js jcZ (bB 3) je))) je) je)) (kq Zt (bB 3) (kE je) kF))))) (ja (jP (jV bL cg cf ke (bB 1) (jp (bB 3)))) (jg (jy (bB 3))))))))),?_⟩
 try dsimp only[qF]
 refine kK ?_;refine jnX ?_;intro _ _ _ _ _;have lC:YE.length<=aF:=by show 26<=aF;rw[nv];decide
 have Ib:l≠d:=fun z=>by
  rw[z,hd]at hl;injection hl with e;injection e with e
  cases tk with
  | nil=>cases e
  | cons x xs=>injection e with e;cases e
 unfold qw Jk at q;dsimp only at q;have a1:=jN w n (m:=8) N5;have a2:=jL w n (m:=8) N5;refine⟨rfl,Pp rfl ⟨d,w,n,8,rfl,hd,N5,N5,Pq rfl rfl ?_⟩⟩;have k0:=uo.upd d H (Nl w (jk w n 8).2);have d0:=Pn (H:=H) d (Nl w (jk w n 8).2);generalize upd H d _=H0 at *;generalize jk w n 8=x at *;obtain⟨x,n1⟩:=x;dsimp only at q a1 a2 d0 |-;refine Pp rfl ⟨N4,N4,fun p hp=>?_⟩;have eK:p≠d:=fun z=>by rw[z,d0]at hp;cases hp
 let Pv:Nat->St->Hp->Prop:=fun i σ' G=>∃u,σ'=[u,some (.ref d),some (.str YE)]/\uo d H0 G/\G d=some (Nl w (qZ w n1 i).2)/\G p=some (.lst (((qZ w n1 i).1.map fun c=>Ot [c]).map V.str))
 refine qg Pv ⟨none,rfl,uo.same (jd hp _),(by rw[jq eK.symm];exact d0),jc⟩ ?_ ?_
 .rintro i σ' G hi ⟨u,rfl,kG,dG,bN⟩
  have lo:=jN w (qZ w n1 i).2 (m:=26) N5;have bX:=jL w (qZ w n1 i).2 (m:=26) N5;have k4:=uo.upd d G (Nl w (jk w (qZ w n1 i).2 26).2);have al:=KN w n1 i;unfold qz K9;refine k9 ?_;refine Ps rfl rfl ⟨d,w,_,26,rfl,dG,N5,N5,YE,Pq rfl rfl ⟨lC,jki lo bX,_,k4 _ _ eK bN,kA (by rw[av,av];omega),Pp rfl ⟨fun c o hc e=>?_,?_,?_⟩⟩⟩
  .rw[jq (jm e hp)];exact k4 _ _ hc (kG _ _ hc e)
  .rw[jq eK.symm];exact jc
  .rw[jc]
   show _=some (HO.lst ((((qZ w n1 i).1++[_]).map fun c=>Ot [c]).map V.str));rw[bj,bj];rfl
 rintro σ' G ⟨u,rfl,kG,dG,bN⟩;have al:=KN w n1 (1+x).toNat;have kH:=k0.trans kG;have rV:=kH.strs hd hl;have Hk:((((qZ w n1 (1+x).toNat).1.map fun c=>Ot [c]).map (·.length)).sum+((qZ w n1 (1+x).toNat).1.map fun c=>Ot [c]).length * (aa "").length<=16777216):=by
  have e0:(aa "").length=0:=rfl;rw[e0,Nat.mul_zero,E4,O6];have:∀l:List Nat,(l.map ((fun z:Str=>z.length) ∘ fun c=>Ot [c])).sum=l.length:=by
   intro l;induction l with
   | nil=>rfl
   | cons c l ih=>rw[bn,Ai,ih,aM];show 1+_=_;omega
  rw[this];omega
 refine⟨aa "",p,Pp rfl ⟨rfl,ES.of bN,Hk,?_⟩⟩;rw[show gb (aa "") ((qZ w n1 (1+x).toNat).1.map fun c=>Ot [c])=Ot (qZ w n1 (1+x).toNat).1 from jlo _];have w1:Qn (Ot (qZ w n1 (1+x).toNat).1):=by rw[show (1+x).toNat=x.toNat+1 by omega];exact jdV _ _ _ N4
 generalize qZ w n1 (1+x).toNat=r1 at *;obtain⟨r1,n2⟩:=r1;dsimp only at q dG w1 |-;generalize Ot r1=z1 at *;have rT:Qd (tk.map V.str) (-1)=some (.str (qd tk)):=jlE aR;have oS:Qn (qd tk):=bo _ (by unfold qd;rw[Aj,uf aR];exact ue aR);have gV:=je2 oS;have w2:=nm2 (w:=w) (n:=n2) oS w1;refine gQ ?_;refine Sx (fun σ G2=>∃u,σ=[some (.ref d),some (.ref l),some (.str YE),some (.str (Jj w n2 (qd tk) z1).1),u]/\uo d H G2/\G2 d=some (Nl w (Jj w n2 (qd tk) z1).2)) ?_ (fun kk=>?_);rotate_left
 .unfold Jj at kk
  dsimp only at kk;have k5:=uo.upd d G (Nl w (jk w n2 3).2);have d5:=Pn (H:=G) d (Nl w (jk w n2 3).2);refine Pp rfl ⟨d,w,n2,3,rfl,dG,N5,N5,rfl,Pp rfl ?_⟩;have mL:=k5.strs dG rV;generalize upd G d _=G5 at *;generalize jk w n2 3=x3 at *;obtain⟨x3,n3⟩:=x3;dsimp only at kk d5 |-;refine kW (fun c=>?_) (fun c=>?_)
  .have c':x3=0:=by have:=PK c;injection this
   refine Ps rfl rfl ⟨l,_,Pq rfl rfl ⟨ES.of mL,rT,qd tk,rfl,jU N4,Pq rfl rfl (Pp rfl (kW (fun c2=>?_) (fun c2=>?_)))⟩⟩
   .have m5:1 < (qd tk).length:=by have:=PK c2;omega
    rw[PP ⟨c',m5⟩]at kk;have lo:=jN w n3 (m:=((qd tk).length:Nat)) N4;have hi:=jL w n3 (m:=((qd tk).length:Nat)) N4;have k6:=uo.upd d G5 (Nl w (jk w n3 ((qd tk).length:Nat)).2);have d6:=Pn (H:=G5) d (Nl w (jk w n3 ((qd tk).length:Nat)).2);refine Ps rfl rfl (Pp rfl ⟨l,_,Pq rfl rfl ⟨ES.of mL,rT,qd tk,rfl,jU N4,d,w,n3,((qd tk).length:Nat),rfl,d5,N4,N4,?_⟩⟩);have mK:=k6.strs d5 mL;generalize upd G5 d _=G6 at *;generalize jk w n3 ((qd tk).length:Nat)=x4 at *;obtain⟨x4,n4⟩:=x4;dsimp only at kk d6 lo hi |-;refine gQ ?_;obtain⟨x4,rfl⟩:∃m:Nat,x4=(m:Nat):=⟨x4.toNat,N4⟩
    have zl:=je2 w1;obtain⟨ci,cr,e1,-,-⟩:=w1;obtain⟨li,lr,e2,-,e4⟩:=oS;have e3:=jj3 (li+97) (ci+97) lr cr x4 (by rw[e2,Jv]at hi;omega);rw[<- e2,<- e1]at e3;have c0:Qd z1.cps.toList 0=some (ch0 z1):=by rw[e1];exact ju (j:=0) rfl
    have cl1:=KW (qd tk) none (some (x4:Int));have cl2:=KW (qd tk) (some ((x4:Int)+1)) none;refine Ps rfl rfl ⟨l,_,Pq rfl rfl ⟨ES.of mK,rT,Ps rfl rfl ⟨qd tk,rfl,jU N4,Pp rfl ⟨z1,0,Pp rfl ⟨rfl,jU N4,c0,Pq rfl rfl ⟨?_,?_⟩⟩⟩⟩⟩⟩
    .exact jU (by show _+1<=_;omega)
    refine Ps rfl rfl ⟨l,_,Pq rfl rfl ⟨ES.of mK,rT,Pp rfl (Pq rfl rfl (Pp rfl ⟨qd tk,rfl,jU N4,Pq rfl rfl ⟨jU ?_,?_⟩⟩))⟩⟩
    .rw[bK]
     show _+1+_<=_;omega
    refine kk _ _ ⟨_,rfl,kH.trans (k5.trans k6),d6⟩
   .rw[PN (fun h=>c2 (PL (by have:=h.2;omega)))]at kk
    exact kk _ _ ⟨_,rfl,kH.trans k5,d5⟩
  .rw[PN (fun h=>c (PL (PR V.int h.1)))]at kk
   exact kk _ _ ⟨_,rfl,kH.trans k5,d5⟩
 rintro σ G2 ⟨u5,rfl,rK,wB⟩;clear kG dG rV;have cD:=rK.strs hd hl;generalize Jj w n2 (qd tk) z1=z2 at *;obtain⟨z2,n3⟩:=z2;dsimp only at q w2 wB |-;have w3:=nm3 (w:=w) (n:=n3) w2;refine Sx (fun σ G3=>σ=[some (.ref d),some (.ref l),some (.str YE),some (.str (Y5 w n3 z2).1),u5]/\uo d H G3/\G3 d=some (Nl w (Y5 w n3 z2).2)) ?_ (fun kk=>?_);rotate_left
 .unfold Y5 at kk
  dsimp only at kk;have k5:=uo.upd d G2 (Nl w (jk w n3 6).2);have d5:=Pn (H:=G2) d (Nl w (jk w n3 6).2);refine Pp rfl ⟨d,w,n3,6,rfl,wB,N5,N5,rfl,Pp rfl ?_⟩;generalize upd G2 d _=G5 at *;generalize jk w n3 6=x3 at *;obtain⟨x3,n4⟩:=x3;dsimp only at kk d5 |-;refine kW (fun c=>?_) (fun c=>?_)
  .have c':x3=0:=by have:=PK c;injection this
   rw[PP c']at kk;refine⟨sm rfl,fun p2 aQ=>?_⟩;have s6:=jd aQ (.lst (Sa.map V.str));have e6:=Pn (H:=G5) p2 (.lst (Sa.map V.str));have lo:=jN w n4 (m:=10) N5;have hi:=jL w n4 (m:=10) N5;refine Pp rfl ⟨d,w,n4,10,rfl,s6 _ _ d5,N5,N5,p2,_,Pq rfl rfl ⟨ES.of (xs:=Sa.map V.str) ?_,qS lo hi,?_⟩⟩
   .rw[jq (fun z=>by rw[z,d5]at aQ;cases aQ)];exact e6
   refine kk _ _ ⟨rfl,rK.trans (k5.trans ((uo.same s6).trans (uo.upd _ _ _))),jc⟩
  .rw[PN (fun h=>c (PL (PR V.int h)))]at kk
   exact kk _ _ ⟨rfl,rK.trans k5,d5⟩
 rintro σ G3 ⟨rfl,BC,CP⟩;clear rK wB cD;have gw:=BC.strs hd hl;generalize Y5 w n3 z2=z3 at *;obtain⟨z3,n4⟩:=z3;dsimp only at q w3 CP |-;obtain⟨i0,r0,rfl,B4,lh⟩:=w3;refine jgL (fun m σ G=>∃k,k+m=26/\σ=[some (.ref d),some (.ref l),some (.str YE),some (.str (Ot (((i0+k) % 26+97) :: r0))),u5]/\G=G3/\Jo tk 26 (Ot ((i0+97) :: r0))=Jo tk m (Ot (((i0+k) % 26+97) :: r0))/\∀j < k,Ot (((i0+j) % 26+97) :: r0)∈tk) 26 ⟨0,rfl,by rw[show (i0+0) % 26=i0 by omega],rfl,by rw[show (i0+0) % 26=i0 by omega],fun j hj=>absurd hj (tW _)⟩ ?_ ?_
 .rintro m σ G ⟨k,hk,rfl,rfl,ef,mV⟩
  have few:=jbB (m:=k) N4 mV;obtain⟨m,rfl⟩:∃m',m=m'+1:=⟨m - 1,N4⟩
  refine Ps rfl rfl ⟨l,Pp rfl ⟨.inl (ES.of gw),rfl,?_,Pp rfl (kW (fun c=>?_) (fun c=>?_))⟩⟩
  .exact Jp _
  .have b_:Ot (((i0+k) % 26+97) :: r0)∈tk:=PK ((yH _ _).symm.trans c)
   have hb:(i0+k) % 26 < 26:=tX _ N5;rw[jd8 b_,jgC hb,show ((i0+k) % 26+1) % 26=(i0+(k+1)) % 26 by omega]at ef;have zl:(Ot (((i0+k) % 26+97) :: r0)).length<=8:=by rw[Jv,aM];omega
   have hq:(((i0+k) % 26:Nat):Int)+1=(((i0+k) % 26+1:Nat):Int):=rfl;refine Ps rfl rfl ⟨rfl,Pp rfl ⟨_,0,Pp rfl ⟨rfl,jU N4,ju (j:=0) rfl,YE,_,Pq rfl rfl ⟨jm3 hb,Pq rfl rfl (Pq rfl rfl ⟨(by show (0:Int) < _;decide),YE,Pq rfl rfl ⟨lC,jki N4 N4,?_⟩⟩)⟩⟩⟩⟩;refine Ps rfl rfl (Pp rfl ⟨jU N4,Pq rfl rfl ⟨jU ?_,?_⟩⟩)
   .have:=KW (Ot (((i0+k) % 26+97) :: r0)) (some 1) none
    show 1+_<=_;omega
   .refine⟨m,EX _,k+1,N4,?_,rfl,ef,fun j hj=>?_⟩
    .have e9:(Ot [((((i0+k) % 26:Nat):Int)+1) % 26 |>.toNat |> (·+97)]++Jb (Ot (((i0+k) % 26+97) :: r0)) (some 1) none)=Ot (((i0+(k+1)) % 26+97) :: r0):=by rw[jn4,KC];show Ot ((_+97) :: r0)=_;rw[show (((((i0+k) % 26:Nat):Int)+1) % 26).toNat=(i0+(k+1)) % 26 by omega]
     rw[<- e9];rfl
    .rcases OM.mp hj with hj | rfl
     .exact mV j hj
     .exact b_
  .have HM:Ot (((i0+k) % 26+97) :: r0) ∉ tk:=fun z=>c ((yH _ _).trans (PL z))
   rw[jb2 HM]at ef;rw[ef]at q;refine Pp rfl ⟨.inl ⟨rfl,_,ES.of gw⟩,Pp rfl ⟨l,Pq rfl rfl ⟨gw,kA (by rw[av];omega),Pp rfl ?_⟩⟩⟩;refine q _ (fun b o hb gy e=>?_) ?_ ?_
   .rw[jq gy];exact BC _ _ hb e
   .rw[jq Ib.symm];exact CP
   .rw[jc,bj];rfl
 .intro σ H1 Q1 Q2 hm h
  obtain⟨v1,e1,v2,e2,i,j,e3,e4,e5,e6,k,e7,h⟩:=h;exact⟨v1,e1,v2,e2,i,j,e3,e4,e5,e6,k,e7,hm _ _ h⟩
end
abbrev Q3:Type:=List (Int×Dl)×Nat
def lsA(w:Int)(n:Dl)(xs rs:List Str):Tm:=(qG w n xs rs).1
def lsB(w:Int)(n:Dl)(xs rs:List Str):Tm:=(qG w (qG w n xs rs).2 xs rs).1
def lsC(w:Int)(n:Dl)(xs rs:List Str):Int:=(Y4 w (qG w (qG w n xs rs).2 xs rs).2).1
def jjw(w:Int)(n:Dl)(xs rs:List Str):(zS w n xs rs).1=.least (lsA w n xs rs) (lsB w n xs rs) (lsC w n xs rs):=rfl
def Sh(lv:Nat)(bf:Q3->List (Qi lv)×Q3)(xs rs:List Str)(Et:List Hd)(L:List (Int×Dl))(left:Nat)(w:Int)(n:Dl)(f:Int)(x:Str):Qi (lv+1)×Q3:=
 if f=2/\0 < rs.length then
  let c:=jk w n ((rs.length:Nat):Int)
  let p:=yD w c.2 xs
  let t:=qG w p.2 xs rs
  (Fo.leaf (.put (qY rs c.1) p.1.1 p.1.2 t.1 (Y4 w t.2).1),L,left)
 else if f=3 then (Fo.leaf (.any x),L,left)
 else if f=4 then (Fo.leaf (.claim (YC w n xs rs).1),L,left)
 else if f=5/\0 < lv then
  let B:=bf (L,left)
  let C:=bf B.2
  (Fo.ite (lsA w n xs rs) (lsB w n xs rs) (lsC w n xs rs) B.1 C.1,C.2)
 else if f=6/\0 < lv then
  let e:=jk w (zS w n xs rs).2 4
  let m:=jk w e.2 (if e.1 / 3=0 then 3 else 7)
  let ks:=qa xs rs L m.1.toNat
  let B:=bf (ks.2,left)
  (Fo.whl (lsA w n xs rs) (lsB w n xs rs) (lsC w n xs rs) ks.1 B.1,B.2)
 else if f=7 then (Fo.leaf (Sz w n x xs rs Et).1,L,left)
 else
  let t:=qG w n xs rs
  (Fo.leaf (.set x t.1 (Y4 w t.2).1),L,left)
def qH(lv:Nat)(bf:Q3->List (Qi lv)×Q3)(xs fr rs:List Str)(Et:List Hd)(L:List (Int×Dl))(left:Nat):Qi (lv+1)×Q3:=
 let y:=qI L
 let a:=jk y.1.1 y.1.2 8
 let b:=jk y.1.1 a.2 ((fr.length:Nat):Int)
 Sh lv bf xs rs Et y.2 (left - 1) y.1.1 b.2 a.1 (qY fr b.1)
def kY{α:Type}(f:List (Int×Dl)->Nat->α×Q3)(L:List (Int×Dl))(left:Nat):Nat->List α×Q3
 | 0=>([],L,left)
 | k+1=>
  let p:=kY f L left k
  if 0 < p.2.1.length/\0 < p.2.2 then
   let s:=f p.2.1 p.2.2
   (p.1++[s.1],s.2)
  else p
def ZT:Nat->Int
 | 3=>31
 | 2=>7
 | _=>4
def qk(xs fr rs:List Str)(Et:List Hd):(lv:Nat)->Q3->List (Qi lv)×Q3
 | 0=>fun S=>([],S)
 | lv+1=>fun S=>
  let y:=qI S.1
  kY (qH lv (qk xs fr rs Et lv) xs fr rs Et) y.2 S.2 (jk y.1.1 y.1.2 (ZT lv)).1.toNat
structure Rb(A:Wd)(a:ac)(xs fr rs:List Str)(Et:List Hd):Prop where
 n:A.nl≠a
 f:A.fl≠a
 r:A.rl≠a
 h:A.hl≠a
 x0:0 < xs.length
 x1:xs.length<=100
 f0:0 < fr.length
 f1:fr.length<=100
 r1:rs.length<=100
 h1:Et.length<=100
 h2:∀h∈Et,h.2.1<=100
def Y8:∀{Et:List Hd} {hs:List V},MN H (Et.map QQ) hs->∀(w:Int) (n:Dl),hs≠[.int n.1,.int n.2]
 | [],hs,h,w,n,e=>by cases jX h;cases e
 | x :: Et,hs,h,w,n,e=>by obtain⟨v1,r1,rfl,e1,-⟩:=ji h;obtain⟨a,rfl,-⟩:=jc8 e1;injection e with e;cases e
variable {a b:ac}{ds:List ac}{L:List (Int×Dl)}
theorem MH.out(D:MH H a ds L){o:HO}(hb:H b=some o)(n:b≠a)(h:∀(w:Int) (n:Dl),o≠Nl w n):b ∉ a :: ds:=fun z=>by
 rcases aA.mp z with z | z
 .exact n z
 .obtain⟨i,hi,e⟩:=Al z
  have bX:i < L.length:=by have:=D.n;omega
  have:=D.at_ i b L[i] (by rw[aP hi,e]) (aP bX);rw[hb]at this;injection this with this;exact h _ _ this
def MH.no(D:MH H a ds L){o:HO}(hb:H b=some o)(h:∀us,o≠.lst us):b ∉ a :: ds:=D.out hb (fun z=>by rw[z,D.l]at hb;injection hb with hb;exact h _ hb.symm) fun _ _=>h _
theorem MH.new(D:MH H a ds L)(hb:H b=none):b ∉ a :: ds:=fun z=>by
 rcases aA.mp z with z | z
 .rw[z,D.l]at hb;cases hb
 .obtain⟨i,hi,e⟩:=Al z
  have bX:i < L.length:=by have:=D.n;omega
  rw[D.at_ i b L[i] (by rw[aP hi,e]) (aP bX)]at hb
  cases hb
variable {xs:List Str}
def jcu:HO.lst (xs.map V.str)≠Nl w n:=fun e=>by
 injection e with e
 cases xs with
 | nil=>cases e
 | cons x xs=>injection e with e;cases e
variable {H':Hp}{wd:ac}{A:Wd}{rs:List Str}{Et:List Hd}
def Nf.of{fr:List Str}{left:Int}(W:Nf H wd A xs fr rs Et left)(hd:∀ah,H wd=some (.dK ah)->H' wd=some (.dK ah))(hs:∀b zs,b=A.nl\/b=A.fl\/b=A.rl\/b=A.hl->(∀(w:Int) (n:Dl),HO.lst zs≠Nl w n)->H b=some (.lst zs)->H' b=some (.lst zs))(tk:TK H H'):Nf H' wd A xs fr rs Et left:=by obtain⟨ah,h1,h2⟩:=W.d;obtain⟨cu,h3,h4⟩:=W.h;exact⟨⟨ah,hd _ h1,h2⟩,hs _ _ (.inl rfl) (fun _ _=>jcu) W.n,hs _ _ (.inr (.inl rfl)) (fun _ _=>jcu) W.f,hs _ _ (.inr (.inr (.inl rfl))) (fun _ _=>jcu) W.r,cu,hs _ _ (.inr (.inr (.inr rfl))) (fun _ _ e=>by injection e with e;exact Y8 h4 0 _ e) h3,tk.heldL h4⟩
def Nf.same{fr:List Str}{left:Int}(W:Nf H wd A xs fr rs Et left)(s:ML H H'):Nf H' wd A xs fr rs Et left:=W.of (fun _=>s _ _) (fun b zs _ _=>s _ _) (fun _ _=>s _ _)
variable {d:ac}
def Nf.keep{fr:List Str}{left:Int}(W:Nf H wd A xs fr rs Et left)(k:uo d H H')(hd:H d=some (Nl w n)):Nf H' wd A xs fr rs Et left:=W.of (fun _ e=>k _ _ (fun z=>by rw[z,hd]at e;cases e) e) (fun b zs _ nz e=>k _ _ (fun z=>by rw[z,hd]at e;injection e with e;exact nz _ _ e.symm) e) (k.tk hd)
def Qw.tk(o:Qw (a :: ds) H H')(D:MH H a ds L):TK H H':=fun b ys e=>o _ _ (D.no e fun _ z=>by cases z) e
def Nf.out{fr:List Str}{left:Int}(W:Nf H wd A xs fr rs Et left)(o:Qw (a :: ds) H H')(D:MH H a ds L)(f:Rb A a xs fr rs Et):Nf H' wd A xs fr rs Et left:=W.of (fun _ e=>o _ _ (D.no e fun _ z=>by cases z) e) (fun b zs hb nz e=>o _ _ (D.out e (by rcases hb with rfl | rfl | rfl | rfl;exact f.n;exact f.f;exact f.r;exact f.h) nz) e) (o.tk D)
def jiz{ah:List (PV×V)}{k:PV}{v u:V}(h:zP ah k=some v):(yk ah k u).length=ah.length:=by unfold yk;rw[JS,h];exact av ..
def Nf.put{fr:List Str}{left l2:Int}{ah:List (PV×V)}(W:Nf H wd A xs fr rs Et left)(hw:H wd=some (.dK ah)):Nf (upd H wd (.dK (yk ah (.inr (aa "left")) (.int l2)))) wd A xs fr rs Et l2:=by
 obtain⟨kvs',h1,h5,a1,a2,a3,a4,a5⟩:=W.d;rw[hw]at h1
 cases h1
 have nl:∀b zs,H b=some (.lst zs)->upd H wd (.dK (yk ah (.inr (aa "left")) (.int l2))) b=some (.lst zs):=fun b zs e=>by rw[jq (fun z=>by rw[z,hw]at e;cases e)];exact e
 obtain⟨hs,h3,h4⟩:=W.h;refine⟨⟨_,jc,by rw[jiz a5];exact h5,?_,?_,?_,?_,?_⟩,nl _ _ W.n,nl _ _ W.f,nl _ _ W.r,hs,nl _ _ h3,TK.heldL (fun b ys e=>by rw[jq (fun z=>by rw[z,hw]at e;cases e)];exact e) h4⟩
 .rw[JR,PN N5];exact a1
 .rw[JR,PN N5];exact a2
 .rw[JR,PN N5];exact a3
 .rw[JR,PN N5];exact a4
 .rw[JR,PP rfl]
structure RF(H0:Hp)(a wd:ac)(bT:List ac)(A:Wd)(xs fr rs:List Str)(Et:List Hd)(left:Int)(H:Hp)(d:ac)(w:Int)(n:Dl)(k:Nat)(L:List (Int×Dl)):Prop where
 o:Qw (wd :: a :: bT) H0 H
 hd:H d=some (Nl w n)
 D:MH H a (bT.drop k) L
 W:Nf H wd A xs fr rs Et left
 nd:d ∉ bT.drop k
 dd:H0 d=none\/d∈bT
variable {H0:Hp}{bT:List ac}
def RF.keep{fr:List Str}{left:Int}{m:Dl}{k:Nat}(S:RF H0 a wd bT A xs fr rs Et left H d w n k L)(q:uo d H H')(e:H' d=some (Nl w m)):RF H0 a wd bT A xs fr rs Et left H' d w m k L:=by
 refine⟨fun b o hb h=>q _ _ (fun z=>?_) (S.o _ _ hb h),e,S.D.keep q S.hd S.nd,S.W.keep q S.hd,S.nd,S.dd⟩;rcases S.dd with z2 | z2
 .rw[<- z,h]at z2;cases z2
 .exact hb (z ▸ aH _ (aH _ z2))
def RF.same{fr:List Str}{left:Int}{k:Nat}(S:RF H0 a wd bT A xs fr rs Et left H d w n k L)(s:ML H H'):RF H0 a wd bT A xs fr rs Et left H' d w n k L:=S.keep (uo.same s) (s _ _ S.hd)
def KH(lv:Nat):Sp:=fun vs H Q _=>∃(a wd:ac) (ds:List ac) (L:List (Int×Dl)) (A:Wd) (xs fr rs:List Str) (Et:List Hd) (left:Nat),0 < lv/\lv<=4/\vs=[.ref a,.ref wd,.int (4 - (lv:Nat))]/\MH H a ds L/\Nf H wd A xs fr rs Et (left:Nat)/\Rb A a xs fr rs Et/\∀u H' k,Qw (wd :: a :: ds) H H'->MH H' a (ds.drop k) (qk xs fr rs Et lv (L,left)).2.1->Nf H' wd A xs fr rs Et ((qk xs fr rs Et lv (L,left)).2.2:Nat)->Na H' (.tup ((qk xs fr rs Et lv (L,left)).1.map (Re lv))) u->Q u H'
def jfN(lv:Nat):Sp:=fun vs H Q _=>∃(a wd:ac) (ds:List ac) (L:List (Int×Dl)) (A:Wd) (xs fr rs:List Str) (Et:List Hd) (left:Nat),lv<=3/\0 < left/\vs=[.ref a,.ref wd,.int (3 - (lv:Nat))]/\MH H a ds L/\Nf H wd A xs fr rs Et (left:Nat)/\Rb A a xs fr rs Et/\∀u H' k,Qw (wd :: a :: ds) H H'->MH H' a (ds.drop k) (qH lv (qk xs fr rs Et lv) xs fr rs Et L left).2.1->Nf H' wd A xs fr rs Et ((qH lv (qk xs fr rs Et lv) xs fr rs Et L left).2.2:Nat)->Na H' (Re (lv+1) (qH lv (qk xs fr rs Et lv) xs fr rs Et L left).1) u->Q u H'
def Qw.sub{S T:List ac}(o:Qw S H H')(h:∀b∈S,b∈T):Qw T H H':=fun b u hb e=>o b u (fun z=>hb (h _ z)) e
def Qw.then{S:List ac}{H1 H2:Hp}(o:Qw S H H1)(o2:Qw S H1 H2):Qw S H H2:=fun b u hb e=>o2 b u hb (o b u hb e)
def zJ{k:Nat}:∀b∈wd :: a :: ds.drop k,b∈wd :: a :: ds:=fun b hb=>by
 rcases aA.mp hb with rfl | hb
 .exact aJ ..
 rcases aA.mp hb with rfl | hb
 .exact aH _ (aJ ..)
 exact aH _ (aH _ (gh hb))
def Qw.tkW{fr:List Str}{left:Int}(o:Qw (wd :: a :: ds) H H')(D:MH H a ds L)(W:Nf H wd A xs fr rs Et left):TK H H':=fun b ys e=>o _ _ (fun z=>by
 rcases aA.mp z with z | z
 .obtain⟨ah,h,-⟩:=W.d
  rw[z,h]at e;cases e
 .exact D.no e (fun _ z=>by cases z) z) e
abbrev yA:ay:=NS 61
section
variable {w:ax}
theorem ji2{lv:Nat}(F:Fun K "_law_statement" "_law_statement" yA f fd)(B:Ni mg)(cY:Fn P w K mg base 1 "_law_next" M1 Yb)(aG:Fn P w K mg base 1 "_law_draw" Nx qJ)(du:Fn P w K mg base 2 "_law_number" Ny Jh)(eV:Fn P w K mg base 3 "_law_place" MX JV)(eC:Fn P w K mg base 4 "_law_term" Nq YU)(gA:Fn P w K mg base 5 "_law_least" Nq YV)(ib:Fn P w K mg base 6 "_law_claim" Nq YW)(gB:Fn P w K mg base 7 "_law_claims" M6 KG)(ni:Fn P w K mg base 2 "_law_call" OU jcw)(lN:Fn P w K mg base (2 * lv+8) "_law_body" Nw (KH lv)):MT P w K mg base PU (2 * lv+9) f fd Nw (jfN lv):=by
 have sc:tS ["_law_deals","_law_world","_law_deep_here","_law_deal_here","_law_numbers","_law_rows","_law_form","_law_x","_law_r","_law_place_here","_law_term_here","_law_least_here","_law_body_here","_law_keeps"] Nw (jo yA):=fQ;refine F.okZ sc (fun aB A iw s H vs Q E hr h=>?_);obtain⟨a,wd,ds,L,Z,xs,fr,rs,Et,left,h3,h0,rfl,D,W,bH,q⟩:=h;have hu:(A.deeper (EQ "_law_statement" (jo yA) s.heap.objs.size f aB)).units+1 < cLine:=by have:=hr.units;omega
 refine⟨_,(ja (jhX hu (bB 1) jb (jn Ki (zA hu (bB 1) jb (fun _ _=>rfl)) je) rfl) (ja (jh 3 sc.nd (jS cY hr (jp (bB 0)))) (ja (jh 4 sc.nd (zA hu (bB 1) jb (fun _ _=>rfl))) (ja (jh 5 sc.nd (zA hu (bB 1) jb (fun _ _=>rfl))) (ja (jh 6 sc.nd (jS aG hr (jj (bB 3) je))) (ja (jh 7 sc.nd (js jQ (zA hu (bB 1) jb (fun _ _=>rfl)) (jS aG hr (jj (bB 3) (j7 jE N9 B.len_ ku (jp (zA hu (bB 1) jb (fun _ _=>rfl)))))))) (ja (jR (zx (jx j6 (bB 6) je (jA _)) (zh (jx Kj (j7 jE N9 B.len_ ku (jp (bB 5))) je (jA _)))).pt (ja (jh 8 sc.nd (js jQ (bB 5) (jS aG hr (jj (bB 3) (j7 jE N9 B.len_ ku (jp (bB 5))))))) (ja (jh 9 sc.nd (jS eV hr (jj (bB 3) (bB 4)))) (ja (jh 10 sc.nd (jS eC hr (jr (bB 3) (jj (bB 4) (bB 5))))) (jg (jy (jG (jr jb (jr (bB 8) (jr (bB 9) (jj (bB 10) (jS du hr (jp (bB 3))))))))))))) jH) (ja (jR (jx j6 (bB 6) je (jA _)) (jg (jy (jG (jj jb (bB 7))))) jH) (ja (jR (jx j6 (bB 6) je (jA _)) (jg (jy (jG (jj jb (jS ib hr (jr (bB 3) (jj (bB 4) (bB 5)))))))) jH) (ja (jR (zx (jx j6 (bB 6) je (jA _)) (zh (jx Se (bB 2) je (jA _)))).pt (ja (jh 11 sc.nd (jS gA hr (jr (bB 3) (jj (bB 4) (bB 5))))) (ja (jh 12 sc.nd (jS lN hr (jr (bB 0) (jj (bB 1) (jn qb (bB 2) je))))) (jg (jy (jG (jr jb (jr (bB 11) (jj (bB 12) (jS lN hr (jr (bB 0) (jj (bB 1) (jn qb (bB 2) je)))))))))))) jH) (ja (jR (zx (jx j6 (bB 6) je (jA _)) (zh (jx Se (bB 2) je (jA _)))).pt (ja (jh 11 sc.nd (jS gA hr (jr (bB 3) (jj (bB 4) (bB 5))))) (ja (jh 13 sc.nd (jS gB hr (jr (bB 0) (jr (jS aG hr (jj (bB 3) (js jQ (jI (jj je je)) (jn Y2 (jS aG hr (jj (bB 3) je)) je)))) (jj (bB 4) (bB 5)))))) (jg (jy (jG (jr jb (jr (bB 11) (jj (bB 13) (jS lN hr (jr (bB 0) (jj (bB 1) (jn qb (bB 2) je)))))))))))) jH) (ja (jR (jx j6 (bB 6) je (jA _)) (jg (jy (jS ni hr (jr (bB 3) (jj (bB 7) (bB 1)))))) jH) (ja (jh 10 sc.nd (jS eC hr (jr (bB 3) (jj (bB 4) (bB 5))))) (jg (jy (jG (jr jb (jr (bB 7) (jj (bB 10) (jS du hr (jp (bB 3)))))))))))))))))))))),?_⟩
 try dsimp only[qF]
 refine kK ?_;refine jmM ?_;intro _ _ _ _ _ _ _ _ _ _ _ _ _;obtain⟨ah,hw,B1,kn,kf,kr,kh,kl⟩:=W.d;have W1:=W.put (l2:=(left:Int) - 1) hw;have n1:=D.no hw fun _ z=>by cases z
 have D1:=D.put (o:=.dK (yk ah (.inr (aa "left")) (.int ((left:Int) - 1)))) n1;refine Pp rfl ⟨wd,.int (left:Nat),rfl,.inl ⟨ah,.inr (aa "left"),Rd.of hw,rfl,kl.symm⟩,Pq rfl rfl (Pp rfl ⟨wd,Pp rfl ⟨.inl ⟨ah,.inr (aa "left"),hw,rfl,kA N4,rfl⟩,?_⟩⟩)⟩;have o1:Qw [wd] H (upd H wd (.dK (yk ah (.inr (aa "left")) (.int ((left:Int) - 1))))):=fun b o hb e=>by rw[jq (fun (z:b=wd)=>hb (by rw[z];exact aJ ..))];exact e
 generalize upd H wd _=H1 at *;rw[show (left:Int) - 1=((left - 1:Nat):Int) by omega]at W1;clear kn kf kr kh kl B1 hw W;refine Pp rfl ⟨a,ds,L,rfl,D1,fun d H2 k2 hd e2 eo D2=>?_⟩;rw[<- uh]at eo D2;unfold qH at q;dsimp only at q;generalize qI L=y at *;obtain⟨⟨w,n⟩,L2⟩:=y;dsimp only at q e2 D2;have S:RF H a wd ds Z xs fr rs Et ((left - 1:Nat):Int) H2 d w n 1 L2:=by
  refine⟨fun b o hb e=>k2 _ _ (fun z=>hb (by rw[z];exact aH _ (aJ ..))) (o1 _ _ (fun z=>hb (by rw[aZ.mp z];exact aJ ..)) e),e2,D2,W1.of (fun _ e=>k2 _ _ (fun z=>by rw[z,D1.l]at e;cases e) e) (fun b zs hb _ e=>k2 _ _ (by rcases hb with rfl | rfl | rfl | rfl;exact bH.n;exact bH.f;exact bH.r;exact bH.h) e) (k2.tk D1.l),eo,?_⟩;rcases hd with hd | hd
  .refine .inl ?_
   cases z:H d with
   | none=>rfl
   | some o=>
    have:=o1 d o (fun h=>by obtain⟨kv,h',-⟩:=W1.d;rw[<- aZ.mp h,hd]at h';cases h') z
    rw[hd]at this;cases this
  .exact .inr hd
 clear W1 D1 D2 e2 k2 eo hd o1 n1 H1;generalize left - 1=lf at *;refine gQ ?_;obtain⟨ah,hw,-,kn,kf,kr,-,-⟩:=S.W.d;refine Pp rfl ⟨wd,.ref Z.nl,rfl,.inl ⟨ah,.inr (aa "numbers"),Rd.of hw,rfl,kn.symm⟩,?_⟩;refine gQ ?_;refine Pp rfl ⟨wd,.ref Z.rl,rfl,.inl ⟨ah,.inr (aa "rows"),Rd.of hw,rfl,kr.symm⟩,?_⟩;refine gQ ?_;have lo1:=jN w n (m:=8) N5;have iK:=jL w n (m:=8) N5;have S1:=S.keep (uo.upd d H2 (Nl w (jk w n 8).2)) jc;have uZ:=uo.upd d H2 (Nl w (jk w n 8).2) wd _ (fun z=>by rw[z,S.hd]at hw;cases hw) hw;refine Pp rfl ⟨d,w,n,8,rfl,S.hd,N5,N5,?_⟩;generalize upd H2 d _=H3 at *;generalize jk w n 8=fm at *;obtain⟨fm,n1⟩:=fm;dsimp only at q S1 lo1 iK |-;refine gQ ?_;have eZ:=jN w n1 (m:=(fr.length:Nat)) (by have:=bH.f0;omega);have bX:=jL w n1 (m:=(fr.length:Nat)) (by have:=bH.f0;omega);have k4:=uo.upd d H3 (Nl w (jk w n1 (fr.length:Nat)).2);have S2:=S1.keep k4 jc;refine Pp rfl ⟨wd,.ref Z.fl,rfl,.inl ⟨ah,.inr (aa "free"),Rd.of uZ,rfl,kf.symm⟩,Ps rfl rfl ⟨wd,.ref Z.fl,rfl,.inl ⟨ah,.inr (aa "free"),Rd.of uZ,rfl,kf.symm⟩,Z.fl,Pp rfl ⟨.inl (ES.of S1.W.f),d,w,n1,(fr.length:Nat),by rw[av];rfl,S1.hd,(by have:=bH.f0;omega),(by have:=bH.f1;omega),Z.fl,_,Pq rfl rfl ⟨ES.of S2.W.f,qS eZ bX,?_⟩⟩⟩⟩;generalize upd H3 d _=H4 at *;generalize jk w n1 (fr.length:Nat)=xx at *;obtain⟨xx,n2⟩:=xx;dsimp only at q S2 |-;generalize qY fr xx=x at *;clear S S1 k4 hw uZ eZ bX kn kf kr;refine gQ ?_;have fx:=bH.x1;have lE:=bH.r1;have fin:∀{G:Hp} {m:Dl} {u:V} {t:Qi (lv+1)},Sh lv (qk xs fr rs Et lv) xs rs Et L2 lf w n2 fm x=(t,L2,lf)->RF H a wd ds Z xs fr rs Et (lf:Nat) G d w m 1 L2->Na G (Re (lv+1) t) u->Q u G:=fun {G m u t} e S h=>by rw[e]at q;exact q u G 1 S.o S.D S.W h
 refine JX (fun b G=>b=decide (fm=2/\0 < rs.length)/\G=H4) (fun b H4 hb=>?_) (fun kk=>?_);rotate_left
 .refine Pp rfl ⟨rfl,Pp rfl (kW (fun z=>?_) (fun z=>kk false _ ⟨(PM (fun h=>z (PL (PR V.int h.1)))).symm,rfl⟩))⟩
  have z':fm=2:=by have:=PK z;injection this
  refine Pp rfl ⟨Z.rl,Pp rfl ⟨.inl (ES.of S2.W.r),Pq rfl rfl (Pp rfl (kk _ _ ⟨?_,rfl⟩))⟩⟩;rw[av];exact decide_eq_decide.mpr ⟨fun h=>⟨z',N4⟩,fun h=>by have:=h.2;omega⟩
 obtain⟨rfl,rfl⟩:=hb;by_cases c2:fm=2/\0 < rs.length
 .rw[PL c2]
  refine k9 ?_;have lo:=jN w n2 (m:=(rs.length:Nat)) N4;have hi:=jL w n2 (m:=(rs.length:Nat)) N4;have S3:=S2.keep (uo.upd d H4 (Nl w (jk w n2 (rs.length:Nat)).2)) jc;refine Ps rfl rfl (Pp rfl ⟨Z.rl,Pp rfl ⟨.inl (ES.of S2.W.r),d,w,n2,(rs.length:Nat),by rw[av];rfl,S2.hd,N4,N4,Z.rl,_,Pq rfl rfl ⟨ES.of S3.W.r,qS lo hi,?_⟩⟩⟩);refine gQ ?_;refine Ps rfl rfl ⟨d,Z.nl,w,_,xs,rfl,S3.hd,S3.W.n,fx,fun u5 H5 k5 d5 h5=>?_⟩;have S5:=S3.keep k5 d5;refine gQ ?_;refine Ps rfl rfl (Pp rfl ⟨d,Z.nl,Z.rl,w,_,xs,rs,rfl,S5.hd,S5.W.n,S5.W.r,fx,lE,fun u6 H6 k6 d6 h6=>?_⟩);have S6:=S5.keep k6 d6;have pi:=(k6.tk S5.hd).held h5;refine gQ ?_;refine Ps rfl rfl (Ps rfl rfl ⟨d,w,Pp rfl ⟨S6.hd,fun H7 k7 d7=>⟨sm rfl,fun t ht=>?_⟩⟩⟩);have S7:=S6.keep k7 d7;have wo:=(k7.tk S6.hd).held pi;have Lg:=(k7.tk S6.hd).held h6;refine fin (PP c2) (S7.same (jd ht _)) ?_;exact jK jc (jf jD (jf jD (jf (wo.mono (jd ht _)) (jf (Lg.mono (jd ht _)) (jf kL jF)))))
 rw[PM c2];refine kT ?_;refine Pp rfl ⟨rfl,Pp rfl (kW (fun z=>?_) (fun z=>?_))⟩
 .have z':fm=3:=by have:=PK z;injection this
  refine Pp rfl ⟨sm rfl,fun t ht=>?_⟩;refine fin ((PN c2).trans (PP z')) (S2.same (jd ht _)) ?_;exact jK jc (jf jD (jf jD jF))
 have c3:¬fm=3:=fun h=>z (PL (PR V.int h))
 refine Pp rfl ⟨rfl,Pp rfl (kW (fun z=>?_) (fun z=>?_))⟩
 .have z':fm=4:=by have:=PK z;injection this
  refine Ps rfl rfl (Pp rfl ⟨d,Z.nl,Z.rl,w,n2,xs,rs,rfl,S2.hd,S2.W.n,S2.W.r,fx,lE,fun u5 H5 k5 d5 h5=>⟨sm rfl,fun t ht=>?_⟩⟩);refine fin ((PN c2).trans ((PN c3).trans (PP z'))) ((S2.keep k5 d5).same (jd ht _)) ?_;exact jK jc (jf jD (jf (h5.mono (jd ht _)) jF))
 have c4:¬fm=4:=fun h=>z (PL (PR V.int h))
 have f4:∀{r},_=r->Sh lv (qk xs fr rs Et lv) xs rs Et L2 lf w n2 fm x=r:=fun e=>(PN c2).trans ((PN c3).trans ((PN c4).trans e))
 have dp:((3:Int) - (lv:Nat)+1)=4 - (lv:Nat):=by omega
 unfold jdq;dsimp only;refine JX (fun b G=>b=decide (fm=5/\0 < lv)/\G=H4) (fun b H4 hb=>?_) (fun kk=>?_);rotate_left
 .refine Pp rfl ⟨rfl,Pp rfl (kW (fun z=>?_) (fun z=>kk false _ ⟨(PM (fun h=>z (PL (PR V.int h.1)))).symm,rfl⟩))⟩
  have z':fm=5:=by have:=PK z;injection this
  refine Pp rfl (Pq rfl rfl (Pp rfl (kk _ _ ⟨?_,rfl⟩)));exact decide_eq_decide.mpr ⟨fun h=>⟨z',N4⟩,fun h=>by have:=h.2;omega⟩
 obtain⟨rfl,rfl⟩:=hb;by_cases c5:fm=5/\0 < lv
 .rw[PL c5]
  refine k9 ?_;have e5:=f4 (PP c5);rw[e5]at q;dsimp only at q;refine Ps rfl rfl (Pp rfl ⟨d,Z.nl,Z.rl,w,n2,xs,rs,rfl,S2.hd,S2.W.n,S2.W.r,fx,lE,fun u5 H5 k5 d5 h5=>?_⟩);have S5:=S2.keep k5 d5;refine gQ ?_;refine Ps rfl rfl (Pp rfl (Pq rfl rfl ⟨a,wd,ds.drop 1,L2,Z,xs,fr,rs,Et,lf,c5.2,N4,by rw[<- dp];rfl,S5.D,S5.W,bH,fun u6 H6 k6 o6 D6 W6 h6=>?_⟩));have pi:=(o6.tkW S5.D S5.W).held h5;refine gQ ?_;refine Ps rfl rfl (Ps rfl rfl (Pp rfl (Pq rfl rfl ⟨a,wd,_,_,Z,xs,fr,rs,Et,_,c5.2,N4,by rw[<- dp];rfl,D6,W6,bH,fun u7 H7 k7 o7 D7 W7 h7=>⟨sm rfl,fun t ht=>?_⟩⟩)));have AF:=o7.tkW D6 W6;have s8:=jd ht (.tup [V.str (aa "if"),u5,u6,u7]);rw[eW,eW]at D7;refine q _ _ _ (S5.o.then ((o6.sub zJ).then (((o7.sub zJ).sub zJ).then fun b o _ e=>s8 _ _ e))) (D7.same s8) (W7.same s8) ?_;exact jK jc (jf jD (jf ((AF.held pi).mono s8) (jf ((AF.held h6).mono s8) (jf (h7.mono s8) jF))))
 rw[PM c5];refine kT ?_;unfold jdq;dsimp only;refine JX (fun b G=>b=decide (fm=6/\0 < lv)/\G=H4) (fun b H4 hb=>?_) (fun kk=>?_);rotate_left
 .refine Pp rfl ⟨rfl,Pp rfl (kW (fun z=>?_) (fun z=>kk false _ ⟨(PM (fun h=>z (PL (PR V.int h.1)))).symm,rfl⟩))⟩
  have z':fm=6:=by have:=PK z;injection this
  refine Pp rfl (Pq rfl rfl (Pp rfl (kk _ _ ⟨?_,rfl⟩)));exact decide_eq_decide.mpr ⟨fun h=>⟨z',N4⟩,fun h=>by have:=h.2;omega⟩
 obtain⟨rfl,rfl⟩:=hb;by_cases c6:fm=6/\0 < lv
 .rw[PL c6]
  refine k9 ?_;have e6:=f4 ((PN c5).trans (PP c6));rw[e6]at q;dsimp only at q;refine Ps rfl rfl (Pp rfl ⟨d,Z.nl,Z.rl,w,n2,xs,rs,rfl,S2.hd,S2.W.n,S2.W.r,fx,lE,fun u5 H5 k5 d5 h5=>?_⟩);have S5:=S2.keep k5 d5;rw[jjw]at h5;generalize (zS w n2 xs rs).2=n5 at *;have lo:=jN w n5 (m:=4) N5;have hi:=jL w n5 (m:=4) N5;refine gQ ?_;refine Ps rfl rfl ⟨sm rfl,fun p hp=>?_⟩;have s6:=jd hp (.lst [V.int 3,V.int 7]);have e6:=Pn (H:=H5) p (.lst [V.int 3,V.int 7]);have S6:=S5.same s6;have pi:=h5.mono s6;have eK:p≠d:=fun z=>by rw[z,S5.hd]at hp;cases hp
  generalize upd H5 p _=H6 at *;have k7:=uo.upd d H6 (Nl w (jk w n5 4).2);have S7:=S6.keep k7 jc;have wo:=(k7.tk S6.hd).held pi;have e7:=k7 _ _ eK e6;refine Pp rfl ⟨d,w,n5,4,rfl,S6.hd,N5,N5,Pq rfl rfl ⟨⟨N5,N5⟩,p,_,_,.int (if (jk w n5 4).1 / 3=0 then 3 else 7),rfl,rfl,ES.of e7,?_,?_⟩⟩
  .have:(jk w n5 4).1 / 3=0\/(jk w n5 4).1 / 3=1:=by omega
   rcases this with h | h <;> rw[h] <;> rfl
  generalize upd H6 d _=H7 at *;generalize jk w n5 4=y at *;obtain⟨y,n6⟩:=y;dsimp only at q S7 |-;have mp:(0:Int) < (if y / 3=0 then 3 else 7)/\(if y / 3=0 then (3:Int) else 7)<=7:=by split <;> exact⟨N5,N5⟩
  generalize (if y / 3=0 then (3:Int) else 7)=mm at *;have eZ:=jN w n6 mp.1;have bX:=jL w n6 mp.1;have k8:=uo.upd d H7 (Nl w (jk w n6 mm).2);have S8:=S7.keep k8 jc;have wn:=(k8.tk S7.hd).held wo;refine⟨d,w,n6,mm,rfl,S7.hd,mp.1,N4,?_⟩;generalize upd H7 d _=H8 at *;obtain⟨m,hm⟩:∃m:Nat,(jk w n6 mm).1=(m:Nat):=⟨(jk w n6 mm).1.toNat,N4⟩
  rw[hm]at q eZ bX |-;rw[dk]at q;refine Ps rfl rfl ⟨a,Z.nl,Z.rl,ds.drop 1,L2,m,xs,rs,rfl,S8.D,S8.W.n,S8.W.r,bH.n,bH.r,fx,lE,N4,fun u9 H9 o9 D9 h9=>?_⟩;have W9:=S8.W.out o9 S8.D bH;have Li:=(o9.tk S8.D).held wn;refine gQ ?_;refine Ps rfl rfl (Ps rfl rfl (Pp rfl (Pq rfl rfl ⟨a,wd,_,_,Z,xs,fr,rs,Et,_,c6.2,N4,by rw[<- dp];rfl,D9,W9,bH,fun FD DH k10 Bj DL Mw bp=>⟨sm rfl,fun t ht=>?_⟩⟩)));have tk:=Bj.tkW D9 W9;have cK:=jd ht (.tup [V.str (aa "while"),u5,u9,FD]);rw[eW,eW]at DL;have F9:Qw (wd :: a :: ds) H8 H9:=(o9.sub (T:=wd :: a :: ds.drop 1) fun b hb=>aH _ hb).sub zJ;refine q _ _ _ (S8.o.then (F9.then (((Bj.sub zJ).sub zJ).then fun b o _ e=>cK _ _ e))) (DL.same cK) (Mw.same cK) ?_;exact jK jc (jf jD (jf ((tk.held Li).mono cK) (jf ((tk.held h9).mono cK) (jf (bp.mono cK) jF))))
 rw[PM c6];refine kT ?_;have f6:∀{r},_=r->Sh lv (qk xs fr rs Et lv) xs rs Et L2 lf w n2 fm x=r:=fun e=>f4 ((PN c5).trans ((PN c6).trans e))
 refine Pp rfl ⟨rfl,Pp rfl (kW (fun z=>?_) (fun z=>?_))⟩
 .have z':fm=7:=by have:=PK z;injection this
  refine Ps rfl rfl (Pp rfl ⟨d,wd,x,w,n2,Z,xs,fr,rs,Et,Pp rfl ⟨S2.hd,S2.W,bH.x0,fx,lE,bH.h1,bH.h2,fun u5 H5 k5 d5 h5=>?_⟩⟩);exact fin (f6 (PP z')) (S2.keep k5 d5) h5
 have c7:¬fm=7:=fun h=>z (PL (PR V.int h))
 refine Ps rfl rfl (Pp rfl ⟨d,Z.nl,Z.rl,w,n2,xs,rs,rfl,S2.hd,S2.W.n,S2.W.r,fx,lE,fun u6 H6 k6 d6 h6=>?_⟩);have S6:=S2.keep k6 d6;refine gQ ?_;refine Ps rfl rfl (Pp rfl ⟨d,w,Pp rfl ⟨S6.hd,fun H7 k7 d7=>⟨sm rfl,fun t ht=>?_⟩⟩⟩);refine fin (f6 (PN c7)) ((S6.keep k7 d7).same (jd ht _)) ?_;exact jK jc (jf jD (jf jD (jf (((k7.tk S6.hd).held h6).mono (jd ht _)) (jf kL jF))))
end
abbrev jdA:ay:=NS 60
section
variable {w:ax}
def jhj:MT P w K mg base PU 8 f fd Nw (KH 0):=by
 have n:∀vs H Q E,¬KH 0 vs H Q E:=fun _ _ _ _ ⟨_,_,_,_,_,_,_,_,_,_,h0,_⟩=>iY _ h0
 exact⟨fun _ _ _ _ h=>(n _ _ _ _ h).elim,fun _ _ _ _ _ _ _ _ _ _ _ _ _ h=>(n _ _ _ _ h).elim⟩
theorem jjc{lv:Nat}(F:Fun K "_law_body" "_law_body" jdA f fd)(B:Ni mg)(cY:Fn P w K mg base 1 "_law_next" M1 Yb)(aG:Fn P w K mg base 1 "_law_draw" Nx qJ)(MD:Fn P w K mg base (2 * lv+9) "_law_statement" Nw (jfN lv)):MT P w K mg base PU (2 * lv+10) f fd Nw (KH (lv+1)):=by
 have sc:tS ["_law_deals","_law_world","_law_deep_here","_law_body_here","_law_k"] Nw (jo jdA):=fQ;refine F.okZ sc (fun aB A iw s H vs Q E hr h=>?_);obtain⟨a,wd,ds,L,Z,xs,fr,rs,Et,left,h0,h4,rfl,D,W,bH,q⟩:=h;have hu:(A.deeper (EQ "_law_body" (jo jdA) s.heap.objs.size f aB)).units+1 < cLine:=by have:=hr.units;omega
 refine⟨_,(ja (jh 3 sc.nd (jI qf)) (ja (yn il rfl (kP N9 B.range_ (jp (jS aG hr (jj (jS cY hr (jp (bB 0))) (js jQ (jI (jr je (jr je (jj je je)))) (bB 2)))))) (jt 4 sc.nd) (jg (jR (zx (jx Kj (j7 jE N9 B.len_ ku (jp (bB 0))) je (jA _)) (zh (jx Kj (zA hu (bB 1) jb (fun _ _=>rfl)) je (jA _)))).pt (jg (jP (jV bL cg cf ke (bB 3) (jp (jS MD hr (jr (bB 0) (jj (bB 1) (bB 2)))))))) jH))) (jg (jy (kJ jZ N9 B.tuple_ kX (jp (bB 3))))))),?_⟩
 try dsimp only[qF]
 rw[show (4 - ((lv+1:Nat):Int))=3 - (lv:Nat) by omega];refine kK ?_;refine⟨sm rfl,fun p hp=>?_⟩;have s1:=jd hp (.lst []);have e1:=Pn (H:=H) p (.lst []);have np:=D.new hp;have Bl:p≠wd:=fun z=>by obtain⟨ah,h,-⟩:=W.d;rw[z,h]at hp;cases hp
 have i9:p ∉ wd :: a :: ds:=fun z=>by
  rcases aA.mp z with z | z
  .exact Bl z
  .exact np z
 have D1:=D.same s1;have W1:=W.same s1;have o1:Qw (wd :: a :: ds) H (upd H p (.lst [])):=fun b o _ e=>s1 _ _ e
 generalize upd H p _=H1 at *;refine gQ ?_;refine Pp rfl ⟨a,ds,L,rfl,D1,fun d H2 k2 hd e2 eo D2=>?_⟩;rw[<- uh]at eo D2;unfold qk at q;dsimp only at q;generalize qI L=y at *;obtain⟨⟨w,n⟩,L2⟩:=y;dsimp only at q e2 D2;have W2:Nf H2 wd Z xs fr rs Et (left:Nat):=W1.of (fun _ e=>k2 _ _ (fun z=>by rw[z,D1.l]at e;cases e) e) (fun b zs hb _ e=>k2 _ _ (by rcases hb with rfl | rfl | rfl | rfl;exact bH.n;exact bH.f;exact bH.r;exact bH.h) e) (k2.tk D1.l);have iB:p≠a:=fun z=>np (z ▸ aJ ..)
 have eK:p≠d:=fun z=>by
  rcases hd with hd | hd
  .rw[<- z,e1]at hd;cases hd
  .exact np (aH _ (z ▸ hd))
 have p2:=k2 _ _ iB e1;refine⟨sm rfl,fun p3 cR=>?_⟩;have s3:=jd cR (.lst [V.int 31,V.int 7,V.int 4,V.int 4]);have e3:=Pn (H:=H2) p3 (.lst [V.int 31,V.int 7,V.int 4,V.int 4]);have S:RF H a wd ds Z xs fr rs Et (left:Nat) (upd H2 p3 (.lst [V.int 31,V.int 7,V.int 4,V.int 4])) d w n 1 L2:=by
  refine RF.same (H:=H2) ⟨fun b o hb e=>k2 _ _ (fun z=>hb (by rw[z];exact aH _ (aJ ..))) (o1 _ _ hb e),e2,D2,W2,eo,?_⟩ s3;rcases hd with hd | hd
  .refine .inl ?_
   cases z:H d with
   | none=>rfl
   | some o=>
    have:=s1 d o z;rw[hd]at this;cases this
  .exact .inr hd
 have F7:=s3 _ _ p2;generalize upd H2 p3 _=H3 at *;have hm:0 < ZT lv/\ZT lv<=31/\Qd [V.int 31,V.int 7,V.int 4,V.int 4] (3 - (lv:Nat))=some (.int (ZT lv)):=by
  have:lv=0\/lv=1\/lv=2\/lv=3:=by omega
  rcases this with rfl | rfl | rfl | rfl <;> exact⟨N5,N5,rfl⟩
 have k4:=uo.upd d H3 (Nl w (jk w n (ZT lv)).2);have S4:=S.keep k4 jc;have lo:=jN w n hm.1;have hi:=jL w n hm.1;refine Pp rfl ⟨p3,_,Pq rfl rfl ⟨ES.of e3,hm.2.2,d,w,n,ZT lv,rfl,S.hd,hm.1,N4,Pp rfl ⟨N4,N4,?_⟩⟩⟩;have p4:=k4 _ _ eK F7;generalize upd H3 d _=H4 at *;generalize jk w n (ZT lv)=m at *;let Pv:Nat->St->Hp->Prop:=fun i σ G=>∃u4 k us,σ=[some (.ref a),some (.ref wd),some (.int (3 - (lv:Nat))),some (.ref p),u4]/\Qw (wd :: a :: ds) H G/\MH G a (ds.drop k) (kY (qH lv (qk xs fr rs Et lv) xs fr rs Et) L2 left i).2.1/\Nf G wd Z xs fr rs Et ((kY (qH lv (qk xs fr rs Et lv) xs fr rs Et) L2 left i).2.2:Nat)/\G p=some (.lst us)/\us.length<=i/\MN G ((kY (qH lv (qk xs fr rs Et lv) xs fr rs Et) L2 left i).1.map (Re (lv+1))) us
 refine KS Pv ⟨none,1,[],rfl,S4.o,S4.D,S4.W,p4,aK _,jF⟩ ?_ ?_
 .rintro i σ G cM ⟨u4,k,us,rfl,oG,DG,WG,bN,cw,gZ⟩
  have es:kY (qH lv (qk xs fr rs Et lv) xs fr rs Et) L2 left (i+1)=if 0 < (kY (qH lv (qk xs fr rs Et lv) xs fr rs Et) L2 left i).2.1.length/\0 < (kY (qH lv (qk xs fr rs Et lv) xs fr rs Et) L2 left i).2.2 then ((kY (qH lv (qk xs fr rs Et lv) xs fr rs Et) L2 left i).1++[(qH lv (qk xs fr rs Et lv) xs fr rs Et (kY (qH lv (qk xs fr rs Et lv) xs fr rs Et) L2 left i).2.1 (kY (qH lv (qk xs fr rs Et lv) xs fr rs Et) L2 left i).2.2).1],(qH lv (qk xs fr rs Et lv) xs fr rs Et (kY (qH lv (qk xs fr rs Et lv) xs fr rs Et) L2 left i).2.1 (kY (qH lv (qk xs fr rs Et lv) xs fr rs Et) L2 left i).2.2).2) else kY (qH lv (qk xs fr rs Et lv) xs fr rs Et) L2 left i:=rfl
  have Ls:Pv (i+1)=fun σ G=>∃u4 k us,σ=[some (.ref a),some (.ref wd),some (.int (3 - (lv:Nat))),some (.ref p),u4]/\Qw (wd :: a :: ds) H G/\MH G a (ds.drop k) (kY (qH lv (qk xs fr rs Et lv) xs fr rs Et) L2 left (i+1)).2.1/\Nf G wd Z xs fr rs Et ((kY (qH lv (qk xs fr rs Et lv) xs fr rs Et) L2 left (i+1)).2.2:Nat)/\G p=some (.lst us)/\us.length<=i+1/\MN G ((kY (qH lv (qk xs fr rs Et lv) xs fr rs Et) L2 left (i+1)).1.map (Re (lv+1))) us:=rfl
  rw[Ls];generalize kY (qH lv (qk xs fr rs Et lv) xs fr rs Et) L2 left (i+1)=R at *;generalize kY (qH lv (qk xs fr rs Et lv) xs fr rs Et) L2 left i=R0 at *;obtain⟨bs,L3,lf⟩:=R0;dsimp only at es DG WG gZ;have dn:=DG.n;obtain⟨ah,hw,-,-,-,-,-,kl⟩:=WG.d;refine gQ ?_;refine Pp rfl ⟨a,Pp rfl ⟨.inl (ES.of DG.l),Pq rfl rfl (Pp rfl (kW (fun c=>?_) (fun c=>?_)))⟩⟩
  .have c':0 < L3.length:=by have:=PK c;rw[av]at this;omega
   refine Pp rfl ⟨wd,.int (lf:Nat),rfl,.inl ⟨ah,.inr (aa "left"),Rd.of hw,rfl,kl.symm⟩,Pq rfl rfl (Pp rfl (kW (fun c2=>?_) (fun c2=>?_)))⟩
   .have m5:0 < lf:=by have:=PK c2;omega
    rw[PP ⟨c',m5⟩]at es;subst es;refine Pp rfl ⟨.inl ⟨rfl,_,ES.of bN⟩,Ps rfl rfl (Pp rfl ⟨a,wd,ds.drop k,L3,Z,xs,fr,rs,Et,lf,N4,m5,rfl,DG,WG,bH,fun u G2 k2 o2 D2 W2 h2=>?_⟩)⟩;have Gk:p ∉ wd :: a :: ds.drop k:=fun z=>i9 (zJ _ z)
    have g0:=o2 _ _ Gk bN;have tk:TK G (upd G2 p (.lst (us++[u]))):=fun b ys e=>by rw[jq (fun z=>by rw[z,bN]at e;cases e)];exact o2.tkW DG WG _ _ e
    have mh:TK G2 (upd G2 p (.lst (us++[u]))):=fun b ys e=>by rw[jq (fun z=>by rw[z,g0]at e;cases e)];exact e
    refine⟨p,Pq rfl rfl ⟨g0,kA N4,_,k+k2,us++[u],rfl,fun b o hb e=>?_,?_,?_,jc,by rw[az];exact iX cw,?_⟩⟩
    .rw[jq (jm e hp)]
     exact o2 _ _ (fun z=>hb (zJ _ z)) (oG _ _ hb e)
    .rw[eW]at D2
     exact D2.put (fun z=>i9 (zJ _ (aH _ z)))
    .refine W2.of (fun _ e=>?_) (fun b zs hb nz e=>?_) mh
     .rw[jq Bl.symm];exact e
     .rw[jq (by
       obtain⟨hs,hh,-⟩:=W.h;rcases hb with rfl | rfl | rfl | rfl;exact jm W.n hp;exact jm W.f hp;exact jm W.r hp;exact jm hh hp)]
      exact e
    .rw[bj]
     exact zT (tk.heldL gZ) (mh.held h2)
   .rw[PN (fun h=>c2 (PL (by have:=h.2;omega)))]at es
    subst es;exact⟨_,k,us,rfl,oG,DG,WG,bN,fA cw,gZ⟩
  .rw[PN (fun h=>c (PL (by rw[av,dn];have:=h.1;omega)))]at es
   subst es;exact⟨_,k,us,rfl,oG,DG,WG,bN,fA cw,gZ⟩
 rintro σ G ⟨u4,k,us,rfl,oG,DG,WG,bN,cw,gZ⟩;refine Pp rfl ⟨p,us,rfl,.inl ⟨ES.of bN,fun t ht=>?_⟩⟩;have s5:=jd ht (.tup us);exact q _ _ k (fun b o hb e=>s5 _ _ (oG _ _ hb e)) (DG.same s5) (WG.same s5) (jK jc (gZ.mono s5))
theorem jea{f:ac}{fd:aE}(F:Fun K "_law_body" "_law_body" jdA f fd)(b:Nr K fd Nw [])(m:mg "_law_body" = some (.ref f)){f2:ac}{CG:aE}(F2:Fun K "_law_statement" "_law_statement" yA f2 CG)(b2:Nr K CG Nw [])(m2:mg "_law_statement" = some (.ref f2))(B:Ni mg)(cY:Fn P w K mg base 1 "_law_next" M1 Yb)(aG:Fn P w K mg base 1 "_law_draw" Nx qJ)(du:Fn P w K mg base 2 "_law_number" Ny Jh)(eV:Fn P w K mg base 3 "_law_place" MX JV)(eC:Fn P w K mg base 4 "_law_term" Nq YU)(gA:Fn P w K mg base 5 "_law_least" Nq YV)(ib:Fn P w K mg base 6 "_law_claim" Nq YW)(gB:Fn P w K mg base 7 "_law_claims" M6 KG)(ni:Fn P w K mg base 2 "_law_call" OU jcw):∀lv,Fn P w K mg base (2 * lv+8) "_law_body" Nw (KH lv)
 | 0=>Fn.mk' F b m jhj
 | lv+1=>Fn.mk' F b m (jjc F B cY aG (Fn.mk' F2 b2 m2 (ji2 F2 B cY aG du eV eC gA ib gB ni (jea F b m F2 b2 m2 B cY aG du eV eC gA ib gB ni lv))))
end
abbrev SI:ay:=NS 62
def jmZ{Q:VK}{ys:List Str}(ha:H a=some (.lst (xs.map V.str)))(hb:H b=some (.lst (ys.map V.str)))(hz:xs.length+ys.length<=1000)(q:∀l H',ML H H'->H l=none->H' l=some (.lst ((xs++ys).map V.str))->Q (.ref l) H'):RL (.ref a) (.ref b) H Q:=⟨a,b,_,_,rfl,rfl,ha,hb,jU (by rw[av,av];exact hz),fun l hl=>q l _ (jdz hl _) hl (by rw[jc,bj])⟩
def ko(w:Int)(n:Dl)(tk:List Str):Nat->List Str×Dl
 | 0=>([],n)
 | i+1=>
  let p:=ko w n tk i
  let r:=qw w p.2 (tk++p.1)
  (p.1++[r.1],r.2)
theorem zv(w:Int)(n:Dl){tk:List Str}(h0:tk≠[])(h:∀z∈tk,Qn z):∀i,tk.length+i<=26->(ko w n tk i).1.length=i/\(∀z∈(ko w n tk i).1,Qn z)/\(∀z∈(ko w n tk i).1,z ∉ tk)/\(ko w n tk i).1.Nodup
 | 0,_=>⟨rfl,(fun _ z=>nomatch z),(fun _ z=>nomatch z),nT⟩
 | i+1,hi=>by
  obtain⟨h1,h2,h3,h4⟩:=zv w n h0 h i N4;obtain⟨h5,h6⟩:=jaW w (ko w n tk i).2 (tk:=tk++(ko w n tk i).1) (by simp[h0]) (by rw[az];omega) (fun z hz=>(aL.mp hz).elim (h z) (h2 z));show ((ko w n tk i).1++[_]).length=_/\(∀z∈(ko w n tk i).1++[_],Qn z)/\(∀z∈(ko w n tk i).1++[_],z ∉ tk)/\((ko w n tk i).1++[_]).Nodup;refine⟨by rw[az,h1];rfl,fun z hz=>?_,fun z hz=>?_,?_⟩
  .rcases aL.mp hz with hz | hz
   .exact h2 z hz
   .rw[aZ.mp hz];exact h5
  .rcases aL.mp hz with hz | hz
   .exact h3 z hz
   .rw[aZ.mp hz];exact fun q=>h6 (aL.mpr (.inl q))
  .exact nU.mpr ⟨h4,bM.mpr ⟨fun z=>(nomatch z),nT⟩,fun x hx y hy e=>h6 (aL.mpr (.inr (by rw[<- aZ.mp hy,<- e];exact hx)))⟩
structure Qu(d l p:ac)(w:Int)(n:Dl)(tk:List Str)(G0:Hp)(i:Nat)(G:Hp):Prop where
 k:∀b o,b≠d->b≠l->G0 b=some o->G b=some o
 hd:G d=some (Nl w (ko w n tk i).2)
 hl:G l=some (.lst ((tk++(ko w n tk i).1).map V.str))
 hp:G p=some (.lst ((ko w n tk i).1.map V.str))
variable {p:ac}{G:Hp}
theorem Qu.ok{l:ac}{tk:List Str}{G0:Hp}(N:Qu d l p w n tk G0 i G)(h0:tk≠[])(h:∀z∈tk,Qn z)(hi:tk.length+i<=25):tk++(ko w n tk i).1≠[]/\(tk++(ko w n tk i).1).length<=25/\∀z∈tk++(ko w n tk i).1,Qn z:=by obtain⟨h1,h2,-,-⟩:=zv w n h0 h i N4;exact⟨by simp[h0],by rw[az];omega,fun z hz=>(aL.mp hz).elim (h z) (h2 z)⟩
def Qu.zero{l:ac}{tk:List Str}(hd:G d=some (Nl w n))(hl:G l=some (.lst (tk.map V.str)))(hp:G p=none):Qu d l p w n tk G 0 (upd G p (.lst [])):=
 ⟨fun b o _ _ e=>by rw[jq (jm e hp)];exact e,by rw[jq (jm hd hp)];exact hd,by rw[jq (jm hl hp),show tk++(ko w n tk 0).1=tk from bE tk];exact hl,jc⟩
def Qu.step{l:ac}{tk:List Str}{G0:Hp}{G':Hp}(N:Qu d l p w n tk G0 i G)(HL:G0 p=none)(pd:p≠d)(pl:p≠l)(q:∀b o,b≠d->b≠l->G b=some o->G' b=some o)(e1:G' d=some (Nl w (qw w (ko w n tk i).2 (tk++(ko w n tk i).1)).2))(e2:G' l=some (.lst ((tk++(ko w n tk i).1++[(qw w (ko w n tk i).2 (tk++(ko w n tk i).1)).1]).map V.str))):G' p=some (.lst ((ko w n tk i).1.map V.str))/\Qu d l p w n tk G0 (i+1) (upd G' p (.lst ((ko w n tk i).1.map V.str++[.str (qw w (ko w n tk i).2 (tk++(ko w n tk i).1)).1]))):=by
 refine⟨q _ _ pd pl N.hp,fun b o hb gy e=>?_,?_,?_,?_⟩
 .rw[jq (jm e HL)];exact q _ _ hb gy (N.k _ _ hb gy e)
 .rw[jq pd.symm];exact e1
 .rw[jq pl.symm,e2,bq];rfl
 .rw[jc]
  show _=some (HO.lst (((ko w n tk i).1++[_]).map V.str));rw[bj];rfl
structure Ri(H0:Hp)(a:ac)(bT:List ac)(H:Hp)(d:ac)(w:Int)(n:Dl)(k:Nat)(L:List (Int×Dl)):Prop where
 o:Qw (a :: bT) H0 H
 hd:H d=some (Nl w n)
 D:MH H a (bT.drop k) L
 nd:d ∉ bT.drop k
 dd:H0 d=none\/d∈bT
def Ri.keep2{l:ac}{m:Dl}{k:Nat}(S:Ri H0 a bT H d w n k L)(nl:l ∉ a :: bT)(hl:H0 l=none)(q:∀b o,b≠d->b≠l->H b=some o->H' b=some o)(e:H' d=some (Nl w m)):Ri H0 a bT H' d w m k L:=by
 have D:=S.D;refine⟨fun b o hb h=>q _ _ (fun z=>?_) (jm h hl) (S.o _ _ hb h),e,⟨q _ _ (fun z=>?_) (fun z=>nl (z ▸ aJ ..)) D.l,D.n,D.nd,D.few,fun i b x h1 h2=>q _ _ (fun z=>S.nd (z ▸ gJ h1)) (fun z=>nl (z ▸ aH _ (gh (gJ h1)))) (D.at_ i b x h1 h2)⟩,S.nd,S.dd⟩
 .rcases S.dd with z2 | z2
  .rw[<- z,h]at z2;cases z2
  .exact hb (z ▸ aH _ z2)
 .have h1:=D.l
  rw[z,S.hd]at h1;injection h1 with h1;injection h1 with h1
  cases hh:bT.drop k with
  | nil=>rw[hh]at h1;cases h1
  | cons x xs=>rw[hh]at h1;injection h1 with h1;cases h1
def Ri.keep{m:Dl}{k:Nat}(S:Ri H0 a bT H d w n k L)(q:uo d H H')(e:H' d=some (Nl w m)):Ri H0 a bT H' d w m k L:=by
 refine⟨fun b o hb h=>q _ _ (fun z=>?_) (S.o _ _ hb h),e,S.D.keep q S.hd S.nd,S.nd,S.dd⟩;rcases S.dd with z2 | z2
 .rw[<- z,h]at z2;cases z2
 .exact hb (z ▸ aH _ z2)
def Ri.same{k:Nat}(S:Ri H0 a bT H d w n k L)(s:ML H H'):Ri H0 a bT H' d w n k L:=S.keep (uo.same s) (s _ _ S.hd)
def JL(e:Int):Int:=if e / 3=0 then 2 else 5
def SG(Et:List Hd)(h:Hd)(L:List (Int×Dl)):Pc×List (Int×Dl):=
 let y:=qI L
 let ps:=ko y.1.1 y.1.2 jO h.2.1
 let rs:=ko y.1.1 ps.2 (jO++ps.1) h.2.2
 let e:=jk y.1.1 rs.2 4
 let fs:=ko y.1.1 e.2 (jO++ps.1++rs.1) e.1.toNat
 let m:=jk y.1.1 fs.2 4
 let a:=jk y.1.1 m.2 (JL m.1)
 let nd:=qa ps.1 rs.1 y.2 a.1.toNat
 let b:=jk y.1.1 a.2 (JL m.1)
 let gv:=qa (ps.1++[aa "out"]) rs.1 nd.2 b.1.toNat
 let bd:=qk (ps.1++aa "out" :: fs.1) (aa "out" :: fs.1) rs.1 Et 4 (gv.2,30)
 (⟨h.1,ps.1,rs.1,nd.1,gv.1,4,bd.1⟩,bd.2.1)
def jfP:Sp:=fun vs H Q _=>∃(a hl:ac) (ds:List ac) (L:List (Int×Dl)) (hs:List V) (Et:List Hd) (k:Nat) (h:Hd),vs=[.ref a,.ref hl,.int (k:Nat)]/\MH H a ds L/\H hl=some (.lst hs)/\MN H (Et.map QQ) hs/\hl≠a/\Et.length<=100/\(∀h∈Et,h.2.1<=4/\h.2.2<=3)/\Et[k]?=some h/\∀u H' j,Qw (a :: ds) H H'->MH H' a (ds.drop j) (SG Et h L).2->Na H' (SG Et h L).1.toD u->Q u H'
def jl8{fr:List Str}{hs:List V}(hn:H A.nl=some (.lst (xs.map V.str)))(hf:H A.fl=some (.lst (fr.map V.str)))(hr:H A.rl=some (.lst (rs.map V.str)))(hh:H A.hl=some (.lst hs))(hH:MN H (Et.map QQ) hs)(h0:H p=some (.dK [])):Nf (upd H p (.dK (Kn [] [(.inr (aa "numbers"),.ref A.nl),(.inr (aa "free"),.ref A.fl),(.inr (aa "rows"),.ref A.rl),(.inr (aa "heads"),.ref A.hl),(.inr (aa "left"),.int 30)]))) p A xs fr rs Et 30:=by
 have nl:∀b zs,H b=some (.lst zs)->∀o,upd H p o b=some (.lst zs):=fun b zs e o=>by rw[jq (fun z=>by rw[z,h0]at e;cases e)];exact e
 refine⟨⟨_,jc,y7 _ _,?_,?_,?_,?_,?_⟩,nl _ _ hn _,nl _ _ hf _,nl _ _ hr _,hs,nl _ _ hh _,TK.heldL (fun b ys e=>by rw[jq (fun z=>by rw[z,h0]at e;cases e)];exact e) hH⟩
 all_goals rfl
theorem jck{X:Cx}{k k':Nat}{x:Str}{ps:List Str}{sp:Sp}{p x5:Pos}(F:Fn X.prog X.w X.K X.mg X.base k x ps sp)(hr:Np k' X.A)(hk:k<=k':=by omega)(hg:Gl X x:=by rfl)(hd:(x == ("__debug__" : Str))=false:=by decide):QE X (.Call (.Name x p) [] [] x5) (fun σ H Q=>sp [] H Q E0):=by obtain⟨f,fd,G,b,kp,m⟩:=F.ex;exact⟨jiL G (hr.mono hk) hg m kp b .nil jf7 hd⟩
def Sc:jO≠[]:=fun z=>by cases z
section
variable {w:ax}
theorem ji6(F:Fun K "_law_proc" "_law_proc" SI f fd)(B:Ni mg)(cY:Fn P w K mg base 1 "_law_next" M1 Yb)(aG:Fn P w K mg base 1 "_law_draw" Nx qJ)(m9:Fn P w K mg base 1 "_law_taken" [] jcv)(iQ:Fn P w K mg base 2 "_law_name" Ov jeC)(gB:Fn P w K mg base 7 "_law_claims" M6 KG)(lN:Fn P w K mg base 16 "_law_body" Nw (KH 4)):MT P w K mg base PU 17 f fd Ew jfP:=by
 have sc:tS Oy Ew (jo SI):=fQ;refine F.okZ sc (fun aB A iw s H vs Q E hr h=>?_);obtain⟨a,hl,ds,L,hs,Et,k,h,rfl,D,cU,hH,ow,hz,BN,hk,q⟩:=h;refine⟨_,(ja (jh 3 sc.nd (jS cY hr (jp (bB 0)))) (ja (kz (js jQ (bB 1) (bB 2)) (kB rfl (jv (jt 4 sc.nd) (jv (jt 5 sc.nd) (jv (jt 6 sc.nd) kj))))) (ja (jh 7 sc.nd (jck m9 hr)) (ja (yb (i:=8) sc.nd rfl oQ ["_law_j"] [3,7] rfl (qr (sc:=jo SI) (N:=Oy) rfl rfl N3) (kP N9 B.range_ (jp (bB 5))) (fun s H ex=>⟨(kU (i:=0) (show cv (D0:List Str) from N3) rfl oQ),qt,(jS iQ hr (jj (bB 1) (bB 2)))⟩)) (ja (yb (i:=9) sc.nd rfl oQ ["_law_j"] [3,7] rfl (qr (sc:=jo SI) (N:=Oy) rfl rfl N3) (kP N9 B.range_ (jp (bB 6))) (fun s H ex=>⟨(kU (i:=0) (show cv (D0:List Str) from N3) rfl oQ),qt,(jS iQ hr (jj (bB 1) (bB 2)))⟩)) (ja (jh 10 sc.nd (jn j9 (jI (jp jb)) (qT ["_law_j"] [3,7] rfl (qr (sc:=jo SI) (N:=Oy) rfl rfl N3) (kP N9 B.range_ (jp (jS aG hr (jj (bB 3) je)))) (fun s H ex=>⟨(kU (i:=0) (show cv (D0:List Str) from N3) rfl oQ),qt,(jS iQ hr (jj (bB 1) (bB 2)))⟩)))) (ja (jh 11 sc.nd (jh3 (Je jb (jn j9 (bB 8) (bB 10)) (Je jb (bB 10) (Je jb (bB 9) (Je jb (bB 1) (Je jb je jhY))))) rfl rfl NZ N5)) (ja (jh 12 sc.nd (js jQ (jI (jj je je)) (jn Y2 (jS aG hr (jj (bB 3) je)) je))) (ja (jh 13 sc.nd (jS gB hr (jr (bB 0) (jr (jS aG hr (jj (bB 3) (bB 12))) (jj (bB 8) (bB 9)))))) (ja (jh 14 sc.nd (jS gB hr (jr (bB 0) (jr (jS aG hr (jj (bB 3) (bB 12))) (jj (jn j9 (bB 8) (jI (jp jb))) (bB 9)))))) (ja (jh 15 sc.nd (jS lN hr (jr (bB 0) (jj (bB 11) je)))) (jg (jy (jG (jr jb (jr (bB 4) (jr (kJ jZ N9 B.tuple_ kX (jp (bB 8))) (jr (kJ jZ N9 B.tuple_ kX (jp (bB 9))) (jr (bB 13) (jj (bB 14) (bB 15))))))))))))))))))))),?_⟩
 try dsimp only[qF]
 refine kK ?_;refine jmN ?_;intro _ _ _ _ _ _ _ _ _ _ _;refine Pp rfl ⟨a,ds,L,rfl,D,fun d H2 k2 hd e2 eo D2=>?_⟩;rw[<- uh]at eo D2;unfold SG at q;dsimp only at q;generalize qI L=y at *;obtain⟨⟨w,n⟩,L2⟩:=y;dsimp only at q e2 D2;have S:Ri H a ds H2 d w n 1 L2:=⟨fun b o hb e=>k2 _ _ (fun z=>hb (z ▸ aJ ..)) e,e2,D2,eo,hd⟩
 have cD:=k2 _ _ ow cU;have wj:=(k2.tk D.l).heldL hH;have free:∀{G:Hp} {t:ac},(∀b o,H2 b=some o->∃o',G b=some o')->G t=none->H t=none:=fun {G t} hG ht=>by
  cases z:H t with
  | none=>rfl
  | some o=>
   obtain⟨o1,h1⟩:∃o1,H2 t=some o1:=by
    by_cases e:t=a
    .exact⟨_,e ▸ D2.l⟩
    .exact⟨o,k2 _ _ e z⟩
   obtain⟨o2,h2⟩:=hG _ _ h1;rw[ht]at h2;cases h2
 clear e2 D2 eo hd k2;refine gQ ?_;obtain⟨v,ev,hv⟩:=wj.get (j:=k) (d:=QQ h) (by rw[bP,hk];rfl);obtain⟨b,rfl,hb⟩:=jc8 hv;refine Ps rfl rfl ⟨hl,_,_,.ref b,rfl,rfl,ES.of cD,ju ev,Pq rfl (Nu.of hb) ⟨rfl,_,Pp rfl ⟨_,Pp rfl (Pq rfl rfl ?_)⟩⟩⟩;refine gQ ?_;obtain⟨sm1,sm2⟩:=BN h (gJ hk);refine⟨rfl,fun tl ck=>?_⟩;have s3:=jd ck (.lst (jO.map V.str));have e3:=Pn (H:=H2) tl (.lst (jO.map V.str));have S3:=S.same s3;have iA:H tl=none:=free (fun b o e=>⟨o,e⟩) ck;have gw:=s3 _ _ cD;have wg:=wj.mono s3;generalize upd H2 tl _=H3 at *;refine gQ ?_;refine Ps rfl rfl ⟨N4,N4,fun p hp=>?_⟩;rw[dk];have eK:p≠d:=(jm S3.hd hp).symm;have oo:p≠tl:=(jm e3 hp).symm;have uA:jO.length=16:=rfl;refine qg (fun i σ' G=>∃u,σ'=[u,some (.ref d),some (.ref tl)]/\Qu d tl p w n jO H3 i G) ⟨none,rfl,Qu.zero S3.hd e3 hp⟩ ?_ ?_
 .rintro i σ' G hi ⟨u,rfl,N⟩
  obtain⟨o1,o2,o3⟩:=N.ok Sc zG N4;have nl:=(zv w n Sc zG i N4).1;unfold qz K9;refine k9 ?_;refine Ps rfl rfl ⟨d,tl,w,_,Pp rfl ⟨N.hd,N.hl,o1,o2,o3,fun G' q1 q2 q3=>?_⟩⟩;obtain⟨r1,r2⟩:=N.step hp eK oo q1 q2 q3;exact⟨_,r1,kA (by rw[av];omega),Pp rfl r2⟩
 rintro σ' G ⟨u,rfl,N⟩;obtain⟨rz,A2,FZ,FY⟩:=zv w n Sc zG h.2.1 N4;have S4:=S3.keep2 (D.new iA) iA N.k N.hd;have eN:=N.k _ _ (fun z=>by rw[z,S3.hd]at gw;injection gw with e;injection e with e;exact Y8 wg 0 _ e.symm) (fun z=>by rw[z]at cU;rw[iA]at cU;cases cU) gw;have ph:MN G (Et.map QQ) hs:=TK.heldL (fun b ys e=>N.k _ _ (fun z=>by rw[z,S3.hd]at e;cases e) (fun z=>by rw[z,e3]at e;cases e) e) wg;have p4:=N.hp;have t4:=N.hl;have pH:H p=none:=free (G:=H3) (fun b o e=>⟨o,s3 _ _ e⟩) hp;have wv:∀b o,H2 b=some o->∃o',G b=some o':=fun b o e=>by
  by_cases z:b=d
  .exact⟨_,z ▸ S4.hd⟩
  by_cases z2:b=tl
  .exact⟨_,z2 ▸ t4⟩
  exact⟨o,N.k _ _ z z2 (s3 _ _ e)⟩
 clear N S3 gw wg s3 e3 cD wj ev hv hb S hp ck;generalize ko w n jO h.2.1=ps at *;obtain⟨ps,n1⟩:=ps;dsimp only at q rz A2 FZ FY p4 t4 S4;have rb:∀z∈jO++ps,Qn z:=fun z hz=>(aL.mp hz).elim (zG z) (A2 z)
 have ux:jO++ps≠[]:=fun z=>by cases z
 have uy:(jO++ps).length=16+h.2.1:=by rw[az,rz];rfl
 refine gQ ?_;refine Ps rfl rfl ⟨N4,N4,fun p2 aQ=>?_⟩;rw[dk];have mx:p2≠d:=(jm S4.hd aQ).symm;have Bu:p2≠tl:=(jm t4 aQ).symm;refine qg (fun i σ' G'=>∃u,σ'=[u,some (.ref d),some (.ref tl)]/\Qu d tl p2 w n1 (jO++ps) G i G') ⟨none,rfl,Qu.zero S4.hd t4 aQ⟩ ?_ ?_
 .rintro i σ' G' hi ⟨u,rfl,N⟩
  obtain⟨o1,o2,o3⟩:=N.ok ux rb N4;have nl:=(zv w n1 ux rb i N4).1;unfold qz K9;refine k9 ?_;refine Ps rfl rfl ⟨d,tl,w,_,Pp rfl ⟨N.hd,N.hl,o1,o2,o3,fun G' q1 q2 q3=>?_⟩⟩;obtain⟨r1,r2⟩:=N.step aQ mx Bu q1 q2 q3;exact⟨_,r1,kA (by rw[av];omega),Pp rfl r2⟩
 rintro σ' G5 ⟨u5,rfl,N⟩;obtain⟨AW,AV,FS,FR⟩:=zv w n1 ux rb h.2.2 N4;have S5:=S4.keep2 (D.new iA) iA N.k N.hd;have gP:hl≠d:=fun z=>by rw[z,S4.hd]at eN;injection eN with e;injection e with e;exact Y8 ph 0 _ e.symm
 have mw:hl≠tl:=fun z=>by rw[z,iA]at cU;cases cU
 have mL:=N.k _ _ gP mw eN;have AB:∀{X Y:Hp} {zs:List Str} {m:Dl},X d=some (Nl w m)->X tl=some (.lst (zs.map V.str))->(∀b o,b≠d->b≠tl->X b=some o->Y b=some o)->TK X Y:=fun h1 h2 k b ys e=>k _ _ (fun z=>by rw[z,h1]at e;cases e) (fun z=>by rw[z,h2]at e;cases e) e
 have Cm:MN G5 (Et.map QQ) hs:=(AB S4.hd t4 N.k).heldL ph;have p5:=N.k _ _ eK oo p4;have r5:=N.hp;have t5:=N.hl;have rH:H p2=none:=free wv aQ;have Cy:∀b o,H2 b=some o->∃o',G5 b=some o':=fun b o e=>by
  by_cases z:b=d
  .exact⟨_,z ▸ S5.hd⟩
  by_cases z2:b=tl
  .exact⟨_,z2 ▸ t5⟩
  obtain⟨o',e'⟩:=wv b o e;exact⟨o',N.k _ _ z z2 e'⟩
 clear N S4 eN ph p4 t4 wv aQ;generalize ko w n1 (jO++ps) h.2.2=rs at *;obtain⟨rs,n2⟩:=rs;dsimp only at q AW AV FS FR r5 t5 S5;have mh:∀z∈jO++ps++rs,Qn z:=fun z hz=>(aL.mp hz).elim (rb z) (AV z)
 have uw:jO++ps++rs≠[]:=fun z=>by cases z
 have FI:(jO++ps++rs).length=16+h.2.1+h.2.2:=by rw[az,uy,AW]
 refine gQ ?_;refine⟨sm rfl,fun p6 rQ=>?_⟩;have s6:=jd rQ (.lst [V.str (aa "out")]);have e6:upd G5 p6 (.lst [V.str (aa "out")]) p6=some (.lst ([aa "out"].map V.str)):=jc;have S6:=S5.same s6;have Gu:p6≠tl:=(jm t5 rQ).symm;have Bt:p6≠d:=(jm S5.hd rQ).symm;generalize upd G5 p6 _=G6 at *;have lo:=jN w n2 (m:=4) N5;have hi:=jL w n2 (m:=4) N5;have k7:=uo.upd d G6 (Nl w (jk w n2 4).2);have S7:=S6.keep k7 jc;have e7:=k7 _ _ Bt e6;have t7:=k7.strs S6.hd (s6 _ _ t5);have p7:=k7.strs S6.hd (s6 _ _ p5);have r7:=k7.strs S6.hd (s6 _ _ r5);have mJ:=k7 _ _ gP (s6 _ _ mL);have Ck:=(k7.tk S6.hd).heldL (Cm.mono s6);have Cw:∀b o,H2 b=some o->∃o',upd G6 d (Nl w (jk w n2 4).2) b=some o':=fun b o e=>by
  by_cases z:b=d
  .exact⟨_,by rw[z];exact S7.hd⟩
  obtain⟨o',e'⟩:=Cy b o e;exact⟨o',k7 _ _ z (s6 _ _ e')⟩
 refine Pp rfl ⟨d,w,n2,4,rfl,S6.hd,N5,N5,?_⟩;generalize upd G6 d _=G7 at *;generalize jk w n2 4=e at *;obtain⟨e,n3⟩:=e;dsimp only at q lo hi S7 |-;obtain⟨c,rfl⟩:∃c:Nat,e=(c:Nat):=⟨e.toNat,N4⟩
 rw[dk]at q;clear k7 S6 e6 s6 S5 t5 p5 r5 mL Cm Cy rQ;refine Pp rfl ⟨N4,N4,fun p8 oO=>?_⟩;rw[dk];have Gs:p8≠d:=(jm S7.hd oO).symm;have Gr:p8≠tl:=(jm t7 oO).symm;refine qg (fun i σ' G'=>∃u,σ'=[u,some (.ref d),some (.ref tl)]/\Qu d tl p8 w n3 (jO++ps++rs) G7 i G') ⟨none,rfl,Qu.zero S7.hd t7 oO⟩ ?_ ?_
 .rintro i σ' G' hi ⟨u,rfl,N⟩
  obtain⟨o1,o2,o3⟩:=N.ok uw mh N4;have nl:=(zv w n3 uw mh i N4).1;unfold qz K9;refine k9 ?_;refine Ps rfl rfl ⟨d,tl,w,_,Pp rfl ⟨N.hd,N.hl,o1,o2,o3,fun G' q1 q2 q3=>?_⟩⟩;obtain⟨r1,r2⟩:=N.step oO Gs Gr q1 q2 q3;exact⟨_,r1,kA (by rw[av];omega),Pp rfl r2⟩
 rintro σ' G8 ⟨u8,rfl,N⟩;obtain⟨pq,Lz,Ly,Lx⟩:=zv w n3 uw mh c N4;have S8:=S7.keep2 (D.new iA) iA N.k N.hd;have gV:=N.k _ _ gP mw mJ;have Cj:MN G8 (Et.map QQ) hs:=(AB S7.hd t7 N.k).heldL Ck;have A8:=N.k _ _ eK oo p7;have r8:=N.k _ _ mx Bu r7;have e8:=N.k _ _ Bt Gu e7;have f8:=N.hp;have t8:=N.hl;have wu:∀b o,H2 b=some o->∃o',G8 b=some o':=fun b o e=>by
  by_cases z:b=d
  .exact⟨_,z ▸ S8.hd⟩
  by_cases z2:b=tl
  .exact⟨_,z2 ▸ t8⟩
  obtain⟨o',e'⟩:=Cw b o e;exact⟨o',N.k _ _ z z2 e'⟩
 clear N S7 mJ Ck p7 r7 e7 t7 Cw oO;generalize ko w n3 (jO++ps++rs) c=fs at *;obtain⟨fs,n4⟩:=fs;dsimp only at q pq Lz Ly Lx f8 t8 S8;refine jmZ e8 f8 (by rw[pq];show 1+c<=1000;omega) fun fl G9 s9 n9 e9=>?_
 have S9:=S8.same s9;have p9:=s9 _ _ A8;have r9:=s9 _ _ r8;have BY:=s9 _ _ gV;have Ci:=Cj.mono s9;have fH:H fl=none:=free wu n9;have Cv:∀b o,H2 b=some o->∃o',G9 b=some o':=fun b o e=>by obtain⟨o',e'⟩:=wu b o e;exact⟨o',s9 _ _ e'⟩
 clear S8 A8 r8 e8 f8 t8 wu gV Cj s9 n9;rw[show [aa "out"]++fs=aa "out" :: fs from rfl]at e9;refine gQ ?_;refine fun wd mD=>?_
 have gr:=jd mD (.dK []);have CL:=Pn (H:=G9) wd (.dK []);have wH:H wd=none:=free Cv mD;generalize upd G9 wd _=G10 at *;refine Ps rfl rfl (jmZ (xs:=ps) (gr _ _ p9) (gr _ _ e9) (by rw[rz,aM,pq];omega) fun nl sQ cK Bx CK=>?_);have gq:=gr.trans cK;have mf:=cK _ _ CL;have W:=jl8 (A:=⟨nl,fl,p2,hl⟩) (xs:=ps++aa "out" :: fs) (fr:=aa "out" :: fs) (rs:=rs) (Et:=Et) (hs:=hs) CK (gq _ _ e9) (gq _ _ r9) (gq _ _ BY) (Ci.mono gq) mf;refine Ps rfl rfl (Pp rfl ⟨mf,[(.inr (aa "numbers"),.ref nl),(.inr (aa "free"),.ref fl),(.inr (aa "rows"),.ref p2),(.inr (aa "heads"),.ref hl),(.inr (aa "left"),.int 30)],rfl,by show 5<=15;decide,?_⟩);have ka:∀{b:ac},H b=none->b≠a:=fun hb z=>by rw[z,D.l]at hb;cases hb
 have bH:Rb ⟨nl,fl,p2,hl⟩ a (ps++aa "out" :: fs) (aa "out" :: fs) rs Et:=by
  refine⟨fun z=>?_,ka fH,ka rH,ow,?_,?_,?_,?_,?_,hz,fun h' hh=>aw (BN h' hh).1 N5⟩
  .have:=gr _ _ S9.D.l
   rw[<- z,Bx]at this;cases this
  .rw[az,aM];omega
  .rw[az,aM,rz,pq];omega
  .rw[aM];omega
  .rw[aM,pq];omega
  .omega
 have oF:∀b o,b≠wd->sQ b=some o->upd sQ wd (.dK (Kn [] [(.inr (aa "numbers"),.ref nl),(.inr (aa "free"),.ref fl),(.inr (aa "rows"),.ref p2),(.inr (aa "heads"),.ref hl),(.inr (aa "left"),.int 30)])) b=some o:=fun b o hb e=>by rw[jq hb];exact e
 have sP:=S9.same gq;have lw:∀{b:ac} {zs:List V},sQ b=some (.lst zs)->b≠wd:=fun e z=>by rw[z,mf]at e;cases e
 have wW:=sP.keep2 (D.new wH) wH (fun b o _ hb e=>oF b o hb e) (oF _ _ (lw sP.hd) sP.hd);have Be:=oF _ _ (lw (gq _ _ p9)) (gq _ _ p9);have rp:=oF _ _ (lw (gq _ _ r9)) (gq _ _ r9);generalize upd sQ wd _=G12 at *;clear oF sP lw S9 p9 r9 BY Ci Cv e9 gr cK gq mf CK Bx CL mD;have iB:=ka pH;have on:=ka rH;have pl:ps.length<=100:=by omega
 have rl:rs.length<=100:=by omega
 refine gQ ?_;refine⟨sm rfl,fun om vA=>?_⟩;have br:=jd vA (.lst [V.int 2,V.int 5]);have sx:=Pn (H:=G12) om (.lst [V.int 2,V.int 5]);have m6:=wW.same br;have DB:=W.same br;have Bc:=br _ _ Be;have rm:=br _ _ rp;have GC:om≠d:=(jm wW.hd vA).symm;generalize upd G12 om _=G13 at *;have lo:=jN w n4 (m:=4) N5;have hi:=jL w n4 (m:=4) N5;have mC:=uo.upd d G13 (Nl w (jk w n4 4).2);have lG:=m6.keep mC jc;have DA:=DB.keep mC m6.hd;have Bb:=mC.strs m6.hd Bc;have A0:=mC.strs m6.hd rm;refine Pp rfl ⟨d,w,n4,4,rfl,m6.hd,N5,N5,Pq rfl rfl ⟨⟨N5,N5⟩,om,_,_,.int (JL (jk w n4 4).1),rfl,rfl,ES.of (mC _ _ GC sx),?_,?_⟩⟩
 .have:(jk w n4 4).1 / 3=0\/(jk w n4 4).1 / 3=1:=by omega
  unfold JL;rcases this with h | h <;> rw[h] <;> rfl
 generalize upd G13 d _=G14 at *;generalize jk w n4 4=mo at *;obtain⟨mo,n5⟩:=mo;dsimp only at q lG |-;have mp:0 < JL mo/\JL mo<=5:=by unfold JL;split <;> exact⟨N5,N5⟩
 generalize JL mo=most at *;clear wW m6 W DB Be Bc rp rm br sx vA;refine gQ ?_;have lo1:=jN w n5 mp.1;have iK:=jL w n5 mp.1;have oE:=uo.upd d G14 (Nl w (jk w n5 most).2);have eU:=lG.keep oE jc;have Dz:=DA.keep oE lG.hd;have rA:=oE.strs lG.hd Bb;have rj:=oE.strs lG.hd A0;refine Ps rfl rfl (Pp rfl ⟨d,w,n5,most,rfl,lG.hd,mp.1,N4,?_⟩);generalize upd G14 d _=G15 at *;generalize jk w n5 most=m1 at *;obtain⟨m1,n6⟩:=m1;dsimp only at q eU lo1 iK |-;obtain⟨m1,rfl⟩:∃c:Nat,m1=(c:Nat):=⟨m1.toNat,N4⟩
 rw[dk]at q;refine Ps rfl rfl ⟨a,p,p2,ds.drop 1,L2,m1,ps,rs,rfl,eU.D,rA,rj,iB,on,pl,rl,N4,fun FC w5 mv DK wq=>?_⟩;have da:d ∉ a :: ds.drop 1:=fun z=>by
  rcases aA.mp z with z | z
  .have:=eU.D.l
   rw[<- z,eU.hd]at this;injection this with this;injection this with this
   cases hh:ds.drop 1 with
   | nil=>rw[hh]at this;cases this
   | cons x xs=>rw[hh]at this;injection this with this;cases this
  .exact eU.nd z
 have iO:Ri H a ds w5 d w n6 (1+m1) (qa ps rs L2 m1).2:=⟨eU.o.then (mv.sub fun b hb=>by
  rcases aA.mp hb with rfl | hb
  .exact aJ ..
  .exact aH _ (gh hb)),mv _ _ da eU.hd,by rw[<- eW];exact DK,fun z=>eU.nd (by rw[<- eW]at z;exact gh z),eU.dd⟩
 have Dy:=Dz.out mv eU.D bH;have Ba:=mv _ _ (eU.D.ne rA iB) rA;have AZ:=mv _ _ (eU.D.ne rj on) rj;generalize qa ps rs L2 m1=nd at *;obtain⟨nd,L3⟩:=nd;dsimp only at q iO wq;clear lG DA Bb A0 eU Dz rA rj mC oE DK mv da;refine gQ ?_;have eZ:=jN w n6 mp.1;have bX:=jL w n6 mp.1;have mB:=uo.upd d w5 (Nl w (jk w n6 most).2);have sO:=iO.keep mB jc;have Dx:=Dy.keep mB iO.hd;have uI:=mB.strs iO.hd Ba;have AY:=mB.strs iO.hd AZ;have sw:=(mB.tk iO.hd).held wq;refine Ps rfl rfl (Pp rfl ⟨d,w,n6,most,rfl,iO.hd,mp.1,N4,?_⟩);generalize upd w5 d _=G17 at *;generalize jk w n6 most=m2 at *;obtain⟨m2,n7⟩:=m2;dsimp only at q sO eZ bX |-;obtain⟨m2,rfl⟩:∃c:Nat,m2=(c:Nat):=⟨m2.toNat,N4⟩
 rw[dk]at q;refine Pp rfl ⟨sm rfl,fun p18 BS=>?_⟩;have rf:=jd BS (.lst [V.str (aa "out")]);refine jmZ (xs:=ps) (ys:=[aa "out"]) (rf _ _ uI) jc (by show ps.length+1<=1000;omega) fun A_ MC AT Bw CJ=>?_
 have mq:=rf.trans AT;have lF:=sO.same mq;have Dw:=Dx.same mq;have uH:=mq _ _ uI;have rh:=mq _ _ AY;have Ct:=sw.mono mq;have Bv:A_≠a:=fun z=>by have:=rf _ _ sO.D.l;rw[<- z,Bw]at this;cases this
 refine Pp rfl ⟨a,A_,p2,ds.drop (1+m1),L3,m2,ps++[aa "out"],rs,rfl,lF.D,CJ,rh,Bv,on,by rw[az];show _+1<=100;omega,rl,N4,fun FB DI mt pB Cr=>?_⟩;have Bh:Qw (a :: ds) MC DI:=mt.sub fun b hb=>by
  rcases aA.mp hb with rfl | hb
  .exact aJ ..
  .exact aH _ (gh hb)
 have Gg:=lF.o.then Bh;have wU:=Dw.out mt lF.D bH;have A9:=mt _ _ (lF.D.ne uH iB) uH;have AX:=mt _ _ (lF.D.ne rh on) rh;have Ln:=(mt.tk lF.D).held Ct;rw[eW]at pB;generalize qa (ps++[aa "out"]) rs L3 m2=gv at *;obtain⟨gv,L4⟩:=gv;dsimp only at q pB Cr;clear iO sO lF Dy Dx Dw Ba uI uH AZ AY rh wq sw Ct mB rf AT mq Bw CJ Bv BS mt Bh;refine gQ ?_;refine Ps rfl rfl ⟨a,wd,_,L4,⟨nl,fl,p2,hl⟩,ps++aa "out" :: fs,aa "out" :: fs,rs,Et,30,N5,N5,rfl,pB,wU,bH,fun FA MB k21 rB DJ W21 Lm=>?_⟩;have tk:=rB.tkW pB wU;have lw:∀{b:ac} {zs:List Str},DI b=some (.lst (zs.map V.str))->b≠a->b ∉ wd :: a :: ds.drop (1+m1+m2):=fun {b zs} e ha z=>by
  rcases aA.mp z with z | z
  .obtain⟨ah,hw,-⟩:=wU.d
   rw[z,hw]at e;cases e
  .exact pB.ne e ha z
 have F8:=rB _ _ (lw A9 iB) A9;have FT:=rB _ _ (lw AX on) AX;have F_:Qw (a :: ds) H MB:=fun b o hb e=>rB _ _ (fun z=>by
  rcases aA.mp z with z | z
  .rw[z,wH]at e;cases e
  .rcases aA.mp z with z | z
   .exact hb (z ▸ aJ ..)
   .exact hb (aH _ (gh z))) (Gg _ _ hb e)
 rw[eW]at DJ;refine gQ ?_;refine Ps rfl rfl ⟨p,Pp rfl (.inl ⟨ES.of F8,fun t1 eM=>?_⟩)⟩;have s1:=jd eM (.tup (ps.map V.str));refine Pp rfl ⟨p2,Pp rfl (.inl ⟨ES.of (s1 _ _ FT),fun t2 dM=>?_⟩)⟩;have s2:=jd dM (.tup (rs.map V.str));refine Ps rfl rfl (Pp rfl ⟨sm rfl,fun t3 fM=>?_⟩);have s3:=jd fM (.tup [V.str (aa "proc"),V.str h.1,V.ref t1,V.ref t2,FC,FB,FA]);have br:=s1.trans (s2.trans s3);refine q _ _ _ (fun b o hb e=>br _ _ (F_ _ _ hb e)) (DJ.same br) ?_;exact jK jc (jf jD (jf jD (jf (jK (s3 _ _ (s2 _ _ jc)) (Jn _)) (jf (jK (s3 _ _ jc) (Jn _)) (jf ((tk.held Ln).mono br) (jf ((tk.held Cr).mono br) (jf (Lm.mono br) jF)))))))
end
abbrev J6:ay:=NS 63
def Ja(ns:List Int)(m:Nat):List (Int×Dl):=(ir m).map fun k=>Sb ns (k:Nat)
def jef(ns:List Int)(m:Nat):Ja ns (m+1)=Ja ns m++[Sb ns (m:Nat)]:=by unfold Ja;rw[OZ,bj];rfl
theorem MH.snoc{r:ac}{x:Int×Dl}(D:MH H a ds L)(s:ML H H')(hr:H r=none)(er:H' r=some (Nl x.1 x.2))(hz:ds.length < 100):MH (upd H' a (.lst ((ds++[r]).map V.ref))) a (ds++[r]) (L++[x]):=by
 have hn:=D.new hr;have hx:∀(i:Nat) d y,ds[i]?=some d->L[i]?=some y->d≠a:=fun i d y h1 h2 z=>by
  have e:=D.at_ i d y h1 h2;rw[z,D.l]at e;injection e with e;injection e with e
  cases ds with
  | nil=>cases e
  | cons q qs=>injection e with e;cases e
 refine⟨jc,by rw[az,az,D.n];rfl,nU.mpr ⟨D.nd,bM.mpr ⟨fun z=>(nomatch z),nT⟩,fun y hy z hz e=>hn (aH _ (by rw[<- aZ.mp hz,<- e];exact hy))⟩,by rw[az];exact hz,fun i d y h1 h2=>?_⟩;have dn:=D.n;by_cases hi:i < ds.length
 .rw[ug hi]at h1
  rw[ug N4]at h2;rw[jq (hx i d y h1 h2)];exact s _ _ (D.at_ i d y h1 h2)
 .rw[pY N4]at h1
  rw[pY N4,<- dn]at h2
  cases hj:i - ds.length with
  | zero=>
   rw[hj]at h1 h2
   cases h1
   cases h2
   rw[jq (fun (z:r=a)=>hn (z ▸ aJ ..))];exact er
  | succ j=>rw[hj]at h1;cases h1
def j8(w:Int)(n:Dl)(tk:List Str):Nat->List Hd×Dl
 | 0=>([],n)
 | i+1=>
  let p:=j8 w n tk i
  let r:=qw w p.2 (tk++p.1.map (·.1))
  let a:=jk w r.2 5
  let b:=jk w a.2 4
  (p.1++[(r.1,a.1.toNat,b.1.toNat)],b.2)
theorem KQ(w:Int)(n:Dl){tk:List Str}(h0:tk≠[])(h:∀z∈tk,Qn z):∀i,tk.length+i<=26->(j8 w n tk i).1.length=i/\(∀z∈(j8 w n tk i).1.map (·.1),Qn z)/\(∀z∈(j8 w n tk i).1.map (·.1),z ∉ tk)/\((j8 w n tk i).1.map (·.1)).Nodup/\∀x∈(j8 w n tk i).1,x.2.1<=4/\x.2.2<=3
 | 0,_=>⟨rfl,(fun _ z=>nomatch z),(fun _ z=>nomatch z),nT,(fun _ z=>nomatch z)⟩
 | i+1,hi=>by
  obtain⟨h1,h2,h3,h4,h7⟩:=KQ w n h0 h i N4;obtain⟨h5,h6⟩:=jaW w (j8 w n tk i).2 (tk:=tk++(j8 w n tk i).1.map (·.1)) (by simp[h0]) (by rw[az,av];omega) (fun z hz=>(aL.mp hz).elim (h z) (h2 z));have es:j8 w n tk (i+1)=((j8 w n tk i).1++[((qw w (j8 w n tk i).2 (tk++(j8 w n tk i).1.map (·.1))).1,(jk w (qw w (j8 w n tk i).2 (tk++(j8 w n tk i).1.map (·.1))).2 5).1.toNat,(jk w (jk w (qw w (j8 w n tk i).2 (tk++(j8 w n tk i).1.map (·.1))).2 5).2 4).1.toNat)],(jk w (jk w (qw w (j8 w n tk i).2 (tk++(j8 w n tk i).1.map (·.1))).2 5).2 4).2):=rfl;have b1:=jL w (qw w (j8 w n tk i).2 (tk++(j8 w n tk i).1.map (·.1))).2 (m:=5) N5;have b2:=jL w (jk w (qw w (j8 w n tk i).2 (tk++(j8 w n tk i).1.map (·.1))).2 5).2 (m:=4) N5;rw[es];generalize qw w (j8 w n tk i).2 (tk++(j8 w n tk i).1.map (·.1))=nm at *;generalize jk w (jk w nm.2 5).2 4=y at *;generalize jk w nm.2 5=x at *;dsimp only;rw[bj];refine⟨by rw[az,h1];rfl,fun z hz=>?_,fun z hz=>?_,?_,fun z hz=>?_⟩
  .rcases aL.mp hz with hz | hz
   .exact h2 z hz
   .rw[aZ.mp hz];exact h5
  .rcases aL.mp hz with hz | hz
   .exact h3 z hz
   .rw[aZ.mp hz];exact fun q=>h6 (aL.mpr (.inl q))
  .exact nU.mpr ⟨h4,bM.mpr ⟨fun z=>(nomatch z),nT⟩,fun x hx y hy e=>h6 (aL.mpr (.inr ((show _=nm.1 from e.trans (aZ.mp hy)) ▸ hx)))⟩
  .rcases aL.mp hz with hz | hz
   .exact h7 z hz
   .rw[aZ.mp hz];exact⟨by show x.1.toNat<=4;omega,by show y.1.toNat<=3;omega⟩
def yX(Et:List Hd)(L:List (Int×Dl)):Nat->List Pc×List (Int×Dl)
 | 0=>([],L)
 | i+1=>
  let p:=yX Et L i
  let r:=SG Et (Et.getD i ("",0,0)) p.2
  (p.1++[r.1],r.2)
def Kl(e:Int):Int:=if e / 3=0 then 3 else 6
def zZ(ns:List Int)(m:Nat):List Hd:=
 let y:=qI (Ja ns m)
 let e:=jk y.1.1 y.1.2 4
 let c:=jk y.1.1 e.2 (Kl e.1)
 (j8 y.1.1 c.2 jO (1+c.1).toNat).1
def Sf(ns:List Int)(m:Nat):List Pc:=(yX (zZ ns m) (qI (Ja ns m)).2 (zZ ns m).length).1
def jax(K:ao):Sp:=fun vs H Q _=>∃(a tl:ac) (ns:List Int) (m:Nat),vs=[.ref a,.int (m:Nat),.ref tl]/\ES K H a (ns.map V.int)/\ns.length<=63/\m<=63/\H tl=some (.lst (jO.map V.str))/\∀u H',uo tl H H'->Na H' (.tup ((Sf ns m).map Pc.toD)) u->Q u H'
section
variable {w:ax}
theorem jdO(F:Fun K "_law_program" "_law_program" J6 f fd)(B:Ni mg)(ng:Fn P w K mg base 1 "_law_deal" MR (jeD K))(cY:Fn P w K mg base 1 "_law_next" M1 Yb)(aG:Fn P w K mg base 1 "_law_draw" Nx qJ)(iQ:Fn P w K mg base 2 "_law_name" Ov jeC)(xk:Fn P w K mg base 17 "_law_proc" Ew jfP):MT P w K mg base PU 18 f fd D4 (jax K):=by
 have sc:tS DW D4 (jo J6):=fQ;refine F.okZ sc (fun aB A iw s H vs Q E hr h=>?_);obtain⟨sa,tl,ns,m,rfl,hS,hn,hm,ck,q⟩:=h;refine⟨_,(ja (jh 3 sc.nd (qT M2 [0] rfl (qr (sc:=jo J6) (N:=DW) rfl rfl N3) (kP N9 B.range_ (jp (bB 1))) (fun s H ex=>⟨(kU (i:=0) (show cv (["_law_k","_law_script"]:List Str) from N3) rfl oQ),qt,(jS ng hr (jj (bB 1) (bB 0)))⟩))) (ja (jh 4 sc.nd (jS cY hr (jp (bB 3)))) (ja (jh 5 sc.nd (jI qf)) (ja (yn il rfl (kP N9 B.range_ (jp (jn qb je (jS aG hr (jj (bB 4) (js jQ (jI (jj je je)) (jn Y2 (jS aG hr (jj (bB 4) je)) je))))))) (jt 6 sc.nd) (jg (jP (jV bL cg cf ke (bB 5) (jp (jG (jr (jS iQ hr (jj (bB 4) (bB 2))) (jj (jS aG hr (jj (bB 4) je)) (jS aG hr (jj (bB 4) je)))))))))) (jg (jy (kJ jZ N9 B.tuple_ kX (jp (qT M2 [3,5] rfl (qr (sc:=jo J6) (N:=DW) rfl rfl N3) (kP N9 B.range_ (jp (j7 jE N9 B.len_ ku (jp (bB 5))))) (fun s H ex=>⟨(kU (i:=0) (show cv (["_law_k","_law_deals","_law_heads"]:List Str) from N3) rfl oQ),qt,(jS xk hr (jr (bB 1) (jj (bB 2) (bB 0))))⟩)))))))))),?_⟩
 try dsimp only[qF]
 refine kK ?_;refine K4 ?_;intro _ _ _ _;refine Ps rfl rfl ⟨N4,N4,fun a ha=>?_⟩;rw[dk];have s0:=jd ha (.lst []);refine qg (fun i σ' G=>∃u ds,σ'=[u,some (.ref sa)]/\ML H G/\MH G a ds (Ja ns i)/\∀x∈ds,H x=none) ⟨none,[],rfl,s0,⟨jc,rfl,nT,cn _,fun i d x h=>by cases h⟩,fun _ z=>nomatch z⟩ ?_ ?_
 .rintro i σ' G hi ⟨u,ds,rfl,sG,DG,hx⟩
  have dl:ds.length=i:=by rw[DG.n];unfold Ja;rw[av,ub]
  unfold qz K9;refine k9 ?_;refine Ps rfl rfl ⟨sa,ns,(i:Nat),by rw[show (0:Int)+((i:Nat):Int)=((i:Nat):Int) by omega];rfl,sG.seq hS,hn,N4,N4,fun r G' hr uE er=>?_⟩;refine⟨ds.map V.ref,uE _ _ DG.l,kA (by rw[av];omega),_,ds++[r],rfl,fun b o e=>?_,?_,fun x cL=>?_⟩
  .rw[jq (jm e ha)];exact uE _ _ (sG _ _ e)
  .rw[jef]
   have:=DG.snoc uE hr er N4;rw[bj]at this;exact this
  .rcases aL.mp cL with h | h
   .exact hx x h
   .rw[aZ.mp h];exact sG.free hr
 rintro σ' G ⟨u,ds,rfl,sG,DG,hx⟩;unfold Sf zZ at q;dsimp only at q;generalize Ja ns m=L at *;refine gQ ?_;refine Pp rfl ⟨a,ds,L,rfl,DG,fun d H2 k2 hd e2 eo D2=>?_⟩;rw[<- uh]at eo D2;generalize qI L=y at *;obtain⟨⟨w,n⟩,L2⟩:=y;dsimp only at q e2 D2;have Bk:tl≠a:=fun z=>by rw[z,ha]at ck;cases ck
 have rC:tl ∉ a :: ds:=fun z=>by
  rcases aA.mp z with z | z
  .exact Bk z
  .have:=hx _ z
   rw[ck]at this;cases this
 have dH:H d=none:=by
  rcases hd with h | h
  .exact sG.free h
  .exact hx _ h
 have mz:uo tl H H2:=fun b o _ e=>k2 _ _ (jm e ha) (sG _ _ e)
 have S:Ri (fun _=>none) a ds H2 d w n 1 L2:=⟨fun _ _ _ e=>(nomatch e),e2,D2,eo,.inl rfl⟩
 have t2:=k2 _ _ Bk (sG _ _ ck);have dJ:∀b,H2 b=none->b ∉ a :: ds:=fun b hb z=>by
  by_cases e:b=a
  .rw[e,D2.l]at hb;cases hb
  cases z2:G b with
  | none=>exact DG.new z2 z
  | some o=>rw[k2 _ _ e z2]at hb;cases hb
 clear e2 D2 eo hd k2 DG;refine gQ ?_;refine⟨sm rfl,fun hl cU=>?_⟩;have s3:=jd cU (.lst []);have e3:=Pn (H:=H2) hl (.lst []);have S3:=S.same s3;have t3:=s3 _ _ t2;have k3:uo tl H (upd H2 hl (.lst [])):=mz.trans (uo.same s3);have gP:hl≠d:=(jm S.hd cU).symm;have mw:hl≠tl:=(jm t2 cU).symm;have ow:hl≠a:=(jm S.D.l cU).symm;have Ie:H hl=none:=by
  cases z:H hl with
  | none=>rfl
  | some o=>exact absurd (mz _ _ mw z) (by rw[cU];exact fun z=>nomatch z)
 have Bq:=dJ _ cU;generalize upd H2 hl _=H3 at *;clear S t2 mz cU s3;refine gQ ?_;refine Pp rfl ⟨sm rfl,fun p4 vz=>?_⟩;have s4:=jd vz (.lst [V.int 3,V.int 6]);have e4:=Pn (H:=H3) p4 (.lst [V.int 3,V.int 6]);have S4:=S3.same s4;have rF:p4≠d:=(jm S3.hd vz).symm;have t4:=s4 _ _ t3;have h4:=s4 _ _ e3;have k4:=k3.trans (uo.same s4);generalize upd H3 p4 _=H4 at *;have lo:=jN w n (m:=4) N5;have hi:=jL w n (m:=4) N5;have kd:=uo.upd d H4 (Nl w (jk w n 4).2);have S5:=S4.keep kd jc;have uL:tl≠d:=fun z=>by rw[z,dH]at ck;cases ck
 have t5:=kd _ _ uL t4;have h5:=kd _ _ gP h4;have k5:uo tl H (upd H4 d (Nl w (jk w n 4).2)):=fun b o hb e=>kd _ _ (jm e dH) (k4 _ _ hb e)
 refine Pp rfl ⟨d,w,n,4,rfl,S4.hd,N5,N5,Pq rfl rfl ⟨⟨N5,N5⟩,p4,_,_,.int (Kl (jk w n 4).1),rfl,rfl,ES.of (kd _ _ rF e4),?_,?_⟩⟩
 .have:(jk w n 4).1 / 3=0\/(jk w n 4).1 / 3=1:=by omega
  unfold Kl;rcases this with h | h <;> rw[h] <;> rfl
 generalize upd H4 d _=H5 at *;generalize jk w n 4=e at *;have mp:0 < Kl e.1/\Kl e.1<=6:=by unfold Kl;split <;> exact⟨N5,N5⟩
 generalize Kl e.1=most at *;clear S3 S4 t3 t4 h4 k3 k4 kd e4 s4 vz e3 rF;have lo:=jN w e.2 mp.1;have hi:=jL w e.2 mp.1;have kd:=uo.upd d H5 (Nl w (jk w e.2 most).2);have S6:=S5.keep kd jc;have t6:=kd _ _ uL t5;have h6:=kd _ _ gP h5;have k6:uo tl H (upd H5 d (Nl w (jk w e.2 most).2)):=fun b o hb e=>kd _ _ (jm e dH) (k5 _ _ hb e)
 refine⟨d,w,e.2,most,rfl,S5.hd,mp.1,N4,Pq rfl rfl (Pp rfl ⟨N4,N4,?_⟩)⟩;generalize upd H5 d _=H6 at *;generalize jk w e.2 most=c at *;clear S5 t5 h5 k5 kd;have uA:jO.length=16:=rfl;refine KS (fun i σ G=>∃u hs,σ=[some (.ref sa),some (.int (m:Nat)),some (.ref tl),some (.ref a),some (.ref d),some (.ref hl),u]/\uo tl H G/\Ri (fun _=>none) a ds G d w (j8 w c.2 jO i).2 1 L2/\G tl=some (.lst ((jO++(j8 w c.2 jO i).1.map (·.1)).map V.str))/\G hl=some (.lst hs)/\hs.length=i/\MN G ((j8 w c.2 jO i).1.map QQ) hs) ⟨none,[],rfl,k6,S6,t6,h6,rfl,jF⟩ ?_ ?_
 .rintro i σ G cM ⟨u,hs,rfl,kG,S,tG,hG,rN,hH⟩
  have bX:i < (1+c.1).toNat:=cM;obtain⟨h1,h2,-,-,-⟩:=KQ w c.2 Sc zG i N4;refine gQ ?_;refine Pp rfl ⟨.inl ⟨rfl,_,ES.of hG⟩,Ps rfl rfl ⟨d,tl,w,_,Pp rfl ⟨S.hd,tG,by simp[Sc],by rw[az,av];omega,fun z hz=>(aL.mp hz).elim (zG z) (h2 z),fun G1 q1 q2 q3=>?_⟩⟩⟩;have S1:=S.keep2 rC rfl q1 q2;have k1:uo tl H G1:=fun b o hb e=>q1 _ _ (jm e dH) hb (kG _ _ hb e)
  have I_:=q1 _ _ gP mw hG;have I0:=TK.heldL (fun b ys e=>q1 _ _ (fun z=>by rw[z,S.hd]at e;cases e) (fun z=>by rw[z,tG]at e;cases e) e) hH;have es:j8 w c.2 jO (i+1)=((j8 w c.2 jO i).1++[((qw w (j8 w c.2 jO i).2 (jO++(j8 w c.2 jO i).1.map (·.1))).1,(jk w (qw w (j8 w c.2 jO i).2 (jO++(j8 w c.2 jO i).1.map (·.1))).2 5).1.toNat,(jk w (jk w (qw w (j8 w c.2 jO i).2 (jO++(j8 w c.2 jO i).1.map (·.1))).2 5).2 4).1.toNat)],(jk w (jk w (qw w (j8 w c.2 jO i).2 (jO++(j8 w c.2 jO i).1.map (·.1))).2 5).2 4).2):=rfl;rw[es];generalize qw w (j8 w c.2 jO i).2 (jO++(j8 w c.2 jO i).1.map (·.1))=nm at *;generalize (j8 w c.2 jO i).1=r_ at *;clear S q1 q2 hG hH kG es;have lo1:=jN w nm.2 (m:=5) N5;have eZ:=jN w (jk w nm.2 5).2 (m:=4) N5;have kd:=uo.upd d G1 (Nl w (jk w nm.2 5).2);have S2:=S1.keep kd jc;refine Pp rfl ⟨d,w,nm.2,5,rfl,S1.hd,N5,N5,?_⟩;have BB:=uo.upd d (upd G1 d (Nl w (jk w nm.2 5).2)) (Nl w (jk w (jk w nm.2 5).2 4).2);have S3:=S2.keep BB jc;refine Pp rfl ⟨d,w,(jk w nm.2 5).2,4,rfl,S2.hd,N5,N5,sm rfl,fun t ht=>?_⟩;have rJ:=kd.trans BB;generalize upd (upd G1 d (Nl w (jk w nm.2 5).2)) d (Nl w (jk w (jk w nm.2 5).2 4).2)=G3 at *;generalize (jk w (jk w nm.2 5).2 4)=y at *;generalize (jk w nm.2 5)=x at *;obtain⟨x,x2⟩:=x;obtain⟨y,y2⟩:=y;dsimp only at lo1 eZ S3 |-;obtain⟨x,rfl⟩:∃c:Nat,x=(c:Nat):=⟨x.toNat,N4⟩
  obtain⟨y,rfl⟩:∃c:Nat,y=(c:Nat):=⟨y.toNat,N4⟩
  rw[dk,dk];have su:=rJ _ _ gP I_;have FJ:=rJ _ _ uL q3;have s4:=jd ht (.tup [V.str nm.1,V.int (x:Nat),V.int (y:Nat)]);have e4:=Pn (H:=G3) t (.tup [V.str nm.1,V.int (x:Nat),V.int (y:Nat)]);have S4:=S3.same s4;generalize upd G3 t _=G4 at *;have Cn:=s4 _ _ su;have k4:uo tl H G4:=fun b o hb e=>s4 _ _ (rJ _ _ (jm e dH) (k1 _ _ hb e))
  have ph:=((rJ.tk S1.hd).heldL I0).mono s4;have AG:TK G4 (upd G4 hl (.lst (hs++[.ref t]))):=fun b ys e=>by rw[jq (fun z=>by rw[z,Cn]at e;cases e)];exact e
  refine⟨hl,hs,Pp rfl ⟨rfl,Cn,kA N4,_,hs++[.ref t],rfl,fun b o hb e=>?_,?_,?_,jc,by rw[az,rN];rfl,?_⟩⟩
  .rw[jq (jm e Ie)];exact k4 _ _ hb e
  .exact S4.keep2 Bq rfl (fun b o _ hb e=>by rw[jq hb];exact e) (by rw[jq gP.symm];exact S4.hd)
  .rw[jq mw.symm,show jO++(r_++[(nm.1,x,y)]).map (fun x:Hd=>x.1)=jO++r_.map (fun x:Hd=>x.1)++[nm.1] by rw[bj,bq];rfl];exact s4 _ _ FJ
  .rw[bj]
   exact zT (AG.heldL ph) (AG.held (jK e4 (jf jD (jf kL (jf kL jF)))))
 rintro σ G ⟨u,hs,rfl,kG,S,tG,hG,rN,hH⟩;have DG:=S.D;obtain⟨h1,-,-,-,h5⟩:=KQ w c.2 Sc zG (1+c.1).toNat N4;generalize (j8 w c.2 jO (1+c.1).toNat).1=Et at *;clear S k6 S6 t6 h6 Bq;have cU:=hH.length;rw[av]at cU;refine Pp rfl ⟨hl,Pp rfl ⟨.inl (ES.of hG),Pp rfl ⟨N4,N4,fun p hp=>?_⟩⟩⟩;rw[dk];have oo:p≠tl:=(jm tG hp).symm;have pH:H p=none:=by
  cases z2:H p with
  | none=>rfl
  | some o=>rw[kG _ _ oo z2]at hp;cases hp
 have A7:=DG.new hp;have s7:=jd hp (.lst []);refine qg (fun i σ' G'=>∃u us j,σ'=[u,some (.ref a),some (.ref hl)]/\1<=j/\uo tl H G'/\MH G' a (ds.drop j) (yX Et L2 i).2/\G' hl=some (.lst hs)/\MN G' (Et.map QQ) hs/\G' p=some (.lst us)/\us.length=i/\MN G' ((yX Et L2 i).1.map Pc.toD) us) ⟨none,[],1,rfl,aK _,kG.trans (uo.same s7),DG.same s7,s7 _ _ hG,hH.mono s7,jc,rfl,jF⟩ ?_ ?_
 .rintro i σ' G' cM ⟨u,us,j,rfl,hj,uU,sS,sv,sq,bN,oH,cw⟩
  have bX:i < Et.length:=by rw[cU];exact cM
  have eg:Et[i]?=some (Et.getD i ("",0,0)):=by rw[eI,aP bX];rfl
  have i9:∀b,b∈a :: ds.drop j->b∈a :: ds.drop 1:=fun b hb=>by
   rcases aA.mp hb with rfl | hb
   .exact aJ ..
   .rw[show j=1+(j - 1) from N4,<- eW]at hb
    exact aH _ (gh hb)
  unfold qz K9;refine k9 ?_;refine Ps rfl rfl (Pp rfl ⟨a,hl,ds.drop j,_,hs,Et,i,_,by rw[show (0:Int)+((i:Nat):Int)=((i:Nat):Int) by omega];rfl,sS,sv,sq,ow,N4,h5,eg,fun u2 G2 j2 o2 D2 vi=>?_⟩);have g0:=o2 _ _ (fun z=>A7 (i9 _ z)) bN;have tk:=o2.tk sS;have uz:TK G2 (upd G2 p (.lst (us++[u2]))):=fun b ys e=>by rw[jq (fun z=>by rw[z,g0]at e;cases e)];exact e
  have Gj:hl≠p:=(jm hG hp)
  rw[eW]at D2;refine⟨us,g0,kA N4,_,us++[u2],j+j2,rfl,N4,fun b o hb e=>?_,?_,?_,uz.heldL (tk.heldL sq),jc,by rw[az,oH];rfl,?_⟩
  .rw[jq (jm e pH)]
   refine o2 _ _ (fun z=>?_) (uU _ _ hb e);rcases aA.mp z with z | z
   .rw[z,ha]at e;cases e
   .rw[hx _ (gh z)]at e;cases e
  .refine D2.put (fun z=>A7 ?_)
   rcases aA.mp z with z | z
   .exact z ▸ aJ ..
   .rw[show j+j2=1+(j+j2 - 1) from N4,<- eW]at z
    exact aH _ (gh z)
  .rw[jq Gj]
   exact o2 _ _ (sS.out sv ow fun _ _ e=>by injection e with e;exact Y8 sq 0 _ e) sv
  .show MN _ (((yX Et L2 i).1++[_]).map Pc.toD) _
   rw[bj];exact zT (uz.heldL (tk.heldL cw)) (uz.held vi)
 rintro σ' G' ⟨u,us,j,rfl,hj,uU,sS,sv,sq,bN,oH,cw⟩;refine⟨p,us,rfl,.inl ⟨ES.of bN,fun t ht=>?_⟩⟩;have s8:=jd ht (.tup us);refine q _ _ (uU.trans (uo.same s8)) (jK jc ?_);rw[cU];exact cw.mono s8
end
end LW
namespace L2
open PySem
open PySem PySem.Spec PyProof.Rows PySem.W
mutual
def D.py:D->PyData
 | .int i=>.int i
 | .str x=>.str x
 | .tup ds=>.tuple (D.pyL ds)
def D.pyL:List D->List PyData
 | []=>[]
 | d :: ds=>D.py d :: D.pyL ds
end
def sgn(d:D):List Nat:=d.py.shown.cps.toList
def jfU(i:Int):sgn (.int i)=(nj i).toList.map n8:=by show ((nj i:String):Str).cps.toList=_;rw[signs_ofString]
end L2
namespace LW
open PySem L2
def Rr(i:Int):Str:=aa (nj i)
def jkA(z:Str):z.length=z.cps.toList.length:=by simp[pI]
def jgc{m k:Nat}(hk:0 < k)(h:m < 10 ^ k):m.repr.toList.length<=k:=by have:=(ON (b:=10) N5 hk).mpr h;simpa[Nat.repr]using this
theorem Jm{i:Int}(h:i.natAbs < 10 ^ 20):(Rr i).length<=21:=by
 rw[jkA,show (Rr i).cps.toList=(nj i).toList.map n8 from jfU i,av]
 cases i with
 | ofNat m=>exact aw (jgc N5 (show m < 10 ^ 20 from h)) N5
 | negSucc m=>
  show ("-"++m.succ.repr).toList.length<=21;have:=jgc (m:=m.succ) (k:=20) N5 h;rw[ME,az];show 1+_<=21;omega
def qp(z:Str)(c:Int):Str:=if z=aa "" then Rr c else if 0 < c then z++aa " + "++Rr c else if c < 0 then z++aa " - "++Rr (-c) else z
variable {x y:Str}
theorem la{k m:Nat}(hx:x.length<=k)(hy:y.length<=m):(x++y).length<=k+m:=by rw[bK];omega
variable {n:Nat}
theorem QN(h:n < 10 ^ 20):n.log2 < 100:=by
 rcases OO n with rfl | hp
 .decide
 .exact (EZ N4).mpr (l_ h N5)
def jb6(z:Str):bC++z=z:=ye (by rw[tJ,ur];rfl)
variable {H:Hp}{Q:Str->Hp->Prop}
theorem SA{c:Str}{t:TJ}{σ:St}{out:Str}(ho:out.length<=n)(hc:c.length<=100)(hn:n<=800)(h:(out++c).length<=n+100->t σ H (out++c) Q):jgi (tC (.str c)) t σ H out Q:=⟨c,rfl,jU (aw (la ho hc) N4),h (la ho hc)⟩
theorem jfE{te:TE}{t:TJ}{σ:St}{out:Str}(ho:out.length<=n)(hx:x.length<=100)(hn:n<=800)(ht:∀q:VK,q (.str x) H->te σ H q)(h:(out++x).length<=n+100->t σ H (out++x) Q):jgi (jnl te) t σ H out Q:=ht _ ⟨x,rfl,jU (aw hx N5),x,rfl,jU (aw (la ho hx) N4),h (la ho hx)⟩
theorem jiE{te:TE}{i:Int}{t:TJ}{σ:St}{out:Str}(ho:out.length<=n)(hi:i.natAbs < 10 ^ 20)(hn:n<=800)(ht:∀q:VK,q (.int i) H->te σ H q)(h:(out++Rr i).length<=n+100->t σ H (out++Rr i) Q):jgi (jlN te) t σ H out Q:=ht _ ⟨i,rfl,l_ hi N5,_,rfl,jU (aw (la ho (aw (Jm hi) (by decide:21<=100))) N4),h (la ho (aw (Jm hi) N5))⟩
def Jd:Tm->Str
 | .is x=>if x=aa "" then aa "0" else x
 | .at_ r x d=>r++aa "["++qp x d++aa "]"
def zC(t:Tm)(c:Int):Str:=match t with
 | .is x=>qp x c
 | .at_ r x d=>qp (Jd (.at_ r x d)) c
def jbm(b:Bd)(c:Int):Str:=match b with
 | .is x=>qp x c
 | .row r=>qp (r++aa "[]") c
def R7:Tm->Prop
 | .is x=>x.length<=8
 | .at_ r x d=>r.length<=8/\x.length<=8/\d.natAbs < 10 ^ 20
def jna:Bd->Prop
 | .is x=>x.length<=8
 | .row r=>r.length<=8
variable {z:Str}{c:Int}
theorem qj(hz:z.length<=n)(hc:c.natAbs < 10 ^ 20):(qp z c).length<=n+24:=by
 have h1:=Jm hc;have h2:=Jm (i:=-c) N4;unfold qp;split
 .omega
 split
 .exact aw (la (la hz (show (aa " + ").length<=3 from N3)) h1) N4
 split
 .exact aw (la (la hz (show (aa " - ").length<=3 from N3)) h2) N4
 .omega
def KY{t:Tm}(h:R7 t):(Jd t).length<=45:=by
 cases t with
 | is x=>
  show (if x=aa "" then aa "0" else x).length<=45;split
  .decide +kernel
  .exact aw (show x.length<=8 from h) N5
 | at_ r x d=>
  obtain⟨h1,h2,h3⟩:=h;exact aw (la (la (la h1 (show (aa "[").length<=1 from N3)) (qj h2 h3)) (show (aa "]").length<=1 from N3)) N5
def Yp(x:Str)(d:Int)(y:Str)(e:Int)(r:Str):Str:=qp x d++aa " to "++qp y e++aa " "++r
def kb:Cl->Str
 | .least a b c=>Jd a++aa " >= "++zC b c
 | .rise x d y e r=>aa "rise "++Yp x d y e r
 | .each x d y e r aT b c=>aa "each "++Yp x d y e r++aa " "++aT++aa " "++jbm b c
def jlG(x:Str)(d:Int)(y:Str)(e:Int)(r:Str):Prop:=x.length<=8/\d.natAbs < 10 ^ 20/\y.length<=8/\e.natAbs < 10 ^ 20/\r.length<=8
def jm9:Cl->Prop
 | .least a b c=>R7 a/\R7 b/\c.natAbs < 10 ^ 20
 | .rise x d y e r=>jlG x d y e r
 | .each x d y e r aT b c=>jlG x d y e r/\aT.length<=8/\jna b/\c.natAbs < 10 ^ 20
def yc{t:Tm}(h:R7 t)(hc:c.natAbs < 10 ^ 20):(zC t c).length<=80:=by
 cases t with
 | is x=>exact aw (qj (show x.length<=8 from h) hc) N5
 | at_ r x d=>exact aw (qj (KY (t:=.at_ r x d) h) hc) N5
def jcd{b:Bd}(h:jna b)(hc:c.natAbs < 10 ^ 20):(jbm b c).length<=80:=by
 cases b with
 | is x=>exact aw (qj (show x.length<=8 from h) hc) N5
 | row r=>exact aw (qj (la (show r.length<=8 from h) (show (aa "[]").length<=2 from N3)) hc) N5
variable {d:Int}
def KI{r:Str}{e:Int}(h:jlG x d y e r):(Yp x d y e r).length<=100:=by obtain⟨h1,h2,h3,h4,h5⟩:=h;exact aw (la (la (la (la (qj h1 h2) (show (aa " to ").length<=4 from N3)) (qj h3 h4)) (show (aa " ").length<=1 from N3)) h5) N5
abbrev jio:ay:=NS 64
abbrev jcA:ay:=NS 65
def Ss(d:Int):Str:=if d=0 then aa "" else (if d < 0 then aa " - " else aa " + ")++Rr (Rq d)
def jhU(z:Str):z++aa "" = z:=ye (by rw[tJ,ur];exact bE _)
def jcj(x y z:Str):x++y++z=x++(y++z):=ye (by simp only[tJ,ur,bq])
theorem jcX(h:¬x=aa "")(d:Int):x++Ss d=qp x d:=by
 unfold Ss qp Rq;rw[PN h];by_cases h0:d=0
 .rw[PP h0,PN N4,PN N4,jhU]
 rw[PN h0];by_cases h1:d < 0
 .rw[PP h1,PP h1,PN N4,PP h1,jcj]
 .rw[PN h1,PN h1,PP N4,jcj]
theorem jfC(h:d.natAbs < 10 ^ 20):(Rq d).natAbs < 10 ^ 20:=by unfold Rq;split <;> omega
def jfa(h:d.natAbs < 10 ^ 20):(Ss d).length<=24:=by
 unfold Ss;split
 .decide +kernel
 .refine aw (la (k:=3) ?_ (Jm (jfC h))) N5
  split <;> decide +kernel
def jmf:Sp:=fun vs H Q _=>∃(d:Int),vs=[.int d]/\d.natAbs < 10 ^ 20/\∀H',ML H H'->Q (.str (Ss d)) H'
def jay:Sp:=fun vs H Q _=>∃(v:V) (x:Str) (d:Int),vs=[v]/\Na H (Q4 x d) v/\x.length<=8/\d.natAbs < 10 ^ 20/\∀H',ML H H'->Q (.str (qp x d)) H'
variable {P:aC}{w:ax}{K:ao}{mg:Str->Option ae}{base:ak}{f:ac}{fd:aE}
section
def jnC(F:Fun K "_law_more" "_law_more" jio f fd)(B:Ni mg):MT P w K mg base PU 1 f fd MY jmf:=by
 have sc:tS MY MY (jo jio):=fQ;refine F.okZ sc (fun aB A iw s H vs Q E hr h=>?_);obtain⟨d,rfl,hd,q⟩:=h;refine⟨_,(ja (jR (jx j6 (bB 0) je (jA _)) (jg (jy jb)) jH) (jg (jy (jn jw (js jQ (jI (jj jb jb)) (kJ Js N9 B.int_ JI (jp (ki Se (bB 0) je (jA _))))) (kJ Zl N9 B.str_ jj5 (jp (j7 jbk N9 B.abs_ jfz (jp (bB 0))))))))),?_⟩
 refine kK ?_;unfold Ss at q;refine Pp rfl ⟨rfl,Pp rfl (kW (fun z=>?_) (fun z=>?_))⟩
 .have z':d=0:=by have:=PK z;injection this
  rw[PP z']at q;exact q _ (fun _ _ e=>e)
 .rw[PN (fun h=>z (PL (PR V.int h)))]at q
  refine⟨sm rfl,fun p hp=>(Pp rfl (Pq rfl rfl (.inr (Pp rfl ⟨p,_,_,.str (if d < 0 then aa " - " else aa " + "),rfl,rfl,ES.of jc,?_,?_⟩))))⟩
  .by_cases h:d < 0
   .rw[PL h,PP rfl,PP h];rfl
   .rw[PM h,PN aU,PN h];rfl
  .refine Ps rfl rfl (Pp rfl ⟨l_ (QN (jfC hd)) N5,Pq rfl rfl ⟨jU ?_,q _ (jd hp _)⟩⟩)
   have:=Jm (jfC hd);refine aw (bD (show _<=3 by split <;> decide +kernel) this) N5
def jg5(F:Fun K "_law_place_text" "_law_place_text" jcA f fd)(B:Ni mg)(lK:Fn P w K mg base 1 "_law_more" MY jmf):MT P w K mg base PU 2 f fd EU jay:=by
 have sc:tS ["_law_place_here","_law_x","_law_d"] EU (jo jcA):=fQ;refine F.okZ sc (fun aB A iw s H vs Q E hr h=>?_);obtain⟨v,x,d,rfl,hv,hx,hd,q⟩:=h;refine⟨_,(ja (kz (bB 0) (kB rfl (jv (jt 1 sc.nd) (jv (jt 2 sc.nd) kj)))) (ja (jR (jx j6 (bB 1) jb (jA _)) (jg (jy (kJ Zl N9 B.str_ jj5 (jp (bB 2))))) jH) (jg (jy (jn jw (bB 1) (jB lK hr (jp (bB 2)))))))),?_⟩
 obtain⟨a,rfl,ha⟩:=Ys hv;refine kK ?_;refine Pp rfl (Pq rfl (Nu.of ha) ⟨rfl,_,Pp rfl (Pq rfl rfl ?_)⟩);refine gQ ?_;refine Pp rfl ⟨rfl,Pp rfl (kW (fun z=>?_) (fun z=>?_))⟩
 .have z':x=aa "":=by have:=PK z;injection this
  refine Pp rfl ⟨d,rfl,l_ (QN hd) N5,?_⟩;have q:=q _ (fun _ _ e=>e);rw[show qp x d=Rr d by unfold qp;rw[PP z']]at q;exact q
 .have z':¬x=aa "":=fun h=>z (PL (PR V.str h))
  refine Ps rfl rfl ⟨d,rfl,hd,fun H1 s1=>(Pq rfl rfl ⟨jU (aw (bD hx (jfa hd)) N5),?_⟩)⟩;rw[jcX z'];exact q _ s1
end
abbrev jeG:ay:=NS 66
def jaT(h:0 < z.length):¬z=aa "":=fun e=>by rw[e]at h;exact absurd h N3
theorem jcN(h:0 < y.length):0 < (x++y).length:=by rw[bK];omega
def jlY(z:Str)(h:¬z=aa ""):qp z 0=z:=by unfold qp;rw[PN h,PN N5,PN N5]
def jlJ(t:Tm):zC t 0=Jd t:=by
 cases t with
 | is x=>
  show qp x 0=if x=aa "" then aa "0" else x
  by_cases h:x=aa ""
  .rw[PP h,h];decide +kernel
  .rw[PN h,jlY x h]
 | at_ r x d=>exact jlY _ (jaT (jcN N3))
def Z7:Sp:=fun vs H Q _=>∃(v:V) (c:Int) (z:Str),vs=[v,.int c]/\c.natAbs < 10 ^ 20/\((∃t,Na H t.toD v/\R7 t/\z=zC t c)\/∃b,Na H b.toD v/\jna b/\z=jbm b c)/\∀H',ML H H'->Q (.str z) H'
section
def jiV(F:Fun K "_law_term_text" "_law_term_text" jeG f fd)(lK:Fn P w K mg base 1 "_law_more" MY jmf)(iP:Fn P w K mg base 2 "_law_place_text" EU jay):MT P w K mg base PU 3 f fd MV Z7:=by
 have sc:tS MV MV (jo jeG):=fQ;refine F.okZ sc (fun aB A iw s H vs Q E hr h=>?_);obtain⟨v,c,z,rfl,hc,hv,q⟩:=h;refine⟨_,(ja (jR (jx j6 (js j0 (bB 0) je) jb (jA _)) (jg (jy (jB iP hr (jp (jG (jj (js j0 (bB 0) je) (bB 1))))))) jH) (ja (jR (jx j6 (js j0 (bB 0) je) jb (jA _)) (jg (jy (jn jw (jn jw (js j0 (bB 0) je) jb) (jB lK hr (jp (bB 1)))))) jH) (jg (jy (jn jw (jn jw (jn jw (jn jw (js j0 (bB 0) je) jb) (jB iP hr (jp (js j0 (bB 0) je)))) jb) (jB lK hr (jp (bB 1)))))))),?_⟩
 refine kK ?_;have l1:(aa "[").length<=1:=by decide +kernel
 have l2:(aa "]").length<=1:=by decide +kernel
 have l3:(aa "[]").length<=2:=by decide +kernel
 have Hf:(∃x:Str,Na H (.tup [.str "is",.str x]) v/\x.length<=8/\z=qp x c)\/(∃r:Str,Na H (.tup [.str "row",.str r]) v/\r.length<=8/\z=qp (r++aa "[]") c)\/∃r x d,Na H (Tm.at_ r x d).toD v/\R7 (.at_ r x d)/\z=qp (Jd (.at_ r x d)) c:=by
  rcases hv with⟨t,h1,h2,h3⟩ | ⟨b,h1,h2,h3⟩
  .cases t with
   | is x=>exact .inl ⟨x,h1,h2,h3⟩
   | at_ r x d=>exact .inr (.inr ⟨r,x,d,h1,h2,h3⟩)
  .cases b with
   | is x=>exact .inl ⟨x,h1,h2,h3⟩
   | row r=>exact .inr (.inl ⟨r,h1,h2,h3⟩)
 rcases Hf with⟨x,hx,hl,rfl⟩ | ⟨r,hx,hl,rfl⟩ | ⟨r,x,d,hx,hl,rfl⟩
 .obtain⟨a,rfl,ha⟩:=JT hx
  refine Pp rfl (Pj 0 ha rfl ⟨rfl,Pp rfl (k9 ?_)⟩);refine Pp rfl (Pj 1 ha rfl (Pp rfl ⟨sm rfl,fun p hp=>?_⟩));have s1:=jd hp (.tup [.str x,.int c]);exact⟨.ref p,x,c,rfl,jK jc (jf jD (jf kL jF)),hl,hc,fun H2 s2=>q _ (s1.trans s2)⟩
 .obtain⟨a,rfl,ha⟩:=JT hx
  refine Pp rfl (Pj 0 ha rfl ⟨rfl,Pp rfl (kT ?_)⟩);refine Pp rfl (Pj 0 ha rfl ⟨rfl,Pp rfl (k9 ?_)⟩);refine Pp rfl (Pj 1 ha rfl (Pq rfl rfl ⟨jU (aw (bD hl l3) N5),Pp rfl ⟨c,rfl,hc,fun H1 s1=>(Pq rfl rfl ⟨jU (aw (bD (la hl l3) (jfa hc)) N5),?_⟩)⟩⟩));rw[jcX (jaT (jcN N3))];exact q _ s1
 .obtain⟨a,b,rfl,ha,hb⟩:=jkb hx
  obtain⟨h1,h2,h3⟩:=hl;(iterate 2 refine Pp rfl (Pj 0 ha rfl ⟨rfl,Pp rfl (kT ?_)⟩));refine Pp rfl (Pj 1 ha rfl (Pq rfl rfl ⟨jU (aw (bD h1 l1) N5),Pp rfl (Pj 2 ha rfl ⟨.ref b,x,d,rfl,jK hb (jf jD (jf kL jF)),h2,h3,fun H1 s1=>(Pq rfl rfl ⟨jU (aw (bD (la h1 l1) (qj h2 h3)) N5),Pq rfl rfl ⟨jU (aw (bD (la (la h1 l1) (qj h2 h3)) l2) N5),Pp rfl ⟨c,rfl,hc,fun H2 s2=>(Pq rfl rfl ⟨jU (aw (bD (la (la (la h1 l1) (qj h2 h3)) l2) (jfa hc)) N5),?_⟩)⟩⟩⟩)⟩)⟩));rw[jcX (jaT (jcN N3))];exact q _ (s1.trans s2)
end
abbrev jcH:ay:=NS 67
def JW:Sp:=fun vs H Q _=>∃(v:V) (C:Cl),vs=[v]/\Na H C.toD v/\jm9 C/\∀H',ML H H'->Q (.str (kb C)) H'
section
def jhf(F:Fun K "_law_claim_text" "_law_claim_text" jcH f fd)(iP:Fn P w K mg base 2 "_law_place_text" EU jay)(eB:Fn P w K mg base 3 "_law_term_text" MV Z7):MT P w K mg base PU 4 f fd M3 JW:=by
 have sc:tS ["_law_claim_here","_law_span"] M3 (jo jcH):=fQ;refine F.okZ sc (fun aB A iw s H vs Q E hr h=>?_);obtain⟨v,C,rfl,hv,hC,q⟩:=h;refine⟨_,(ja (jR (jx j6 (js j0 (bB 0) je) jb (jA _)) (jg (jy (jn jw (jn jw (jB eB hr (jj (js j0 (bB 0) je) je)) jb) (jB eB hr (jj (js j0 (bB 0) je) (js j0 (bB 0) je)))))) jH) (ja (jh 1 sc.nd (jn jw (jn jw (jB iP hr (jp (js j0 (bB 0) je))) jb) (jB iP hr (jp (js j0 (bB 0) je))))) (ja (jh 1 sc.nd (jn jw (jn jw (bB 1) jb) (js j0 (bB 0) je))) (ja (jR (jx j6 (js j0 (bB 0) je) jb (jA _)) (jg (jy (jn jw jb (bB 1)))) jH) (jg (jy (jn jw (jn jw (jn jw (jn jw (jn jw jb (bB 1)) jb) (js j0 (bB 0) je)) jb) (jB eB hr (jj (js j0 (bB 0) je) (js j0 (bB 0) je)))))))))),?_⟩
 refine kK ?_
 try dsimp only[qF]
 refine K4 ?_;intro _ _ _ _;have l1:(aa " >= ").length<=4:=by decide +kernel
 have l2:(aa " to ").length<=4:=by decide +kernel
 have l3:(aa " ").length<=1:=by decide +kernel
 have l4:(aa "rise ").length<=5:=by decide +kernel
 have l5:(aa "each ").length<=5:=by decide +kernel
 cases C with
 | least x y c=>
  obtain⟨t,vx,vy,rfl,ht,hx,hy⟩:=jhs hv;obtain⟨h1,h2,h3⟩:=hC;have hA:=KY h1;have hB:=yc h2 h3;refine Pp rfl (Pj 0 ht rfl ⟨rfl,Pp rfl (k9 ?_)⟩);refine Pp rfl (Pj 1 ht rfl ⟨vx,0,Pp rfl ⟨N5,.inl ⟨x,hx,h1,rfl⟩,fun H1 s1=>?_⟩⟩);rw[jlJ];refine Pq rfl rfl ⟨jU (aw (bD hA l1) N5),Pp rfl (Pj 2 (s1 _ _ ht) rfl (Pp rfl (Pj 3 (s1 _ _ ht) rfl ⟨vy,c,Pp rfl ⟨h3,.inl ⟨y,hy.mono s1,h2,rfl⟩,fun H2 s2=>(Pq rfl rfl ⟨jU (aw (bD (la hA l1) hB) N5),q _ (s1.trans s2)⟩)⟩⟩)))⟩
 | rise x d y e r=>
  obtain⟨t,a,b',rfl,ht,ha,hb⟩:=jix hv;have sk:jlG x d y e r:=hC;obtain⟨r1,r2,r3,r4,r5⟩:=hC;have hR:=KI sk;have m1:=qj r1 r2;have m2:=qj r3 r4;refine Pp rfl (Pj 0 ht rfl ⟨rfl,Pp rfl (kT ?_)⟩);refine Pp rfl (Pj 1 ht rfl ⟨.ref a,x,d,rfl,jK ha (jf jD (jf kL jF)),r1,r2,fun H1 s1=>(Pq rfl rfl ⟨jU (aw (bD m1 l2) N5),Pp rfl (Pj 2 (s1 _ _ ht) rfl ⟨.ref b',y,e,rfl,jK (s1 _ _ hb) (jf jD (jf kL jF)),r3,r4,fun H2 s2=>(Pq rfl rfl ⟨jU (aw (bD (la m1 l2) m2) N5),?_⟩)⟩)⟩)⟩);have bR:=s1.trans s2;refine gQ ?_;refine Pp rfl (Pq rfl rfl ⟨jU (aw (bD (la (la m1 l2) m2) l3) N5),Pp rfl (Pj 3 (bR _ _ ht) rfl (Pq rfl rfl ⟨jU (aw (bD (la (la (la m1 l2) m2) l3) r5) N5),?_⟩))⟩);refine gQ ?_;refine Pp rfl (Pj 0 (bR _ _ ht) rfl ⟨rfl,Pp rfl (k9 ?_)⟩);exact Pp rfl (Pq rfl rfl ⟨jU (aw (bD l4 hR) N5),q _ bR⟩)
 | each x d y e r aT b c=>
  obtain⟨t,a,b',vb,rfl,ht,ha,hb,IM⟩:=jjR hv;have IN:Na H b.toD (.ref vb):=by cases b <;> exact jK IM (jf jD (jf jD jF))
  obtain⟨sk,hw,hB,hc⟩:=hC;have IY:=sk;obtain⟨r1,r2,r3,r4,r5⟩:=IY;have hR:=KI sk;have m1:=qj r1 r2;have m2:=qj r3 r4;have Co:=jcd hB hc;refine Pp rfl (Pj 0 ht rfl ⟨rfl,Pp rfl (kT ?_)⟩);refine Pp rfl (Pj 1 ht rfl ⟨.ref a,x,d,rfl,jK ha (jf jD (jf kL jF)),r1,r2,fun H1 s1=>(Pq rfl rfl ⟨jU (aw (bD m1 l2) N5),Pp rfl (Pj 2 (s1 _ _ ht) rfl ⟨.ref b',y,e,rfl,jK (s1 _ _ hb) (jf jD (jf kL jF)),r3,r4,fun H2 s2=>(Pq rfl rfl ⟨jU (aw (bD (la m1 l2) m2) N5),?_⟩)⟩)⟩)⟩);have bR:=s1.trans s2;refine gQ ?_;refine Pp rfl (Pq rfl rfl ⟨jU (aw (bD (la (la m1 l2) m2) l3) N5),Pp rfl (Pj 3 (bR _ _ ht) rfl (Pq rfl rfl ⟨jU (aw (bD (la (la (la m1 l2) m2) l3) r5) N5),?_⟩))⟩);refine gQ ?_;refine Pp rfl (Pj 0 (bR _ _ ht) rfl ⟨rfl,Pp rfl (kT ?_)⟩);refine Pp rfl (Pq rfl rfl ⟨jU (aw (bD l5 hR) N5),Pq rfl rfl ⟨jU (aw (bD (la l5 hR) l3) N5),Pp rfl (Pj 4 (bR _ _ ht) rfl (Pq rfl rfl ⟨jU (aw (bD (la (la l5 hR) l3) hw) N5),Pq rfl rfl ⟨jU (aw (bD (la (la (la l5 hR) l3) hw) l3) N5),Pp rfl (Pj 5 (bR _ _ ht) rfl (Pp rfl (Pj 6 (bR _ _ ht) rfl ⟨.ref vb,c,Pp rfl ⟨hc,.inr ⟨b,IN.mono bR,hB,rfl⟩,fun H3 s3=>(Pq rfl rfl ⟨jU (aw (bD (la (la (la (la l5 hR) l3) hw) l3) Co) N5),q _ (bR.trans s3)⟩)⟩⟩)))⟩⟩))⟩⟩)
end
open PySem L2 PySem.NumText PySem.StrLaws PySem.Builtin.Str PyProof.Rows
theorem Zs(z y:Str):Er z y=(cd y).isPrefixOf (cd z):=by
 unfold Er;rw[subAt_eq];rw[dZ,bg,decide_eq_true_eq,beq_iff_eq,pX,O0,jY];constructor
 .rintro⟨h1,h2⟩
  exact h2.symm
 .intro h
  have h3:=PR fE h;rw[cq,jY,jY]at h3;exact⟨N4,h.symm⟩
theorem jgs(z y:Str):Es z y=(cd y).isSuffixOf (cd z):=by
 unfold Es;rw[subAt_eq];rw[dZ,bg,decide_eq_true_eq,beq_iff_eq,Fe,List.suffix_iff_eq_drop,jY,jY];constructor
 .rintro⟨h1,h2⟩
  rw[ip (by rw[eF,show z.cps.toList.length=z.length from jY z];omega)]at h2;exact h2.symm
 .intro h
  have h3:=PR fE h;rw[eF,jY,jY]at h3;refine⟨N4,?_⟩;rw[ip (by rw[eF,show z.cps.toList.length=z.length from jY z];omega)];exact h.symm
def jcM{c:Nat}{l:List Nat}:[c].isPrefixOf l=(l.head? == some c):=by
 cases l with
 | nil=>rfl
 | cons a l=>
  show (c == a && true)=(some a == some c);rw[Av,dZ,beq_iff_eq,beq_iff_eq,Option.some.injEq];exact⟨Eq.symm,Eq.symm⟩
def jkz{c:Nat}{l:List Nat}:[c].isSuffixOf l=(l.getLast? == some c):=by rw[List.isSuffixOf,show [c].reverse=[c] from rfl,jcM,List.head?_reverse]
def jnQ(h:cd y≠[]):(!(occurrences x y 0 x.length 1).isEmpty)=(kZ (cd y) (cd x)).isSome:=by
 rw[jje h]
 cases kZ (cd y) (cd x) <;> rfl
theorem jj0(z:Str):cd (Jb z (some 1) none)=(cd z).tail:=by
 show (Jb z (some 1) none).cps.toList=_;rw[zV,ip]
 .show Fj (min 1 z.length) (cd z)=_
  rw[<- uh,<- jY];rcases gf (cd z).length 1 with h | h
  .rw[p_ N4,p_ N4]
  .rw[fz h]
 .rw[eF,show z.cps.toList.length=z.length from jY z]
  exact aK _
theorem jeg(z:Str)(k:Nat)(hk:0 < k):cd (Jb z none (some (-(k:Int))))=(cd z).take ((cd z).length - k):=by
 show (Jb z none (some (-(k:Int)))).cps.toList=_;rw[zV];have:HT.sIx z.length z.length (some (-(k:Int)))=z.length - k:=by show (if (-(k:Int)) < 0 then ((-(k:Int))+(z.length:Int)).toNat else _)=_;rw[PP N4];omega
 rw[this];show List.take (z.length - k - 0) (Fj 0 (cd z))=_;rw[p0,jY];rfl
def asc:fu z=true↔∀c∈cd z,c < 128:=by unfold fu;rw[<- Ax,c_];exact⟨fun h c hc=>PK (h c hc),fun h c hc=>PL (h c hc)⟩
def jgu:∀c,c < 128->NP c=yI c:=N3
def jep:∀c,c < 128->(xS c && !(En c || Eo c))=yF c:=N3
def jlk:∀c,c < 128->yF c=true->NO c=true:=N3
def jb5(z:Str):decide (z.length > 0)=!(cd z).isEmpty:=by
 rw[<- jY]
 cases cd z <;> rfl
theorem jmR(z:Str):yh (cd z)=(fu z && (xT z && (decide (z.length<=19) && (decide (z=aa "0") || !Txt.startswith z (aa "0"))))):=by
 have e1:decide (z=aa "0")=(cd z == [48]):=by rw[dZ,decide_eq_true_eq,beq_iff_eq];exact⟨fun h=>by rw[h];rfl,fun h=>JH (by rw[h];rfl)⟩
 rw[Zs,e1,show cd (aa "0")=[48] from rfl,jcM];unfold yh xT;rw[jb5,jY]
 cases ha:fu z with
 | true=>
  have:=asc.mp ha;have e:z.cps.all NP=(cd z).all yI:=by rw[<- Ax,dZ,c_,c_];exact⟨fun h c hc=>by rw[<- jgu c (this c hc)];exact h c hc,fun h c hc=>by rw[jgu c (this c hc)];exact h c hc⟩
  rw[e];simp only[gk,Py]
 | false=>
  have:(cd z).all yI=false:=by
   cases e:(cd z).all yI with
   | false=>rfl
   | true=>
    have h:=c_.mp e;have:fu z=true:=asc.mpr fun c hc=>by have:=h c hc;unfold yI at this;simp only[bg,decide_eq_true_eq]at this;omega
    rw[this]at ha
    cases ha
  rw[this];simp
theorem jli(z:Str):j5 (cd z)=(((fu z && (nH z && nG z)) && (decide (z.length<=8) && !decide (z∈zH)))):=by
 have e1:decide (z∈zH)=(zH.map cd).contains (cd z):=by rw[dZ,decide_eq_true_eq,uj,fD];exact⟨fun h=>⟨z,h,rfl⟩,fun⟨y,h,e⟩=>by rw[<- JH e];exact h⟩
 rw[e1,<- jY];unfold j5;have e2:(!(cd z).isEmpty && (cd z).all yF)=(fu z && (nH z && nG z)):=by
  unfold nH nG;rw[jb5]
  cases ha:fu z with
  | true=>
   have:=asc.mp ha;rw[<- Ax,<- PJ,<- PJ,gk];show _=(!(cd z).isEmpty && (cd z).all xS && ((cd z).any NO && !(cd z).any _))
   cases hl:cd z with
   | nil=>rfl
   | cons a l=>
    rw[hl]at this;show (true && (a :: l).all yF)=(true && (a :: l).all xS && _);rw[gk,gk,dZ,bg,bg,c_,c_,List.any_eq_true,fG,Pm];constructor
    .intro h
     have g:∀c∈a :: l,(xS c && !(En c || Eo c))=true:=fun c hc=>by rw[jep c (this c hc)];exact h c hc
     refine⟨fun c hc=>((bg _ _).mp (g c hc)).1,⟨a,aJ ..,jlk a (this a (aJ ..)) (h a (aJ ..))⟩,fun c hc z=>?_⟩;have:=((bg _ _).mp (g c hc)).2;rw[z]at this
     cases this
    .rintro⟨h1,_,h3⟩ c hc
     rw[<- jep c (this c hc),h1 c hc];have:=h3 c hc
     cases hu:(En c || Eo c) with
     | false=>rfl
     | true=>exact absurd hu this
  | false=>
   have:(cd z).all yF=false:=by
    cases e:(cd z).all yF with
    | false=>rfl
    | true=>
     have h:=c_.mp e;have:fu z=true:=asc.mpr fun c hc=>by have:=h c hc;unfold yF at this;simp only[bg,decide_eq_true_eq]at this;omega
     rw[this]at ha
     cases ha
   rw[this];simp
 rw[e2,Py]
def ya{X:Cx}:zO X (.type "int") (fun xs H Q=>∃z n,xs=[.str z]/\intText? z=some n/\z.length<=640/\Q (.int n) H):=by intro ad s σ H xs us Q I r h;obtain⟨z,n,rfl,hn,hl,q⟩:=h;obtain⟨u,rfl,t,rfl⟩:=zB r;exact PySem.W.KIN.call_text hn hl ⟨.int n,H,I.tok _,⟨_,rfl⟩,q⟩
def jan{l:List Nat}(h:yh l=true):AllDigits l/\l≠[]/\l.length<=19:=by
 have h1:=jgq h;refine⟨fun c hc=>?_,?_,?_⟩
 .have:=h1 c hc
  unfold yI at this;simpa only[bg,decide_eq_true_eq]using this
 .rintro rfl
  cases h
 .unfold yh at h
  simp only[bg,decide_eq_true_eq]at h;exact h.1.2
theorem jc0(h:Yw (cd z)=true):intText? z=some (RK (cd z))/\z.length<=640:=by
 unfold Yw at h;unfold RK;split at h
 .rename_i e
  rw[PP e];obtain⟨h1,h2⟩:=(bg _ _).mp h;obtain⟨k1,k2,k3⟩:=jan h1;have e2:cd z=45 :: (cd z).tail:=by
   cases hz:cd z with
   | nil=>rw[hz]at e;cases e
   | cons a l=>rw[hz]at e;cases e;rfl
  have hl:z.length<=20:=by rw[<- jY,e2,aM];omega
  exact⟨intText_neg e2 k1 k2 N4,N4⟩
 .rename_i e
  rw[PN e];obtain⟨k1,k2,k3⟩:=jan h;rw[jY]at k3;exact⟨intText_digits k1 k2 N4,N4⟩
theorem jc2{cs:List Nat}(hx:cd x=43 :: cs)(h:AllDigits cs)(h1:cs≠[])(h2:x.length<=4300):intText? x=some ((digitsVal cs:Nat):Int):=by
 have hs:∀c∈cd x,c=43\/(48<=c/\c<=57):=by
  rw[hx];intro c hc;rcases aA.mp hc with e | hc
  .exact Or.inl e
  .exact Or.inr (h c hc)
 have e1:numTextOf x=cd x:=by refine PP ?_;rw[<- Ax,c_];intro c hc;have:=hs c hc;exact PL N4
 have e2:numSeenOf x=cd x:=by
  show (numTextOf x).takeWhile _=_;rw[e1];refine NumText.takeWhile_all fun c hc=>?_
  have:=hs c hc;exact bne_iff_ne.mpr N4
 have hl:(cd x).length=x.length:=jY x;unfold intText?;rw[e1,e2,PP (beq_self_eq_true _),hx];rw[hx,aM]at hl;have es:sign ((43 :: cs).dropWhile blank)=(false,cs):=by rw[dropWhile_of N5];rfl
 have ec:core (43 :: cs)=cs:=by unfold core;rw[es];show (cs.reverse.dropWhile blank).reverse=cs;rw[dropWhile_digits h.reverse,E6]
 rw[ec,es,digits_of h h1];have hsz:=push_size cs #[];have hv:=push_foldl cs #[];show (if _<=4300 then some (worth false _) else none)=_;rw[PP (by rw[hsz];simp only[Array.size_empty];omega)];unfold worth digitsVal;rw[hv];rfl
theorem jiD{f:Str}(h:yh (cd f)=true)(hz:cd z=43 :: cd f):intText? z=some ((digitsVal (cd f):Nat):Int)/\z.length<=640:=by
 obtain⟨k1,k2,k3⟩:=jan h;have hl:z.length<=20:=by rw[<- jY,hz,aM];omega
 exact⟨jc2 hz k1 k2 N4,N4⟩
theorem jhr{f:Str}(h:yh (cd f)=true)(hz:cd z=45 :: cd f):intText? z=some (-((digitsVal (cd f):Nat):Int))/\z.length<=640:=by
 obtain⟨k1,k2,k3⟩:=jan h;have hl:z.length<=20:=by rw[<- jY,hz,aM];omega
 exact⟨intText_neg hz k1 k2 N4,N4⟩
open PyProof.Rows hiding St
abbrev Ka:ay:=NS 45
abbrev Ym:ay:=NS 44
abbrev jaF:ay:=NS 43
def sz(h:z.length<=1000):z.length<=aF:=aw h N5
def Kx{ta tb:TE}{σ:L2.St}{Q:VK}{b c:Bool}(ha:∀q:VK,q (.bl b) H->ta σ H q)(hb:∀q:VK,q (.bl c) H->tb σ H q)(h:Q (.bl (b && c)) H):jlO ta tb σ H Q:=ha _ ⟨b,rfl,by
 cases b with
 | true=>exact k9 (hb _ h)
 | false=>exact kT h⟩
def jih:Sp:=fun vs H Q _=>∃z:Str,vs=[.str z]/\z.length<=1000/\Q (.bl (yh (cd z))) H
def jfQ:Sp:=fun vs H Q _=>∃z:Str,vs=[.str z]/\z.length<=1000/\Q (.bl (Yw (cd z))) H
def jdv:Sp:=fun vs H Q _=>∃z:Str,vs=[.str z]/\z.length<=1000/\Q (.bl (j5 (cd z))) H
section
theorem jmB{t9:Tok}(F:Fun K "is_figures" "is_figures" Ka f fd)(B:Ni mg)(w4:mg "MOST_FIGURES" = some (.int 19 t9)):MT P w K mg base PU 1 f fd Nz jih:=by
 have sc:tS Nz Nz (jo Ka):=fQ;refine F.okZ sc (fun aB A iw s H vs Q E hr h=>?_);obtain⟨z,rfl,hz,q⟩:=h;refine⟨_,(ja (jR (yS (YH (qA (Ju bi Oc Oa jaX (bB 0)))) (yS (YH (qA (Ju bi PySem.F.slot_str_isdigit PySem.F.type_str_isdigit je4 (bB 0)))) (Jt (jx Kj (j7 zd N9 B.len_ ku (jp (bB 0))) (zz (v:=.int 19) N9 w4 ⟨_,rfl⟩) (jA _))))).pt (jg (jy jap)) jH) (jg (jy (Zo (ki j6 (bB 0) jb (jA _)) (qu (jkl (jV bi EA Ez y0 (bB 0) (jp jb)))))))),?_⟩
 refine kK ?_;rw[jmR]at q;refine Pp rfl ⟨rfl,z,rfl,rfl,Pp rfl ?_⟩
 cases ha:fu z with
 | false=>
  rw[ha]at q;exact k9 (k9 q)
 | true=>
 rw[ha]at q;refine kT ⟨_,rfl,rfl,z,rfl,rfl,_,rfl,?_⟩
 cases hb:xT z with
 | false=>
  rw[hb]at q;exact k9 (k9 q)
 | true=>
 rw[hb]at q;refine kT ⟨_,rfl,z,rfl,sz hz,_,_,rfl,rfl,_,rfl,kW (fun d=>?_) (fun d=>?_)⟩
 .have d':=PK d
  rw[PM (show ¬z.length<=19 from N4)]at q;exact q
 have d':¬((19:Int) < (z.length:Int)):=fun h=>d (PL h)
 rw[PL (show z.length<=19 from N4)]at q;refine Pp rfl ⟨rfl,Pp rfl ?_⟩;rw[show decide (V.str z=V.str (aa "0"))=decide (z=aa "0") from by rw[dZ,decide_eq_true_eq,decide_eq_true_eq];exact⟨fun h=>by injection h,PR V.str⟩]
 cases hc:decide (z=aa "0") with
 | true=>
  rw[hc]at q;exact k9 q
 | false=>
  rw[hc]at q;exact kT ⟨_,rfl,rfl,z,_,rfl,rfl,_,rfl,q⟩
def jmz(F:Fun K "is_number" "is_number" Ym f fd)(lL:Fn P w K mg base 1 "is_figures" Nz jih):MT P w K mg base PU 2 f fd Nz jfQ:=by
 have sc:tS Nz Nz (jo Ym):=fQ;refine F.okZ sc (fun aB A iw s H vs Q E hr h=>?_);obtain⟨z,rfl,hz,q⟩:=h;refine⟨_,(ja (jR (qA (jV bi EA Ez y0 (bB 0) (jp jb))) (jg (jy (qR (jB lL hr (jp (kq Zt (bB 0) (kE je) kF))) (qu (ki SE (bB 0) jb (jA _)))))) jH) (jg (jy (jB lL hr (jp (bB 0)))))),?_⟩
 refine kK ?_;unfold Yw at q;refine Pp rfl ⟨rfl,z,Pp rfl ⟨rfl,Pp rfl ?_⟩⟩;rw[Zs,show cd (aa "-")=[45] from rfl,jcM];refine kW (fun d=>?_) (fun d=>?_)
 .have d':(cd z).head?=some 45:=by simpa using d
  rw[PP d']at q;refine Ps rfl rfl ⟨z,rfl,sz hz,Pp rfl ⟨aw (KW z _ _) hz,?_⟩⟩;rw[jj0]
  cases hf:yh (cd z).tail with
  | false=>rw[hf]at q;exact Pp rfl (kT q)
  | true=>
   rw[hf]at q;refine Pp rfl (k9 (Pp rfl ⟨rfl,?_⟩));have e:decide (V.str z=V.str (aa "-0"))=((cd z).tail == [48]):=by
    rw[dZ,decide_eq_true_eq,beq_iff_eq];constructor
    .intro h
     injection h with h;rw[h];rfl
    .intro h
     have:cd z=[45,48]:=by
      cases hl:cd z with
      | nil=>rw[hl]at d';cases d'
      | cons a l=>rw[hl]at d' h;cases d';cases h;rfl
     exact PR V.str (JH (this.trans rfl))
   rw[e];exact q
 .have d':¬(cd z).head?=some 45:=by simpa using d
  rw[PN d']at q;exact Pp rfl ⟨z,rfl,hz,q⟩
theorem jhe{t8:Tok}{aW:ac}(F:Fun K "is_name" "is_name" jaF f fd)(B:Ni mg)(wZ:mg "MOST_LETTERS" = some (.int 8 t8))(wY:mg "WORDS" = some (.ref aW))(wV:∀H,Nu K H aW (zH.map V.str)):MT P w K mg base PU 1 f fd Nz jdv:=by
 have sc:tS ["text","small"] Nz (jo jaF):=fQ;refine F.okZ sc (fun aB A iw s H vs Q E hr h=>?_);obtain⟨z,rfl,hz,q⟩:=h;refine⟨_,(ja (jh 1 sc.nd (qR (Ju bi Oc Oa jaX (bB 0)) (qR (Ju bi PySem.F.slot_str_isalpha PySem.F.type_str_isalpha je5 (bB 0)) (qu (Ju bi PySem.F.slot_str_islower PySem.F.type_str_islower je3 (bB 0)))))) (jg (jy (qR (bB 1) (qR (ki jlV (j7 zd N9 B.len_ ku (jp (bB 0))) (zz (v:=.int 8) N9 wZ ⟨_,rfl⟩) (jA _)) (qu (ki Y1 (bB 0) (zz (v:=.ref aW) N9 wY rfl) rfl))))))),?_⟩
 refine kK ?_;rw[jli]at q;refine Kx (b:=fu z) (c:=nH z && nG z) (fun q h=>⟨_,rfl,rfl,z,rfl,rfl,h⟩) (fun q h=>Kx (b:=nH z) (c:=nG z) (fun q h=>⟨_,rfl,rfl,z,rfl,rfl,h⟩) (fun q h=>⟨_,rfl,rfl,z,rfl,rfl,h⟩) h) ?_;generalize (fu z && (nH z && nG z))=b at *;refine gQ ?_;dsimp only;unfold jkw;refine Kx (b:=b) (c:=decide (z.length<=8) && !decide (z∈zH)) (fun q h=>⟨_,rfl,h⟩) (fun q h=>Kx (b:=decide (z.length<=8)) (c:=!decide (z∈zH)) (fun q h=>⟨_,rfl,z,rfl,sz hz,_,_,rfl,rfl,?_⟩) (fun q h=>⟨_,rfl,aW,_,rfl,.inr (wV _),rfl,Jp zH,?_⟩) h) q
 .dsimp only
  rw[show decide ((z.length:Int)<=8)=decide (z.length<=8) from by rw[dZ,decide_eq_true_eq,decide_eq_true_eq];omega];exact h
 .show q (.bl (!RD (.str z) (zH.map V.str))) H
  rw[yH];exact h
end
open PyProof.Rows hiding St
abbrev Zy:ay:=NS 41
def jfS:Sp:=fun vs H Q _=>∃z:Str,vs=[.str z]/\z.length<=1000/\∀p H',ML H H'->H' p=some (.tup [.str (mS (qQ (cd z)).1),.int (qQ (cd z)).2])->Q (.ref p) H'
variable {Nt:List Nat}{p:List Nat×List Nat}
theorem jcR{l:List Nat}(h:Nt≠[])(e:kQ Nt l=some p):p.1.length<=l.length/\p.2.length<=l.length:=by obtain⟨k1,_⟩:=zt h (a:=p.1) (b:=p.2) e;rw[k1,az,az];omega
def QD:Nat->Str×Nat
 | 0=>(aa "+",43)
 | _=>(aa "-",45)
variable {i:Nat}
def jmi{x:V}(h:[V.str (aa "+"),V.str (aa "-")][i]?=some x):x=.str (QD i).1/\(i=0\/i=1):=by
 match i,h with
 | 0,h=>exact⟨by cases h;rfl,.inl rfl⟩
 | 1,h=>exact⟨by cases h;rfl,.inr rfl⟩
def sgV(i:Nat)(p:List Nat×List Nat):Int:=if i=0 then ((N2 p.2:Nat):Int) else -((N2 p.2:Nat):Int)
def jij(hi:i=0\/i=1):cd (QD i).1=[(QD i).2]/\(QD i).1.length<=1:=by rcases hi with rfl | rfl <;> exact⟨rfl,N5⟩
def jmg(hi:i=0\/i=1)(hf:yh p.2=true):intText? ((QD i).1++mS p.2)=some (sgV i p)/\((QD i).1++mS p.2).length<=640:=by
 rcases hi with rfl | rfl
 .exact jiD (z:=aa "+"++mS p.2) (f:=mS p.2) hf (by rw[jW];rfl)
 .exact jhr (z:=aa "-"++mS p.2) (f:=mS p.2) hf (by rw[jW];rfl)
def jmh(hi:i=0\/i=1){l:List Nat}(hn:∀j,j < i->yj (QD j).2 l=none)(e:yj (QD i).2 l=some p):qQ l=(p.1,sgV i p):=by
 unfold qQ;rcases hi with rfl | rfl
 .have e:yj 43 l=some p:=e
  rw[e];rfl
 .have e:yj 45 l=some p:=e
  have e0:yj 43 l=none:=hn 0 N5;rw[e,e0];rfl
def jkC{l:List Nat}(hn:∀j,j < 2->yj (QD j).2 l=none):qQ l=(l,0):=by have e0:yj 43 l=none:=hn 0 N5;have e1:yj 45 l=none:=hn 1 N5;unfold qQ;rw[e0,e1]
section
theorem jmC(F:Fun K "more_cut" "more_cut" Zy f fd)(B:Ni mg)(lL:Fn P w K mg base 1 "is_figures" Nz jih):MT P w K mg base PU 2 f fd Nz jfS:=by
 have sc:tS ["text","sign","ahead","blanks","figures"] Nz (jo Zy):=fQ;refine F.okZ sc (fun aB A iw s H vs Q E hr h=>?_);obtain⟨z,rfl,hz,q⟩:=h;refine⟨_,(ja (yn il rfl (KA (jG (jj jb jb))) (jt 1 sc.nd) (ja (kz (jV bi EB N_ K3 (bB 0) (jp (jao (yp jb (yp (jfH (bB 1)) (yp jb jeR)))))) (kB rfl (jv (jt 2 sc.nd) (jv (jt 3 sc.nd) (jv (jt 4 sc.nd) kj))))) (jg (jR (zx (jx SE (bB 3) jb (jA _)) (zx (qA (jB lL hr (jp (bB 4)))) (zh (jx SE (bB 4) jb (jA _))))).pt (jg (jy (jG (jj (bB 2) (kJ ya N9 B.int_ JI (jp (jn jw (bB 1) (bB 4)))))))) jH)))) (jg (jy (jG (jj (bB 0) je))))),?_⟩
 refine kK ?_;refine⟨sm rfl,fun t ht=>?_⟩;have s0:=jd ht (.tup [V.str (aa "+"),V.str (aa "-")]);have e0:=Pn (H:=H) t (.tup [V.str (aa "+"),V.str (aa "-")]);generalize upd H t _=H0 at *;refine⟨t,rfl,⟨_,Nu.of e0⟩,?_⟩;let Pv:Nat->L2.St->Hp->Prop:=fun i σ G=>∃u1 u2 u3 u4,σ=[some (.str z),u1,u2,u3,u4]/\ML H0 G/\∀j,j < i->yj (QD j).2 (cd z)=none
 refine jam (xs:=[V.str (aa "+"),V.str (aa "-")]) Pv ⟨none,none,none,none,rfl,ML.refl _,fun j hj=>absurd hj (tW j)⟩ ?_ ?_ ?_
 .rintro i σ G _ ⟨u1,u2,u3,u4,rfl,sG,-⟩
  exact Nu.of (sG _ _ e0)
 .rintro i x σ G hx ⟨u1,u2,u3,u4,rfl,sG,hn⟩
  obtain⟨rfl,hi⟩:=jmi hx;obtain⟨c1,c2⟩:=jij hi;refine gQ ?_;refine Pp rfl ⟨rfl,?_⟩;refine SA (n:=0) (aK _) N3 N5 fun o1=>jfE (x:=(QD i).1) o1 (aw c2 N5) N5 (fun q h=>⟨_,rfl,h⟩) fun o2=>SA o2 N3 N5 fun o3=>⟨jU (aw o3 N5),?_⟩
  rw[jb6];have hs:cd (aa " "++(QD i).1++aa " ")=[32,(QD i).2,32]:=by rw[jW,jW,c1];rfl
  have hl:(aa " "++(QD i).1++aa " ").length=3:=by rw[<- jY,hs];rfl
  generalize hsep:aa " "++(QD i).1++aa " " = Nt at *;refine⟨z,Nt,rfl,rfl,by rw[hl];rfl,sz hz,fun p hp=>?_⟩;rw[jdD (by rw[hs];simp),hs]
  cases e:kQ [32,(QD i).2,32] (cd z) with
  | none=>
   dsimp only;have s1:=jd hp (.tup [V.str bC,V.str bC,V.str z]);have e1:=Pn (H:=G) p (.tup [V.str bC,V.str bC,V.str z]);generalize upd G p _=G1 at *;refine Pq rfl (Nu.of e1) ⟨rfl,_,Pp rfl ⟨_,Pp rfl (Pq rfl rfl ?_)⟩⟩;refine yN (σ':=[some (.str z),some (.str (QD i).1),some (.str bC),some (.str bC),some (.str z)]) rfl ?_;refine Pp rfl ⟨rfl,Pp rfl (kW (fun d=>absurd d N3) (fun _=>kT ?_))⟩;refine⟨_,_,_,Pp rfl ⟨sG.trans s1,fun j hj=>?_⟩⟩;rcases gf j i with h | h
   .exact hn j h
   .have:j=i:=by omega
    subst this;unfold yj;rw[e]
  | some r=>
   dsimp only;have s1:=jd hp (.tup [V.str (mS r.1),V.str Nt,V.str (mS r.2)]);have e1:=Pn (H:=G) p (.tup [V.str (mS r.1),V.str Nt,V.str (mS r.2)]);generalize upd G p _=G1 at *;refine Pq rfl (Nu.of e1) ⟨rfl,_,Pp rfl ⟨_,Pp rfl (Pq rfl rfl ?_)⟩⟩;refine yN (σ':=[some (.str z),some (.str (QD i).1),some (.str (mS r.1)),some (.str Nt),some (.str (mS r.2))]) rfl ?_;obtain⟨l1,l2⟩:=jcR NZ e;rw[jY]at l1 l2;have next:yj (QD i).2 (cd z)=none->Pv (i+1) [some (.str z),some (.str (QD i).1),some (.str (mS r.1)),some (.str Nt),some (.str (mS r.2))] G1:=fun HS=>⟨_,_,_,_,rfl,sG.trans s1,fun j hj=>by
    rcases gf j i with h | h
    .exact hn j h
    .have:j=i:=by omega
     subst this;exact HS⟩
   have es:yj (QD i).2 (cd z)=if yh r.2 && !(r.2 == [48]) then some r else none:=by unfold yj;rw[e]
   refine Pp rfl ⟨rfl,Pp rfl (kW (fun _=>?_) (fun d=>absurd ?_ d))⟩
   .refine Pp rfl ⟨mS r.2,rfl,by rw[qO];omega,Pp rfl ?_⟩
    rw[kS]
    cases hf:yh r.2 with
    | false=>
     rw[hf]at es;exact kT (kT (next es))
    | true=>
    rw[hf]at es;refine k9 ⟨_,rfl,rfl,_,rfl,?_⟩;have e4:decide (V.str (mS r.2)=V.str (aa "0"))=(r.2 == [48]):=by
     rw[dZ,decide_eq_true_eq,beq_iff_eq];constructor
     .intro h
      injection h with h;have:=PR cd h;rwa [kS]at this
     .intro h
      rw[h];rfl
    rw[e4]
    cases h0:r.2 == [48] with
    | true=>
     rw[h0]at es;exact kT (next es)
    | false=>
    rw[h0]at es;have ec:=jmh hi hn es;obtain⟨n1,n2⟩:=jmg hi hf;rw[ec]at q;refine k9 ⟨_,rfl,_,rfl,_,rfl,_,_,rfl,rfl,?_,_,_,rfl,n1,n2,sm rfl,fun p2 aQ=>?_⟩
    .rw[<- bK]
     exact aw n2 N5
    .exact q _ _ (s0.trans (sG.trans (s1.trans (jd aQ _)))) jc
   .rw[fG,decide_eq_false_iff_not]
    intro h;injection h with h;rw[h]at hl;exact absurd hl N5
 .rintro σ G ⟨u1,u2,u3,u4,rfl,sG,hn⟩
  rw[jkC hn,qc]at q;exact Pp rfl ⟨sm rfl,fun p hp=>q _ _ (s0.trans (sG.trans (jd hp _))) jc⟩
end
open PyProof.Rows hiding St
abbrev zo:ay:=jc5 (NS 2) 0
abbrev yB:ay:=NS 15
abbrev Yl:ay:=NS 42
abbrev J7:ay:=NS 36
structure SM(K:ao)(mg:Str->Option ae)(C C1 f:ac):Prop where
 gn:mg "NoText" = some (.ref C)
 go:mg "OutlineError" = some (.ref C1)
 fi:bA K (.ref C) "__init__" = some (some (.ref f))
 ty:nE K (.ref f)=some (.type "function")
 rd:Ee K C1 (.type "type")=true
 fc:Ek K (.ref C1) (.type "type") "__init__" = some (.val (.builtin "ValueError.__init__"))
 tc:nE K (.ref C1)=some (.type "type")
 fl:Sn K C "line"
def Rh(C:ac)(n:Int)(E:XK)(H:Hp):Prop:=∀H' dx,ML H H'->H' dx=some (.xd [("line",.int n)])->E (.ref C) (some dx) H'
variable {C:ac}{E:XK}
def Rh.mono{n:Int}{H':Hp}(h:Rh C n E H)(s:ML H H'):Rh C n E H':=fun G dx sG e=>h G dx (s.trans sG) e
def P5{α:Type}(C:ac)(g:List Nat->Option α)(hd:α->D):Sp:=fun vs H Q E=>∃(z:Str) (n:Int),vs=[.str z,.int n]/\z.length<=1000/\n.natAbs < 10 ^ 20/\(∀d,g (cd z)=some d->∀v H',ML H H'->Na H' (hd d) v->Q v H')/\(g (cd z)=none->Rh C n E H)
def jaA(C:ac):Sp:=fun vs H Q _=>∃(e:ac) (n:Int),vs=[.ref e,.int n]/\H e=some (Ry C e)/\n.natAbs < 10 ^ 20/\∀dx,H dx=none->Q .non (upd (upd H e (ZY C e dx)) dx (.xd [("line",.int n)]))
def JU(C:ac):Sp:=fun vs H Q E=>∃(b:Bool) (n:Int),vs=[.bl b,.int n]/\n.natAbs < 10 ^ 20/\(b=true->Q .non H)/\(b=false->Rh C n E H)
def yP(l:List Nat):Option (List Nat):=if j5 l then some l else none
def K2(l:List Nat):D:=.str (mS l)
def jeT(p:Str×Int):D:=Q4 p.1 p.2
section
variable {C1 fi:ac}
def jcT(F:Fun K "__init__" "NoText.__init__" zo f fd)(Z:SM K mg C C1 fi):MT P w K mg base PU 1 f fd M0 (jaA C):=by
 have sc:tS M0 M0 (jo zo):=fQ;refine F.okZ sc (fun aB A iw s H vs Q E hr h=>?_);obtain⟨e,n,rfl,he,hn,q⟩:=h;refine⟨_,(ja (jP (jcm N9 Z.go Z.rd Z.fc Z.tc (jj (bB 0) (jao (yp jb (yp (jh1 (bB 1)) (yp jb jeR))))))) (jg (jhV (bB 0) (bB 1) rfl))),?_⟩
 refine kK ?_;refine Pp rfl ?_;refine SA (n:=0) (aK _) N3 N5 fun o1=>jiE (i:=n) o1 hn N5 (fun q h=>⟨_,rfl,h⟩) fun o2=>SA o2 N3 N5 fun o3=>⟨jU (aw o3 N5),?_⟩
 refine⟨e,C,Pp rfl ⟨he,Z.fl.ex,?_⟩⟩;exact Ps rfl rfl ⟨e,C,rfl,he,Z.fl,q⟩
def jaJ{n:Int}(hn:n.natAbs < 10 ^ 20)(q2:Rh C n E H):∀e,H e=none->jaA C (.ref e :: ([.int n]++[])) (upd H e (Ry C e)) (fun v H2=>v=.non/\∃dx H3,H2=upd H3 e (ZY C e dx)/\H3 e=none/\E (.ref C) (some dx) H3) E0:=fun e he=>⟨e,n,rfl,jc,hn,fun dx fT=>by
 have aR:dx≠e:=fun z=>by rw[z,jc]at fT;cases fT
 refine⟨rfl,dx,upd H dx (.xd [("line",.int n)]),?_,?_,?_⟩
 .funext b
  unfold upd;by_cases h1:b=dx
  .subst h1
   rw[PP rfl,PN aR,PP rfl]
  .by_cases h2:b=e
   .subst h2
    rw[PN h1,PP rfl,PP rfl]
   .rw[PN h1,PN h2,PN h2,PN h2,PN h1]
 .rw[jq aR.symm]
  exact he
 .have hd:H dx=none:=by rw[jq aR]at fT;exact fT
  exact q2 _ _ (jd hd _) jc⟩
def jg4{fi:ac}{iN:aE}(F:Fun K "refuse_unless" "refuse_unless" yB f fd)(Z:SM K mg C C1 fi)(I:MT P w K mg base PU 1 fi iN M0 (jaA C))(hb:Nr K iN M0 []):MT P w K mg base (PY P w) 3 f fd Nk (JU C):=by
 have sc:tS Nk Nk (jo yB):=fQ;refine F.okD sc (fun aB A iw s H vs Q E hr W h=>?_);obtain⟨b,n,rfl,hn,q1,q2⟩:=h;refine⟨_,(jg (jR (YH (qA (bB 0))) (jg (K6 W rfl N9 Z.gn Z.fl.ex Z.fi Z.ty I hb hr (jp (bB 1)))) jH)),?_⟩;refine kK ?_;refine Ps rfl rfl ?_
 cases b with
 | true=>exact kT (q1 rfl)
 | false=>exact k9 ⟨_,rfl,(show 1<=1000 from N5),jaJ hn (q2 rfl)⟩
def rd{α:Type}{g:List Nat->Option α}{hd:α->D}{n:Int}{Q:VK}(hz:z.length<=1000)(hn:n.natAbs < 10 ^ 20)(h1:∀d,g (cd z)=some d->∀v H',ML H H'->Na H' (hd d) v->Q v H')(h2:g (cd z)=none->Rh C n E H):P5 C g hd [.str z,.int n] H Q E:=⟨z,n,rfl,hz,hn,h1,h2⟩
def ji8(F:Fun K "name_read" "name_read" Yl f fd)(xv:Fn P w K mg base 1 "is_name" Nz jdv)(bx:NI P w K mg base 3 "refuse_unless" Nk (JU C)):MT P w K mg base (PY P w) 4 f fd NY (P5 C yP K2):=by
 have sc:tS NY NY (jo Yl):=fQ;refine F.okD sc (fun aB A iw s H vs Q E hr W h=>?_);obtain⟨z,n,rfl,hz,hn,q1,q2⟩:=h;refine⟨_,(ja (jP (jM bx W hr (jj (jB xv hr (jp (bB 0))) (bB 1)))) (jg (jy (bB 0)))),?_⟩
 refine kK ?_;unfold yP at q1 q2;refine Pp rfl ⟨z,rfl,hz,Pp rfl ⟨_,n,rfl,hn,fun e=>?_,fun e=>?_⟩⟩
 .rw[PP e]at q1
  exact Pp rfl (q1 _ rfl _ _ (ML.refl H) (by unfold K2;rw[qc];exact jD))
 .rw[e]at q2
  exact q2 rfl
end
open PyProof.Rows hiding St
abbrev J8:ay:=NS 40
abbrev Kd:ay:=NS 39
abbrev Yc:ay:=NS 37
abbrev Kc:ay:=NS 38
theorem jdM{l:List Nat}(e:kZ Nt l=some p):p.1.length<=l.length/\p.2.length<=l.length:=by obtain⟨k1,_⟩:=zq (a:=p.1) (b:=p.2) e;rw[k1,az,az];omega
def jdy{q:Nat}{l:List Nat}(h:yj q l=some p):p.1.length<=l.length:=by
 unfold yj at h
 cases e:kQ [32,q,32] l with
 | none=>rw[e]at h;cases h
 | some r=>
  rw[e]at h;dsimp only at h;split at h
  .cases h
   exact (jcR NZ e).1
  .cases h
def jlz(l:List Nat):(qQ l).1.length<=l.length:=by
 unfold qQ
 cases e:yj 43 l with
 | some p=>exact jdy e
 | none=>
  dsimp only
  cases e2:yj 45 l with
  | some p=>exact jdy e2
  | none=>exact aK _
def jmY(hz:z.length<=1000):(mS (qQ (cd z)).1).length<=1000:=by rw[qO];exact aw (jlz _) (by rw[jY];exact hz)
def jib(p:Tm×Int):D:=.tup [p.1.toD,.int p.2]
def jj7(p:Bd×Int):D:=.tup [p.1.toD,.int p.2]
def jc7{p:ac}(h:H p=some (.tup [.str x,.int d])):Na H (Q4 x d) (.ref p):=jK h (jf jD (jf kL jF))
def KP{p:ac}{a:Str}(h:H p=some (.tup [.str a,.str x])):Na H (.tup [.str a,.str x]) (.ref p):=jK h (jf jD (jf jD jF))
section
def jg6(F:Fun K "place_read" "place_read" J7 f fd)(B:Ni mg)(ia:Fn P w K mg base 2 "is_number" Nz jfQ)(hZ:Fn P w K mg base 2 "more_cut" Nz jfS)(cz:NI P w K mg base 4 "name_read" NY (P5 C yP K2)):MT P w K mg base (PY P w) 5 f fd NY (P5 C yY jeT):=by
 have sc:tS ["text","line","x","d"] NY (jo J7):=fQ;refine F.okD sc (fun aB A iw s H vs Q E hr W h=>?_);obtain⟨z,n,rfl,hz,hn,q1,q2⟩:=h;refine⟨_,(ja (jR (qA (jB ia hr (jp (bB 0)))) (jg (jy (jG (jj jb (kJ ya N9 B.int_ JI (jp (bB 0))))))) jH) (ja (kz (jB hZ hr (jp (bB 0))) (kB rfl (jv (jt 2 sc.nd) (jv (jt 3 sc.nd) kj)))) (jg (jy (jG (jj (jM cz W hr (jj (bB 2) (bB 1))) (bB 3))))))),?_⟩
 refine kK ?_;refine Pp rfl ⟨z,rfl,hz,Pp rfl ?_⟩;unfold yY at q1 q2
 cases hnum:Yw (cd z) with
 | true=>
  rw[hnum,PP rfl]at q1;obtain⟨i1,i2⟩:=jc0 hnum;refine k9 ⟨_,rfl,z,_,rfl,i1,i2,sm rfl,fun p hp=>?_⟩;exact q1 _ rfl _ _ (jd hp _) (jc7 jc)
 | false=>
  rw[hnum,PN aU]at q1 q2;refine kT ⟨_,rfl,z,rfl,hz,fun p H1 s1 hp=>⟨p,_,rfl,Nu.of hp,rfl,_,_,rfl,_,_,rfl,rfl,?_⟩⟩;refine gQ ?_;refine Ps rfl rfl (rd (jmY hz) hn (fun d e v H2 s2 hv=>?_) (fun e=>?_))
  .unfold yP at e
   rw[kS]at e;split at e
   .rename_i bo
    cases e
    rw[PP bo]at q1
    cases (show v=.str (mS (qQ (cd z)).1) from hv)
    refine Pp rfl ⟨sm rfl,fun p2 aQ=>?_⟩;exact q1 _ rfl _ _ (s1.trans (s2.trans (jd aQ _))) (jc7 jc)
   .cases e
  .unfold yP at e
   rw[kS]at e;split at e
   .cases e
   .rename_i bo
    rw[PN bo]at q2;exact (q2 rfl).mono s1
def R5{n:Int}{Q:VK}(hz:z.length<=1000)(hn:n.natAbs < 10 ^ 20)(h1:j5 (cd z)=true->∀H',ML H H'->Q (.str z) H')(h2:j5 (cd z)=false->Rh C n E H):P5 C yP K2 [.str z,.int n] H Q E:=by
 refine rd hz hn (fun d e v H1 s1 hv=>?_) (fun e=>?_)
 .unfold yP at e
  split at e
  .rename_i bo
   cases e
   have:v=.str (mS (cd z)):=hv;rw[this,qc];exact h1 bo H1 s1
  .cases e
 .unfold yP at e
  split at e
  .cases e
  .rename_i bo
   exact h2 (by simpa using bo)
theorem ji7(F:Fun K "named_term" "named_term" J8 f fd)(bx:NI P w K mg base 3 "refuse_unless" Nk (JU C))(cz:NI P w K mg base 4 "name_read" NY (P5 C yP K2))(lJ:NI P w K mg base 5 "place_read" NY (P5 C yY jeT)):MT P w K mg base (PY P w) 6 f fd NY (P5 C zf Tm.toD):=by
 have sc:tS ["text","line","r","bracket","inside"] NY (jo J8):=fQ;refine F.okD sc (fun aB A iw s H vs Q E hr W h=>?_);obtain⟨z,n,rfl,hz,hn,q1,q2⟩:=h;refine⟨_,(ja (kz (jV bi lY nO qN (bB 0) (jp jb)) (kB rfl (jv (jt 2 sc.nd) (jv (jt 3 sc.nd) (jv (jt 4 sc.nd) kj))))) (ja (jR (jx j6 (bB 3) jb (jA _)) (jg (jy (jG (jj jb (jM cz W hr (jj (bB 0) (bB 1))))))) jH) (ja (jP (jM bx W hr (jj (jV bi Od Ob ZS (bB 4) (jp jb)) (bB 1)))) (jg (jy (jG (jr jb (jj (jM cz W hr (jj (bB 2) (bB 1))) (jM lJ W hr (jj (kq Zt (bB 4) kF (kE (K7 K8 je))) (bB 1))))))))))),?_⟩
 refine kK ?_;refine Pp rfl ⟨rfl,z,aa "[",rfl,rfl,rfl,sz hz,fun p hp=>?_⟩;rw[jf8 (show cd (aa "[")≠[] from N3),show cd (aa "[")=[91] from rfl];unfold zf at q1 q2
 cases e:kZ [91] (cd z) with
 | none=>
  rw[e]at q1 q2;dsimp only at q1 q2 |-;have s1:=jd hp (.tup [V.str z,V.str bC,V.str bC]);have e1:=Pn (H:=H) p (.tup [V.str z,V.str bC,V.str bC]);generalize upd H p _=H1 at *;refine Pq rfl (Nu.of e1) ⟨rfl,_,Pp rfl ⟨_,Pp rfl (Pq rfl rfl ?_)⟩⟩;refine gQ ?_;refine Pp rfl ⟨rfl,Pp rfl (kW (fun _=>?_) (fun d=>absurd N3 d))⟩;refine Ps rfl rfl (R5 hz hn (fun bo H2 s2=>⟨sm rfl,fun p2 aQ=>?_⟩) (fun bo=>?_))
  .rw[PP bo]at q1
   exact q1 _ rfl _ _ (s1.trans (s2.trans (jd aQ _))) (by rw[qc];exact KP jc)
  .rw[PN (by rw[bo];exact aU)]at q2
   exact (q2 rfl).mono s1
 | some r=>
  rw[e]at q1 q2;dsimp only at q1 q2 |-;obtain⟨l1,l2⟩:=jdM e;rw[jY]at l1 l2;have s1:=jd hp (.tup [V.str (mS r.1),V.str (aa "["),V.str (mS r.2)]);have e1:upd H p (.tup [V.str (mS r.1),V.str (aa "["),V.str (mS r.2)]) p=some (.tup [V.str (mS r.1),V.str (aa "["),V.str (mS r.2)]):=jc;generalize upd H p (.tup [V.str (mS r.1),V.str (aa "["),V.str (mS r.2)])=H1 at *;refine Pq rfl (Nu.of e1) ⟨rfl,_,Pp rfl ⟨_,Pp rfl (Pq rfl rfl ?_)⟩⟩;refine gQ ?_;refine Pp rfl ⟨rfl,Pp rfl (kW (fun d=>absurd d N3) (fun _=>?_))⟩;have m1:(mS r.1).length<=1000:=by rw[qO];omega
  refine Pp rfl ⟨rfl,mS r.2,Pp rfl ⟨rfl,Pp rfl ⟨_,n,rfl,hn,fun hb=>?_,fun hb=>?_⟩⟩⟩
  all_goals rw[jgs,show cd (aa "]")=[93] from rfl,jkz,kS]at hb
  .rw[PP hb]at q1 q2
   refine Ps rfl rfl (R5 m1 hn (fun bo H2 s2=>?_) (fun bo=>?_))
   .rw[kS]at bo
    rw[PP bo]at q1 q2;have hc:cd (Jb (mS r.2) none (some (-1)))=r.2.dropLast:=by rw[show (-1:Int)=-((1:Nat):Int) from rfl,jeg _ 1 N5,kS,List.dropLast_eq_take]
    refine Ps rfl rfl (Pp rfl ⟨mS r.2,rfl,sz (by rw[qO];omega),Pp rfl (rd (by rw[<- jY,hc,O9];omega) hn (fun d ed v H3 s3 hv=>⟨sm rfl,fun p2 aQ=>?_⟩) (fun ed=>?_))⟩)
    .rw[hc]at ed
     rw[ed]at q1;have s4:=jd aQ (.tup [V.str (aa "at"),V.str (mS r.1),v]);exact q1 _ rfl _ _ (s1.trans (s2.trans (s3.trans s4))) (jK jc (jf jD (jf jD (jf (hv.mono s4) jF))))
    .rw[hc]at ed
     rw[ed]at q2;exact (q2 rfl).mono (s1.trans s2)
   .rw[kS]at bo
    rw[PN (by rw[bo];exact aU)]at q2;exact (q2 rfl).mono s1
  .rw[PN (by rw[hb];exact aU)]at q2
   exact (q2 rfl).mono s1
def jhk(F:Fun K "alone_read" "alone_read" Kd f fd)(hV:NI P w K mg base 6 "named_term" NY (P5 C zf Tm.toD)):MT P w K mg base (PY P w) 7 f fd NY (P5 C ZO Tm.toD):=by
 have sc:tS NY NY (jo Kd):=fQ;refine F.okD sc (fun aB A iw s H vs Q E hr W h=>?_);obtain⟨z,n,rfl,hz,hn,q1,q2⟩:=h;refine⟨_,(ja (jR (jx j6 (bB 0) jb (jA _)) (jg (jy (jG (jj jb jb)))) jH) (jg (jy (jM hV W hr (jj (bB 0) (bB 1)))))),?_⟩
 refine kK ?_;unfold ZO at q1 q2;refine Pp rfl ⟨rfl,Pp rfl (kW (fun d=>?_) (fun d=>?_))⟩
 .have d':cd z=[48]:=by have:=PK d;injection this with this;rw[this];rfl
  rw[PP d']at q1;exact⟨sm rfl,fun p hp=>q1 _ rfl _ _ (jd hp _) (KP jc)⟩
 .rw[PN (fun h=>d (PL (PR V.str (JH (h.trans rfl)))))]at q1 q2
  exact Ps rfl rfl (rd hz hn q1 q2)
def jiW(F:Fun K "term_read" "term_read" Yc f fd)(B:Ni mg)(ia:Fn P w K mg base 2 "is_number" Nz jfQ)(hZ:Fn P w K mg base 2 "more_cut" Nz jfS)(hV:NI P w K mg base 6 "named_term" NY (P5 C zf Tm.toD)):MT P w K mg base (PY P w) 7 f fd NY (P5 C JK jib):=by
 have sc:tS ["text","line","term","c"] NY (jo Yc):=fQ;refine F.okD sc (fun aB A iw s H vs Q E hr W h=>?_);obtain⟨z,n,rfl,hz,hn,q1,q2⟩:=h;refine⟨_,(ja (jR (qA (jB ia hr (jp (bB 0)))) (jg (jy (jG (jj (jG (jj jb jb)) (kJ ya N9 B.int_ JI (jp (bB 0))))))) jH) (ja (kz (jB hZ hr (jp (bB 0))) (kB rfl (jv (jt 2 sc.nd) (jv (jt 3 sc.nd) kj)))) (jg (jy (jG (jj (jM hV W hr (jj (bB 2) (bB 1))) (bB 3))))))),?_⟩
 refine kK ?_;refine Pp rfl ⟨z,rfl,hz,Pp rfl ?_⟩;unfold JK at q1 q2
 cases hnum:Yw (cd z) with
 | true=>
  rw[hnum,PP rfl]at q1;obtain⟨i1,i2⟩:=jc0 hnum;refine k9 ⟨sm rfl,fun p hp=>⟨_,rfl,z,_,rfl,i1,i2,sm rfl,fun p2 aQ=>?_⟩⟩;have s1:=jd hp (.tup [V.str (aa "is"),V.str (aa "")]);have s2:=jd aQ (.tup [V.ref p,V.int (RK (cd z))]);exact q1 _ rfl _ _ (s1.trans s2) (jK jc (jf (KP (s2 _ _ jc)) (jf kL jF)))
 | false=>
  rw[hnum,PN aU]at q1 q2;refine kT ⟨_,rfl,z,rfl,hz,fun p H1 s1 hp=>⟨p,_,rfl,Nu.of hp,rfl,_,_,rfl,_,_,rfl,rfl,?_⟩⟩;refine gQ ?_;refine Ps rfl rfl (rd (jmY hz) hn (fun d e v H2 s2 hv=>(Pp rfl ⟨sm rfl,fun p2 aQ=>?_⟩)) (fun e=>?_))
  .rw[kS]at e
   rw[e]at q1;have s3:=jd aQ (.tup [v,V.int (qQ (cd z)).2]);exact q1 _ rfl _ _ (s1.trans (s2.trans s3)) (jK jc (jf (hv.mono s3) (jf kL jF)))
  .rw[kS]at e
   rw[e]at q2;exact (q2 rfl).mono s1
def jhi(F:Fun K "bound_read" "bound_read" Kc f fd)(B:Ni mg)(ia:Fn P w K mg base 2 "is_number" Nz jfQ)(hZ:Fn P w K mg base 2 "more_cut" Nz jfS)(cz:NI P w K mg base 4 "name_read" NY (P5 C yP K2)):MT P w K mg base (PY P w) 5 f fd NY (P5 C YD jj7):=by
 have sc:tS ["text","line","b","c"] NY (jo Kc):=fQ;refine F.okD sc (fun aB A iw s H vs Q E hr W h=>?_);obtain⟨z,n,rfl,hz,hn,q1,q2⟩:=h;refine⟨_,(ja (jR (qA (jB ia hr (jp (bB 0)))) (jg (jy (jG (jj (jG (jj jb jb)) (kJ ya N9 B.int_ JI (jp (bB 0))))))) jH) (ja (kz (jB hZ hr (jp (bB 0))) (kB rfl (jv (jt 2 sc.nd) (jv (jt 3 sc.nd) kj)))) (ja (jR (qA (jV bi Od Ob ZS (bB 2) (jp jb))) (jg (jy (jG (jj (jG (jj jb (jM cz W hr (jj (kq Zt (bB 2) kF (kE (K7 K8 je))) (bB 1))))) (bB 3))))) jH) (jg (jy (jG (jj (jG (jj jb (jM cz W hr (jj (bB 2) (bB 1))))) (bB 3)))))))),?_⟩
 refine kK ?_;refine Pp rfl ⟨z,rfl,hz,Pp rfl ?_⟩;unfold YD at q1 q2
 cases hnum:Yw (cd z) with
 | true=>
  rw[hnum,PP rfl]at q1;obtain⟨i1,i2⟩:=jc0 hnum;refine k9 ⟨sm rfl,fun p hp=>⟨_,rfl,z,_,rfl,i1,i2,sm rfl,fun p2 aQ=>?_⟩⟩;have s1:=jd hp (.tup [V.str (aa "is"),V.str (aa "")]);have s2:=jd aQ (.tup [V.ref p,V.int (RK (cd z))]);exact q1 _ rfl _ _ (s1.trans s2) (jK jc (jf (KP (s2 _ _ jc)) (jf kL jF)))
 | false=>
  rw[hnum,PN aU]at q1 q2;refine kT ⟨_,rfl,z,rfl,hz,fun p H1 s1 hp=>⟨p,_,rfl,Nu.of hp,rfl,_,_,rfl,_,_,rfl,rfl,?_⟩⟩;refine gQ ?_;have hl:=jmY hz;refine Pp rfl ⟨rfl,Pq rfl rfl (Pp rfl ?_)⟩;rw[jgs,kS,show cd (aa "[]")=[91,93] from rfl];refine kW (fun d=>?_) (fun d=>?_)
  .rw[PP d]at q1 q2
   have hc:cd (Jb (mS (qQ (cd z)).1) none (some (-2)))=(qQ (cd z)).1.take ((qQ (cd z)).1.length - 2):=by rw[show (-2:Int)=-((2:Nat):Int) from rfl,jeg _ 2 N5,kS]
   refine Ps rfl rfl (Ps rfl rfl ⟨sz hl,Pp rfl (R5 (aw (KW _ _ _) hl) hn (fun bo H2 s2=>⟨sm rfl,fun p2 aQ=>(Pp rfl ⟨sm rfl,fun p3 cR=>?_⟩)⟩) (fun bo=>?_))⟩)
   all_goals rw[hc]at bo
   .rw[PP bo]at q1
    have s3:=jd aQ (.tup [V.str (aa "row"),V.str (Jb (mS (qQ (cd z)).1) none (some (-2)))]);have s4:=jd cR (.tup [V.ref p2,V.int (qQ (cd z)).2]);refine q1 _ rfl _ _ (s1.trans (s2.trans (s3.trans s4))) ?_;rw[<- hc,qc];exact jK jc (jf (KP (s4 _ _ jc)) (jf kL jF))
   .rw[PN (by rw[bo];exact aU)]at q2
    exact (q2 rfl).mono s1
  .rw[PN d]at q1 q2
   refine Ps rfl rfl (R5 hl hn (fun bo H2 s2=>⟨sm rfl,fun p2 aQ=>(Pp rfl ⟨sm rfl,fun p3 cR=>?_⟩)⟩) (fun bo=>?_))
   all_goals rw[kS]at bo
   .rw[PP bo]at q1
    have s3:=jd aQ (.tup [V.str (aa "is"),V.str (mS (qQ (cd z)).1)]);have s4:=jd cR (.tup [V.ref p2,V.int (qQ (cd z)).2]);exact q1 _ rfl _ _ (s1.trans (s2.trans (s3.trans s4))) (jK jc (jf (KP (s4 _ _ jc)) (jf kL jF)))
   .rw[PN (by rw[bo];exact aU)]at q2
    exact (q2 rfl).mono s1
end
open PyProof.Rows hiding St
abbrev J5:ay:=NS 35
abbrev Yk:ay:=NS 34
abbrev Yo:ay:=NS 33
abbrev J9:ay:=NS 32
abbrev Kb:ay:=NS 31
def ZA(h:cd y≠[]):∃b,tH x y=(mS (OC (cd y) (cd x)).1,b,mS (OC (cd y) (cd x)).2):=by
 rw[jf8 h];unfold OC
 cases e:kZ (cd y) (cd x) with
 | none=>exact⟨bC,by show (x,_,_)=(mS (cd x),_,mS []);rw[qc];rfl⟩
 | some p=>exact⟨y,rfl⟩
def jkI(h:cd y≠[]):∃b,tF x y=(mS (Z0 (cd y) (cd x)).1,b,mS (Z0 (cd y) (cd x)).2):=by
 rw[jdD h];unfold Z0
 cases e:kQ (cd y) (cd x) with
 | none=>exact⟨bC,by show (_,_,x)=(mS [],_,mS (cd x));rw[qc];rfl⟩
 | some p=>exact⟨y,rfl⟩
def KJ{l:List Nat}(h:l.length<=n):(OC Nt l).1.length<=n/\(OC Nt l).2.length<=n:=by
 unfold OC
 cases e:kZ Nt l with
 | none=>exact⟨h,cn _⟩
 | some p=>
  obtain⟨h1,h2⟩:=jdM e;exact⟨aw h1 h,aw h2 h⟩
def jiu{l:List Nat}(hs:Nt≠[])(h:l.length<=n):(Z0 Nt l).1.length<=n/\(Z0 Nt l).2.length<=n:=by
 unfold Z0
 cases e:kQ Nt l with
 | none=>exact⟨cn _,h⟩
 | some p=>
  obtain⟨h1,h2⟩:=jcR hs e;exact⟨aw h1 h,aw h2 h⟩
def jkL(k:Rch):D:=.tup [Q4 k.t.1 k.t.2,Q4 k.u.1 k.u.2,.str k.r]
def jf0{k:Rch}{v:V}(h:Na H (jkL k) v):∃a vt vu,v=.ref a/\H a=some (.tup [vt,vu,.str k.r])/\Na H (Q4 k.t.1 k.t.2) vt/\Na H (Q4 k.u.1 k.u.2) vu:=by
 obtain⟨t,xs,rfl,ht,h1⟩:=jJ h;obtain⟨v1,r1,rfl,e1,h2⟩:=ji h1;obtain⟨v2,r2,rfl,e2,h3⟩:=ji h2;obtain⟨v3,r3,rfl,e3,h4⟩:=ji h3
 cases jX h4
 cases (show v3=.str k.r from e3)
 exact⟨t,v1,v2,rfl,ht,e1,e2⟩
def jco{d:D}{v:V}(h:Na H (.tup [d,.int c]) v):∃a vd,v=.ref a/\H a=some (.tup [vd,.int c])/\Na H d vd:=by
 obtain⟨t,xs,rfl,ht,h1⟩:=jJ h;obtain⟨v1,r1,rfl,e1,h2⟩:=ji h1;obtain⟨v2,r2,rfl,e2,h3⟩:=ji h2
 cases jX h3
 cases (show v2=.int c from e2)
 exact⟨t,v1,rfl,ht,e1⟩
section
def ji5(F:Fun K "reach_read" "reach_read" J5 f fd)(cz:NI P w K mg base 4 "name_read" NY (P5 C yP K2))(lJ:NI P w K mg base 5 "place_read" NY (P5 C yY jeT)):MT P w K mg base (PY P w) 6 f fd NY (P5 C Kh jkL):=by
 have sc:tS ["text","line","t","word","behind","u","blank","r"] NY (jo J5):=fQ;refine F.okD sc (fun aB A iw s H vs Q E hr W h=>?_);obtain⟨z,n,rfl,hz,hn,q1,q2⟩:=h;refine⟨_,(ja (kz (jV bi lY nO qN (bB 0) (jp jb)) (kB rfl (jv (jt 2 sc.nd) (jv (jt 3 sc.nd) (jv (jt 4 sc.nd) kj))))) (ja (kz (jV bi EB N_ K3 (bB 4) (jp jb)) (kB rfl (jv (jt 5 sc.nd) (jv (jt 6 sc.nd) (jv (jt 7 sc.nd) kj))))) (jg (jy (jG (jr (jM lJ W hr (jj (bB 2) (bB 1))) (jj (jM lJ W hr (jj (bB 5) (bB 1))) (jM cz W hr (jj (bB 7) (bB 1)))))))))),?_⟩
 refine kK ?_;obtain⟨b1,w1⟩:=ZA (x:=z) (y:=aa " to ") N3;rw[show cd (aa " to ")=[32,116,111,32] from rfl]at w1;unfold Kh at q1 q2;have l1:=KJ (Nt:=[32,116,111,32]) (show (cd z).length<=1000 by rw[jY];exact hz);generalize OC [32,116,111,32] (cd z)=a at *;refine Pp rfl ⟨rfl,z,aa " to ",rfl,rfl,rfl,sz hz,fun p hp=>?_⟩;rw[w1];have s1:=jd hp (.tup [V.str (mS a.1),V.str b1,V.str (mS a.2)]);have e1:=Pn (H:=H) p (.tup [V.str (mS a.1),V.str b1,V.str (mS a.2)]);dsimp only;generalize upd H p _=H1 at *;refine Pq rfl (Nu.of e1) ⟨rfl,_,Pp rfl ⟨_,Pp rfl (Pq rfl rfl ?_)⟩⟩;refine yN (σ':=[some (.str z),some (.int n),some (.str (mS a.1)),some (.str b1),some (.str (mS a.2)),none,none,none]) rfl ?_;obtain⟨b2,w2⟩:=jkI (x:=mS a.2) (y:=aa " ") N3;rw[show cd (aa " ")=[32] from rfl,kS]at w2;have l2:=jiu (Nt:=[32]) NZ l1.2;generalize Z0 [32] a.2=b at *;refine Pp rfl ⟨rfl,mS a.2,aa " ",rfl,rfl,rfl,sz (by rw[qO];exact l1.2),fun p2 aQ=>?_⟩;rw[w2];have s2:=jd aQ (.tup [V.str (mS b.1),V.str b2,V.str (mS b.2)]);have e2:=Pn (H:=H1) p2 (.tup [V.str (mS b.1),V.str b2,V.str (mS b.2)]);dsimp only;generalize upd H1 p2 _=H2 at *;refine Pq rfl (Nu.of e2) ⟨rfl,_,Pp rfl ⟨_,Pp rfl (Pq rfl rfl ?_)⟩⟩;refine yN (σ':=[some (.str z),some (.int n),some (.str (mS a.1)),some (.str b1),some (.str (mS a.2)),some (.str (mS b.1)),some (.str b2),some (.str (mS b.2))]) rfl ?_;have bR:=s1.trans s2;refine Ps rfl rfl (rd (by rw[qO];exact l1.1) hn (fun t et vt H3 s3 ht=>?_) (fun et=>?_))
 all_goals rw[kS]at et;rw[et]at q1 q2
 .refine Ps rfl rfl (rd (by rw[qO];exact l2.1) hn (fun u eu vu H4 s4 hu=>?_) (fun eu=>?_))
  all_goals rw[kS]at eu;dsimp only at q1 q2;rw[eu]at q1 q2
  .refine Ps rfl rfl (R5 (by rw[qO];exact l2.2) hn (fun bo H5 s5=>⟨sm rfl,fun p3 cR=>?_⟩) (fun bo=>?_))
   all_goals rw[kS]at bo;dsimp only at q1 q2
   .rw[PP bo]at q1
    have s6:=jd cR (.tup [vt,vu,V.str (mS b.2)]);exact q1 _ rfl _ _ (bR.trans (s3.trans (s4.trans (s5.trans s6)))) (jK jc (jf (ht.mono (s4.trans (s5.trans s6))) (jf (hu.mono (s5.trans s6)) (jf jD jF))))
   .rw[PN (by rw[bo];exact aU)]at q2
    exact (q2 rfl).mono (bR.trans (s3.trans s4))
  .exact (q2 rfl).mono (bR.trans s3)
 .exact (q2 rfl).mono bR
def ji3(F:Fun K "rise_read" "rise_read" Yk f fd)(m_:NI P w K mg base 6 "reach_read" NY (P5 C Kh jkL)):MT P w K mg base (PY P w) 7 f fd NY (P5 C SH Cl.toD):=by
 have sc:tS ["text","line","t","u","r"] NY (jo Yk):=fQ;refine F.okD sc (fun aB A iw s H vs Q E hr W h=>?_);obtain⟨z,n,rfl,hz,hn,q1,q2⟩:=h;refine⟨_,(ja (kz (jM m_ W hr (jj (bB 0) (bB 1))) (kB rfl (jv (jt 2 sc.nd) (jv (jt 3 sc.nd) (jv (jt 4 sc.nd) kj))))) (jg (jy (jG (jr jb (jr (bB 2) (jj (bB 3) (bB 4)))))))),?_⟩
 refine kK ?_;unfold SH at q1 q2;refine Ps rfl rfl (rd hz hn (fun k ek v H1 s1 hv=>?_) (fun ek=>?_))
 all_goals rw[ek]at q1 q2
 .obtain⟨a,vt,vu,rfl,ha,ht,hu⟩:=jf0 hv
  refine Pq rfl (Nu.of ha) ⟨rfl,_,Pp rfl ⟨_,Pp rfl (Pq rfl rfl ?_)⟩⟩;refine yN (σ':=[some (.str z),some (.int n),some vt,some vu,some (.str k.r)]) rfl ?_;refine Ps rfl rfl (Pp rfl ⟨sm rfl,fun p hp=>?_⟩);have s2:=jd hp (.tup [V.str (aa "rise"),vt,vu,V.str k.r]);exact q1 _ rfl _ _ (s1.trans s2) (jK jc (jf jD (jf (ht.mono s2) (jf (hu.mono s2) (jf jD jF)))))
 .exact q2 rfl
def jja(F:Fun K "each_read" "each_read" Yo f fd)(m_:NI P w K mg base 6 "reach_read" NY (P5 C Kh jkL))(xz:NI P w K mg base 5 "bound_read" NY (P5 C YD jj7)):MT P w K mg base (PY P w) 7 f fd NY (P5 C jed Cl.toD):=by
 have sc:tS ["text","line","way","reach","sign","right","t","u","r","b","c"] NY (jo Yo):=fQ;refine F.okD sc (fun aB A iw s H vs Q E hr W h=>?_);obtain⟨z,n,rfl,hz,hn,q1,q2⟩:=h;refine⟨_,(ja (jh 2 sc.nd jb) (ja (jhW (jR (jx jgZ jb (bB 0) rfl) (jg (jh 2 sc.nd jb)) jH)) (ja (kz (jV bi lY nO qN (bB 0) (jp (jao (yp jb (yp (jfH (bB 2)) (yp jb jeR)))))) (kB rfl (jv (jt 3 sc.nd) (jv (jt 4 sc.nd) (jv (jt 5 sc.nd) kj))))) (ja (kz (jM m_ W hr (jj (bB 3) (bB 1))) (kB rfl (jv (jt 6 sc.nd) (jv (jt 7 sc.nd) (jv (jt 8 sc.nd) kj))))) (ja (kz (jM xz W hr (jj (bB 5) (bB 1))) (kB rfl (jv (jt 9 sc.nd) (jv (jt 10 sc.nd) kj)))) (jg (jy (jG (jr jb (jr (bB 6) (jr (bB 7) (jr (bB 8) (jr (bB 2) (jj (bB 9) (bB 10))))))))))))))),?_⟩
 refine kK ?_;refine gQ ?_;refine⟨fun σ G=>σ=[some (.str z),some (.int n),some (.str (RB (cd z))),none,none,none,none,none,none,none,none]/\G=H,Pp rfl (Pq rfl rfl (Pp rfl ?_)),?_⟩
 .rw[jnQ N3,show cd (aa " <= ")=[32,60,61,32] from rfl]
  unfold RB;refine kW (fun d=>?_) (fun d=>?_)
  .rw[PP d]
   exact⟨rfl,rfl⟩
  .rw[PN d]
   exact⟨rfl,rfl⟩
 rintro σ G ⟨rfl,rfl⟩;unfold jed at q1 q2;have hw:(RB (cd z)).length<=2:=by unfold RB;split <;> decide
 generalize RB (cd z)=aT at *;refine Pp rfl ⟨rfl,?_⟩;refine SA (n:=0) (aK _) N3 N5 fun o1=>jfE (x:=aT) o1 (aw hw N5) N5 (fun q h=>⟨_,rfl,h⟩) fun o2=>SA o2 N3 N5 fun o3=>⟨jU (aw o3 N5),?_⟩
 rw[jb6];have hs:cd (aa " "++aT++aa " ")=32 :: (cd aT++[32]):=by rw[jW,jW];rfl
 generalize aa " "++aT++aa " " = Nt at *;have HD:cd Nt≠[]:=by rw[hs];simp
 obtain⟨b1,w1⟩:=ZA (x:=z) HD;rw[hs]at w1;have l1:=KJ (Nt:=32 :: (cd aT++[32])) (show (cd z).length<=1000 by rw[jY];exact hz);generalize OC (32 :: (cd aT++[32])) (cd z)=a at *;refine⟨z,Nt,rfl,rfl,?_,sz hz,fun p hp=>?_⟩
 .rw[<- jY,hs]
  rfl
 rw[w1];dsimp only;have s1:=jd hp (.tup [V.str (mS a.1),V.str b1,V.str (mS a.2)]);have e1:=Pn (H:=G) p (.tup [V.str (mS a.1),V.str b1,V.str (mS a.2)]);generalize upd G p _=H1 at *;refine Pq rfl (Nu.of e1) ⟨rfl,_,Pp rfl ⟨_,Pp rfl (Pq rfl rfl ?_)⟩⟩;refine yN (σ':=[some (.str z),some (.int n),some (.str aT),some (.str (mS a.1)),some (.str b1),some (.str (mS a.2)),none,none,none,none,none]) rfl ?_;refine Ps rfl rfl (rd (by rw[qO];exact l1.1) hn (fun k ek v H2 s2 hv=>?_) (fun ek=>?_))
 all_goals rw[kS]at ek;rw[ek]at q1 q2
 .obtain⟨c,vt,vu,rfl,hc,ht,hu⟩:=jf0 hv
  refine Pq rfl (Nu.of hc) ⟨rfl,_,Pp rfl ⟨_,Pp rfl (Pq rfl rfl ?_)⟩⟩;refine yN (σ':=[some (.str z),some (.int n),some (.str aT),some (.str (mS a.1)),some (.str b1),some (.str (mS a.2)),some vt,some vu,some (.str k.r),none,none]) rfl ?_;dsimp only at q1 q2;refine Ps rfl rfl (rd (by rw[qO];exact l1.2) hn (fun b eb v2 H3 s3 u_=>?_) (fun eb=>?_))
  all_goals rw[kS]at eb;rw[eb]at q1 q2
  .obtain⟨c2,vb,rfl,cW,hb⟩:=jco u_
   refine Pq rfl (Nu.of cW) ⟨rfl,_,Pp rfl (Pq rfl rfl ?_)⟩;refine yN (σ':=[some (.str z),some (.int n),some (.str aT),some (.str (mS a.1)),some (.str b1),some (.str (mS a.2)),some vt,some vu,some (.str k.r),some vb,some (.int b.2)]) rfl ?_;refine Ps rfl rfl (Ps rfl rfl (Ps rfl rfl ⟨sm rfl,fun p3 cR=>?_⟩));have s4:=jd cR (.tup [V.str (aa "each"),vt,vu,V.str k.r,V.str aT,vb,V.int b.2]);exact q1 _ rfl _ _ (s1.trans (s2.trans (s3.trans s4))) (jK jc (jf jD (jf (ht.mono (s3.trans s4)) (jf (hu.mono (s3.trans s4)) (jf jD (jf jD (jf (hb.mono s4) (jf kL jF))))))))
  .exact (q2 rfl).mono (s1.trans s2)
 .exact (q2 rfl).mono s1
def jhc(F:Fun K "least_read" "least_read" J9 f fd)(m8:NI P w K mg base 7 "term_read" NY (P5 C JK jib))(xA:NI P w K mg base 7 "alone_read" NY (P5 C ZO Tm.toD)):MT P w K mg base (PY P w) 8 f fd NY (P5 C zg Cl.toD):=by
 have sc:tS ["text","line","left","sign","right","term","c"] NY (jo J9):=fQ;refine F.okD sc (fun aB A iw s H vs Q E hr W h=>?_);obtain⟨z,n,rfl,hz,hn,q1,q2⟩:=h;refine⟨_,(ja (kz (jV bi lY nO qN (bB 0) (jp jb)) (kB rfl (jv (jt 2 sc.nd) (jv (jt 3 sc.nd) (jv (jt 4 sc.nd) kj))))) (ja (kz (jM m8 W hr (jj (bB 4) (bB 1))) (kB rfl (jv (jt 5 sc.nd) (jv (jt 6 sc.nd) kj)))) (jg (jy (jG (jr jb (jr (jM xA W hr (jj (bB 2) (bB 1))) (jj (bB 5) (bB 6))))))))),?_⟩
 refine kK ?_;obtain⟨b1,w1⟩:=ZA (x:=z) (y:=aa " >= ") N3;rw[show cd (aa " >= ")=[32,62,61,32] from rfl]at w1;unfold zg at q1 q2;have l1:=KJ (Nt:=[32,62,61,32]) (show (cd z).length<=1000 by rw[jY];exact hz);generalize OC [32,62,61,32] (cd z)=a at *;refine Pp rfl ⟨rfl,z,aa " >= ",rfl,rfl,rfl,sz hz,fun p hp=>?_⟩;rw[w1];have s1:=jd hp (.tup [V.str (mS a.1),V.str b1,V.str (mS a.2)]);have e1:=Pn (H:=H) p (.tup [V.str (mS a.1),V.str b1,V.str (mS a.2)]);dsimp only;generalize upd H p _=H1 at *;refine Pq rfl (Nu.of e1) ⟨rfl,_,Pp rfl ⟨_,Pp rfl (Pq rfl rfl ?_)⟩⟩;refine yN (σ':=[some (.str z),some (.int n),some (.str (mS a.1)),some (.str b1),some (.str (mS a.2)),none,none]) rfl ?_;refine Ps rfl rfl (rd (by rw[qO];exact l1.2) hn (fun t et v H2 s2 hv=>?_) (fun et=>?_))
 all_goals rw[kS]at et;rw[et]at q1 q2
 .obtain⟨c2,vb,rfl,cW,hb⟩:=jco hv
  refine Pq rfl (Nu.of cW) ⟨rfl,_,Pp rfl (Pq rfl rfl ?_)⟩;refine yN (σ':=[some (.str z),some (.int n),some (.str (mS a.1)),some (.str b1),some (.str (mS a.2)),some vb,some (.int t.2)]) rfl ?_;dsimp only at q1 q2;refine Ps rfl rfl (rd (by rw[qO];exact l1.1) hn (fun x ex v2 H3 s3 u_=>?_) (fun ex=>?_))
  all_goals rw[kS]at ex;rw[ex]at q1 q2
  .refine Ps rfl rfl ⟨sm rfl,fun p3 cR=>?_⟩
   have s4:=jd cR (.tup [V.str (aa "least"),v2,vb,V.int t.2]);exact q1 _ rfl _ _ (s1.trans (s2.trans (s3.trans s4))) (jK jc (jf jD (jf (u_.mono s4) (jf (hb.mono (s3.trans s4)) (jf kL jF)))))
  .exact (q2 rfl).mono (s1.trans s2)
 .exact (q2 rfl).mono s1
def jhg(F:Fun K "claim_read" "claim_read" Kb f fd)(xw:NI P w K mg base 7 "each_read" NY (P5 C jed Cl.toD))(xf:NI P w K mg base 7 "rise_read" NY (P5 C SH Cl.toD))(h_:NI P w K mg base 8 "least_read" NY (P5 C zg Cl.toD)):MT P w K mg base (PY P w) 9 f fd NY (P5 C qh Cl.toD):=by
 have sc:tS ["text","line","word","blank","rest"] NY (jo Kb):=fQ;refine F.okD sc (fun aB A iw s H vs Q E hr W h=>?_);obtain⟨z,n,rfl,hz,hn,q1,q2⟩:=h;refine⟨_,(ja (kz (jV bi lY nO qN (bB 0) (jp jb)) (kB rfl (jv (jt 2 sc.nd) (jv (jt 3 sc.nd) (jv (jt 4 sc.nd) kj))))) (ja (jR (jx j6 (bB 2) jb (jA _)) (jg (jy (jM xw W hr (jj (bB 4) (bB 1))))) jH) (ja (jR (jx j6 (bB 2) jb (jA _)) (jg (jy (jM xf W hr (jj (bB 4) (bB 1))))) jH) (jg (jy (jM h_ W hr (jj (bB 0) (bB 1)))))))),?_⟩
 refine kK ?_;obtain⟨b1,w1⟩:=ZA (x:=z) (y:=aa " ") N3;rw[show cd (aa " ")=[32] from rfl]at w1;unfold qh at q1 q2;have l1:=KJ (Nt:=[32]) (show (cd z).length<=1000 by rw[jY];exact hz);generalize OC [32] (cd z)=a at *;refine Pp rfl ⟨rfl,z,aa " ",rfl,rfl,rfl,sz hz,fun p hp=>?_⟩;rw[w1];have s1:=jd hp (.tup [V.str (mS a.1),V.str b1,V.str (mS a.2)]);have e1:=Pn (H:=H) p (.tup [V.str (mS a.1),V.str b1,V.str (mS a.2)]);dsimp only;generalize upd H p _=H1 at *;refine Pq rfl (Nu.of e1) ⟨rfl,_,Pp rfl ⟨_,Pp rfl (Pq rfl rfl ?_)⟩⟩;refine yN (σ':=[some (.str z),some (.int n),some (.str (mS a.1)),some (.str b1),some (.str (mS a.2))]) rfl ?_;have hw:∀y:Str,decide (V.str (mS a.1)=V.str y)=true↔a.1=cd y:=fun y=>by rw[decide_eq_true_eq];exact⟨fun h=>by injection h with h;rw[<- h,kS],fun h=>by rw[h,qc]⟩
 have le:(mS a.2).length<=1000:=by rw[qO];exact l1.2
 refine Pp rfl ⟨rfl,Pp rfl (kW (fun d=>?_) (fun d=>?_))⟩
 .have d':a.1=[101,97,99,104]:=(hw _).mp d
  rw[PP d']at q1 q2;exact Ps rfl rfl (rd le hn (fun x ex v H2 s2 hv=>q1 x ex v H2 (s1.trans s2) hv) fun ex=>(q2 ex).mono s1)
 have d':¬a.1=[101,97,99,104]:=fun h=>d ((hw _).mpr h)
 rw[PN d']at q1 q2;refine Pp rfl ⟨rfl,Pp rfl (kW (fun d=>?_) (fun d=>?_))⟩
 .have d':a.1=[114,105,115,101]:=(hw _).mp d
  rw[PP d']at q1 q2;exact Ps rfl rfl (rd le hn (fun x ex v H2 s2 hv=>q1 x ex v H2 (s1.trans s2) hv) fun ex=>(q2 ex).mono s1)
 have d':¬a.1=[114,105,115,101]:=fun h=>d ((hw _).mpr h)
 rw[PN d']at q1 q2;exact Ps rfl rfl (rd hz hn (fun x ex v H2 s2 hv=>q1 x ex v H2 (s1.trans s2) hv) fun ex=>(q2 ex).mono s1)
end
end LW
namespace L2
open PySem PySem.Spec PySem.Builtin PySem.Builtin.Str PyProof.Rows
variable {x5:Pos}{x:Str}
section
variable {X:Cx}
theorem yZ(x:Str)(w:Nat):∀(CQ:List Nat) (a:Nat),(NQ x w a CQ).length=CQ.length+1
 | [],_=>rfl
 | c :: r,a=>by show (NQ x w (c+w) r).length+1=_;rw[yZ x w r (c+w)];rfl
theorem jar:∀l:List (Str×Tok),Nb ((l.map (·.1)).map V.str) (strValues l)
 | []=>.nil
 | p :: l=>.cons ⟨p.2,rfl⟩ (jar l)
theorem Jl:QZ X "str.split" (fun x xs H Q=>∃z y,x=.str z/\xs=[.str y]/\(y.length == 0)=false/\z.length+2<=aF/\∀p,H p=none->Q (.ref p) (upd H p (.lst ((Txt.split z y).map V.str)))):=by
 intro ad s σ H x xs v us Q I rx rs h;obtain⟨z,y,rfl,rfl,hy,hz,q⟩:=h;obtain⟨t,rfl⟩:=rx;obtain⟨u,rfl,t',rfl⟩:=zB rs;have hn:(partsBetween z (occurrences z y 0 z.length (z.length+1)) y.length).length<=aF:=by rw[StrLaws.partsBetween_eq,yZ];have:=StrLaws.occ_length_le z y 0 z.length (z.length+1);omega
 have q1:=q s.heap.objs.size I.fresh;unfold Txt.split at q1;have one:1<=aF:=by omega
 cases h1:(decide (z.length < y.length) || decide (strKind z < strKind y))
 .rw[h1,PN aU]at q1
  cases hf:(occurrences z y 0 z.length (z.length+1)).isEmpty
  .rw[hf,PN aU]at q1
   refine gD iW (lQ _ _ _) EC (EE _ _) (meets_str_split_sep z y t t' h1 hy hf N4 hn) ?_;rw[strsFrom_eq];refine⟨.ref _,_,I.laid (fun _ _ q=>bu _ q) (aK _) (show Ng X.prog X.w _ _ _ (.lst _) from⟨?_,_,_,?_,dU _ rfl⟩),rfl,q1⟩
   .rw[av];exact hn
   .have:=jar (numbered s.toks (partsBetween z (occurrences z y 0 z.length (z.length+1)) y.length))
    rwa [numbered_texts]at this
  .rw[hf,PP rfl]at q1
   refine gD iW (lQ _ _ _) EC (EE _ _) (meets_str_split_not_found z y t t' h1 hy hf) ?_;exact⟨.ref _,_,I.laid (t':=s.toks) (fun _ _ q=>bu _ q) (aK _) (show Ng X.prog X.w _ _ _ (.lst [V.str z]) from⟨one,[Value.str z t],_,.cons ⟨_,rfl⟩ .nil,dU _ rfl⟩),rfl,q1⟩
 .rw[h1,PP rfl]at q1
  refine gD iW (lQ _ _ _) EC (EE _ _) (meets_str_split_cannot_occur z y t t' h1) ?_;exact⟨.ref _,_,I.laid (t':=s.toks) (fun _ _ q=>bu _ q) (aK _) (show Ng X.prog X.w _ _ _ (.lst [V.str z]) from⟨one,[Value.str z t],_,.cons ⟨_,rfl⟩ .nil,dU _ rfl⟩),rfl,q1⟩
def isS(x:Str):ae->Bool
 | .str y _=>y == x
 | _=>false
theorem jfL{A:aN}{s:af}{x:Str}{u:Tok}:∀{zs:List Str} {us:List ae},Nb (zs.map V.str) us->∀y∈us,dR A s y (.str x u) (isS x y)
 | [],_,r,y,hy=>by cases r;cases hy
 | b :: bs,_,r,y,hy=>by
  rw[bn]at r
  cases r with
  | cons a t=>
   obtain⟨tk,rfl⟩:=a;rcases aA.mp hy with rfl | hy
   .exact NV (A:=A) (s:=s) b tk x u
   .exact jfL t y hy
theorem jav{x:Str}:∀{zs:List Str} {us:List ae},Nb (zs.map V.str) us->∀(j:Nat) (h:j < us.length),(zs[j]?).map (fun z=>z == x)=some (isS x us[j])
 | [],_,r,j,h=>by cases r;exact absurd h (tW _)
 | b :: bs,_,r,j,h=>by
  rw[bn]at r
  cases r with
  | cons a t=>
   obtain⟨tk,rfl⟩:=a
   cases j with
   | zero=>rfl
   | succ j=>exact jav t j (Ae h)
theorem jhq:QZ X "list.index" (fun x vs H Q=>∃(l:ac) (zs:List Str) (z:Str) (j:Nat),x=.ref l/\vs=[.str z]/\H l=some (.lst (zs.map V.str))/\zs[j]?=some z/\(∀m < j,zs[m]?≠some z)/\j < 1000/\Q (.int (j:Nat)) H):=by
 intro ad s σ H x xs v us Q I rx rs h;obtain⟨l,zs,z,j,rfl,rfl,hH,h1,h2,h3,q⟩:=h
 cases rx
 obtain⟨u,rfl,tk,rfl⟩:=zB rs;obtain⟨_,Nc,n,r,hl,e⟩:=I.lstM hH;have bb:Nc.length=zs.length:=by rw[<- r.length,av]
 have hj:j < Nc.length:=by rw[bb];exact (dY.mp h1).1
 have Il:(j:Int) < 2 ^ 63 - 1:=Int.lt_trans (show (j:Int) < 1000 from N4) N5;refine gD F.slot_list_index ⟨_,e,rfl⟩ F.entry_list_index (F.args_list_index_2 _ _) (SeqAt.list_indexAt l Nc.toArray n _ _ (.str z tk) (isS z) j (by simpa using hj) Il ?_ fun m hm HY=>?_) ⟨e,fun y hy=>jfL r y (by simpa using hy),?_⟩
 .have:=jav (x:=z) r j hj
  rw[h1]at this;simp at this;simpa using this.symm
 .have fP:m < Nc.length:=by simpa using hm
  have:=jav (x:=z) r m fP;have hz:m < zs.length:=by omega
  rw[aP hz]at this;have hn:zs[m]≠z:=fun e=>h2 m HY (by rw[aP hz,e])
  have hb:(zs[m] == z)=false:=PQ.mpr hn;simp[hb]at this;simpa using this.symm
 .exact⟨.int (j:Nat),H,I.tok _,⟨_,rfl⟩,q⟩
structure Rw(K:ao)(w:ax)(a:ac)(f:Str->Option V):Prop where
 ex:∃es n,K.lookup a=some ⟨.type "dict",none,.dict es n,#[]⟩/\NL w.params es.toList/\(a == fk)=false/\∀x,P2 (f x) (findBy tE es x)
def jmw:Qm X (dy .In) (fun x y H Q=>∃z a f,x=.str z/\y=.ref a/\Rw X.K X.w a f/\Q (.bl (f z).isSome) H):=by
 intro ad s σ H x y v u Q I rx ry h;obtain⟨z,a,f,rfl,rfl,⟨es,n,hl,hk,lo,hf⟩,q⟩:=h;obtain⟨t,rfl⟩:=rx
 cases (show u=Value.ref a from ry)
 refine PySem.wpAny_in_of (strKind_is X.prog X.w z t) lo (W.mapOf_K (prog:=X.prog) I.kIn hl hk) ?_;rw[<- (hf z).isSome_eq];exact⟨.bl _,H,I.tok _,rfl,q⟩
def jni(K:ao)(w:ax)(ta ti:TE):TE:=fun σ H Q=>ta σ H fun x H1=>ti σ H1 fun y H2=>∃z a f v,x=.ref a/\y=.str z/\Rw K w a f/\f z=some v/\Q v H2
def jh0{o i:aj}{td ty:TE}(ho:QE X o td)(hi:QE X i ty)(hs:jm7 i:=by exact fun _ _=>rfl):QE X (.Subscript o i x5) (jni X.K X.w td ty):=⟨by
 intro ad s σ H Q I h;refine jfK Of.lookup hs (Nn (ho.h ad s σ H _ I h) fun u s1 ⟨x,H1,I1,rx,q1⟩=>Nn (hi.h ad s1 σ H1 _ I1 q1) fun iv s2 ⟨y,H2,I2,ry,z,a,f,v,ex,ey,⟨es,n,hl,hk,lo,hf⟩,e,q2⟩=>?_);subst ex ey;obtain rfl:u=Value.ref a:=rx;obtain⟨t,rfl⟩:=ry;have hm:=W.mapOf_K (w:=X.w) (prog:=X.prog) I2.kIn hl hk;have hz:=hf z;rw[e]at hz;obtain⟨w',hw,eJ⟩:=P2.some_of hz;exact⟨hm.typeIs,PySem.wpAny_getItem_of (strKind_is X.prog X.w z t) hm hw ⟨v,H2,I2.tok _,eJ,q2⟩⟩⟩
def jnh(K:ao)(ta:TE):TE:=fun σ H Q=>ta σ H fun x H1=>∃k,jkj K x H1 k/\Q (.bl (!k)) H1
def JP{a:aj}{ta:TE}(ha:QE X a ta):QE X (.UnaryOp .Not a x5) (jnh X.K ta):=⟨by
 intro ad s σ H Q I h;exact UnaryOp_ (Nn (ha.h ad s σ H _ I h) fun v s1 ⟨x,H1,I1,r1,k,e,q⟩=>not_of (Nn (jh9 ad s1 σ H1 x v (fun k H=>Q (.bl (!k)) H) I1 r1 ⟨k,e,q⟩) fun c s2 ⟨H2,I2,q2⟩=>⟨.bl (!c),H2,I2,rfl,q2⟩))⟩
def jnf(K:ao)(ta:TE):TT:=fun σ H Q=>ta σ H fun x H'=>∃k,jkj K x H' k/\Q k H'
def jdj{a:aj}{ta:TE}(ha:QE X a ta)(he:∀i5,isTrue a X.Ec i5=(do let v <- i5;xE a.pos;holding [v] (truthy v)):=by intro _;rfl):QT X a (jnf X.K ta):=⟨by
 intro ad s σ H Q I h;exact isTrue_plain (Nn (ha.h ad s σ H _ I h) fun v s1 ⟨x,H1,I1,r1,q1⟩=>jh9 ad s1 σ H1 x v Q I1 r1 q1) (he _)⟩
def jkt{K:ao}{H:Hp}{a:ac}{xs:List V}(h:H a=some (.lst xs)):jkj K (.ref a) H (!xs.isEmpty):=.inl ⟨xs,ES.of h,rfl⟩
def jkm{k k':Nat}{C:ac}{ps:List Str}{sp:Sp}{p:Pos}(F:Q0 X.prog X.w X.K X.mg X.base k x C ps sp)(hr:Np k' X.A)(hk:k+1<=k':=by decide)(hg:Gl X x:=by rfl)(hd:(x == ("__debug__" : Str))=false:=by decide):QE X (.Call (.Name x p) [] [] x5) (jfJ C sp [] E0 RI):=by obtain⟨f,fd,M,G,b,m⟩:=F.ex;exact⟨jiI M G (hr.mono hk) hg m b .nil jf7 hd⟩
end
open PySem PySem.Builtin PySem.Builtin.Str PySem.StrLaws PyProof.Rows
def qE(c:Nat):List (List Nat)->List Nat
 | []=>[]
 | [r]=>r
 | r :: s :: t=>r++c :: qE c (s :: t)
theorem JG{y:Str}{c:Nat}(hy:cd y=[c]):∀R:List Str,cd (cA y R)=qE c (R.map cd)
 | []=>rfl
 | [r]=>rfl
 | r :: s :: t=>by show cd (r++y++cA y (s :: t))=_;rw[jW,jW,hy,JG hy (s :: t),bq];rfl
theorem jbh(c:Nat):∀{R:List (List Nat)},R≠[]->(qE c R).count c+1=(R.map (List.count c)).sum+R.length
 | [],h=>absurd rfl h
 | [r],_=>by simp[qE]
 | r :: s :: t,_=>by have ih:=jbh c (R:=s :: t) NZ;show (r++c :: qE c (s :: t)).count c+1=_;rw[List.count_append,List.count_cons_self];simp only[bn,Ai,aM]at ih |-;omega
theorem jd5(c:Nat):∀{R S:List (List Nat)},R≠[]->S≠[]->(∀r∈R,c ∉ r)->(∀r∈S,c ∉ r)->qE c R=qE c S->R=S
 | [],_,h,_,_,_,_=>absurd rfl h
 | _,[],_,h,_,_,_=>absurd rfl h
 | [r],[s],_,_,_,_,e=>by rw[show r=s from e]
 | [r],s :: t :: u,_,_,hR,_,e=>by
  have e:r=s++c :: qE c (t :: u):=e;exact absurd (by rw[e];simp) (hR r (aZ.mpr rfl))
 | r :: s :: t,[u],_,_,_,hS,e=>by
  have e:r++c :: qE c (s :: t)=u:=e;exact absurd (by rw[<- e];simp) (hS u (aZ.mpr rfl))
 | r :: s :: t,u :: v :: w,_,_,hR,hS,e=>by
  have e:r++c :: qE c (s :: t)=u++c :: qE c (v :: w):=e;have hr:=hR r (aJ ..);have hu:=hS u (aJ ..);have key:r=u/\qE c (s :: t)=qE c (v :: w):=by
   rcases Pk.mp e with⟨a,e1,e2⟩ | ⟨a,e1,e2⟩
   .cases a with
    | nil=>rw[bE]at e1;exact⟨e1.symm,(md e2).2⟩
    | cons z a=>exact absurd (by rw[e1,<- (md e2).1];simp) hu
   .cases a with
    | nil=>rw[bE]at e1;exact⟨e1,(md e2).2.symm⟩
    | cons z a=>exact absurd (by rw[e1,<- (md e2).1];simp) hr
  rw[key.1,jd5 c NZ NZ (fun x hx=>hR x (aH _ hx)) (fun x hx=>hS x (aH _ hx)) key.2]
theorem jjp:∀{R S:List Str},R.map cd=S.map cd->R=S
 | [],[],_=>rfl
 | [],_ :: _,h=>by cases h
 | _ :: _,[],h=>by cases h
 | r :: R,s :: S,h=>by obtain⟨h1,h2⟩:=md h;rw[JH h1,jjp h2]
theorem ZD(s sub:Str)(hi oC c:Nat)(hc:cd sub=[c])(hh:hi=s.length):∀(l:List Nat) (st:Array Nat×Nat),l.Pairwise (· < ·)->(∀i∈l,st.snd<=i)->st.fst.size+l.length<=oC->
  (forIn l st (nI s sub hi oC)).run.fst.size=st.fst.size+(l.filter fun i=>(cd s)[i]? == some c).length
 | [],st,_,_,_=>rfl
 | a :: l,st,hp,hf,hz=>by
  have iF:=O3.mp hp;have hl:sub.length=1:=by rw[<- jY,hc];rfl
  rw[pZ];rw[aM]at hz;have bF:(a+sub.length<=hi/\subAt s sub a=true)↔(cd s)[a]?=some c:=by
   rw[hh,Kw (by rw[hc];simp),hc];constructor
   .rintro⟨t,e⟩
    have:((cd s).drop a)[0]?=some c:=by rw[<- e];rfl
    rwa [Pd,E4]at this
   .intro e
    have h2:((cd s).drop a)[0]?=some c:=by rw[Pd,E4];exact e
    cases hd:(cd s).drop a with
    | nil=>rw[hd]at h2;cases h2
    | cons x t=>rw[hd]at h2;cases h2;exact⟨t,rfl⟩
  unfold nI;by_cases h:(cd s)[a]?=some c
  .rw[PP ⟨⟨⟨N4,hf a (aJ ..)⟩,(bF.mpr h).1⟩,(bF.mpr h).2⟩]
   refine (ZD s sub hi oC c hc hh l _ iF.2 (fun i cM=>?_) (by simp only[PD];omega)).trans ?_
   .have:=iF.1 i cM
    show a+sub.length<=i;omega
   .rw[nX,PP (by rw[h];exact beq_self_eq_true _),aM]
    show (st.fst.push a).size+_=_;rw[PD];omega
  .rw[PN (fun z=>h (bF.mp ⟨z.1.2,z.2⟩))]
   refine (ZD s sub hi oC c hc hh l _ iF.2 (fun i cM=>hf i (aH _ cM)) (by show st.fst.size+l.length<=oC;omega)).trans ?_;rw[nX,PN (by simpa using h)]
theorem ZX(c:Nat):∀(l:List Nat) (k:Nat),((E8 k l.length).filter fun i=>l[i - k]? == some c).length=l.count c
 | [],_=>rfl
 | x :: l,k=>by
  have ih:=ZX c l (k+1);rw[aM,List.range'_succ,nX,List.count_cons];have e:((E8 (k+1) l.length).filter fun i=>(x :: l)[i - k]? == some c)=((E8 (k+1) l.length).filter fun i=>l[i - (k+1)]? == some c):=by
   refine List.filter_congr fun i hi=>?_
   obtain⟨j,hj,rfl⟩:=O4.mp hi;rw[show k+1+1 * j - k=j+1 from N4,show k+1+1 * j - (k+1)=j by omega];rfl
  rw[e,Nat.sub_self];by_cases hx:x=c
  .subst hx
   rw[PP NZ,aM,ih];simp
  .rw[PN (by simpa using hx),ih]
   simp[hx]
variable {y:Str}{c:Nat}
theorem ZE(hy:cd y=[c]):(occurrences x y 0 x.length (x.length+1)).length=(cd x).count c:=by
 rw[occ_eq,Aw,ZD x y x.length (x.length+1) c hy rfl _ _ (by simpa using O2 (s:=0) (n:=x.length+1 - 0)) (fun _ _=>cn _) NZ];have h:=ZX c (cd x) 0;rw[<- h,jY];show 0+_=_;rw[nR,Ac,List.range'_concat,Fg,az];have e:([0+1 * x.length].filter fun i=>(cd x)[i]? == some c).length=0:=by rw[nX,PN (by rw[Ao (by rw[jY];omega)];simp)];rfl
 rw[e];rfl
theorem jbG(hy:cd y=[c]):(Txt.split x y).length=(cd x).count c+1:=by
 unfold Txt.split;have hl:y.length=1:=by rw[<- jY,hy];rfl
 split
 .rename_i h
  rw[Au,decide_eq_true_eq,decide_eq_true_eq]at h;have h0:(cd x).count c=0:=by
   rw[<- ZE hy]
   cases e:occurrences x y 0 x.length (x.length+1) with
   | nil=>rfl
   | cons i r=>
    exfalso;obtain⟨f,hf⟩:=occ_chain x y (x.length+1);rw[e]at hf;have hA:=hf.2.1;rcases h with h | h
    .have:=hA.1
     omega
    .exact absurd (W.kind_le x y hA.2) N4
  rw[h0];rfl
 split
 .rename_i h
  have h0:(cd x).count c=0:=by rw[<- ZE hy,List.isEmpty_iff.mp h];rfl
  rw[h0];rfl
 .rw[partsBetween_eq,yZ,ZE hy]
theorem Ya(hy:cd y=[c]){R:List Str}(hR:R≠[])(hc:∀r∈R,c ∉ cd r):Txt.split (cA y R) y=R:=by
 have hj:=NT (cA y R) y;have hl:=jbG (x:=cA y R) hy;generalize Txt.split (cA y R) y=S at *;have hS:S≠[]:=fun z=>by rw[z]at hl;cases hl
 have e:=PR cd hj;rw[JG hy,JG hy]at e;have h1:=jbh c (R:=S.map cd) (by simpa using hS);rw[e]at h1;have h2:(cd (cA y R)).count c+1=S.length:=hl.symm;rw[JG hy]at h2;rw[av]at h1;have h0:((S.map cd).map (List.count c)).sum=0:=by omega
 have hz:∀r∈S.map cd,c ∉ r:=fun r hr=>by have:=List.sum_eq_zero_iff_forall_eq_nat.mp h0 (r.count c) (E_ hr);exact List.count_eq_zero.mp this
 have:=jd5 c (by simpa using hS) (by simpa using hR) hz (fun r hr=>by obtain⟨s,hs,rfl⟩:=fD.mp hr;exact hc s hs) e;exact jjp this
end L2
namespace PySem
open AutoSeq1 (wpAny_loadPart')
def Kq(l:ac)(e_:Array ae)(n:Nat)(sy:Option ac)(sl:Array (Option ae))(t:Tok):
  Meets (Builtin.«enumerate.__new__» ⟨[.type "enumerate",.ref l],[("start",.int 1 t)]⟩) (fun _ R s=>s.heap.get? l=some { cls:=.type "list",dict:=sy,data:=.seq e_ n,slots:=sl }/\
   R (.ok (.ret (.ref (s.heap.push { cls:=.type "list_iterator",data:=.fields #[.ref l,.int 0 0] }).objs.size)))
    { s with heap:=(s.heap.push { cls:=.type "list_iterator",data:=.fields #[.ref l,.int 0 0] }).push { cls:=.type "enumerate",data:=.fields #[.none,.bool false,.ref s.heap.objs.size,fq 1,.none,.none] } }):=
 .of_wp fun prog w A R s h=>by
  obtain⟨hp,g,d,tk,os⟩:=s;obtain⟨hl,h⟩:=h;have HA:=sub_enumerate;have hL:ak.IsList (af.heap ⟨hp,g,d,tk,os⟩) l e_:=⟨_,hl,rfl,n,rfl⟩
  wp_walk using wpAny_loadPart' hl;refine wpAny_stack_any fun st=>aO ?_
  split
  .rename_i c _ _ _ _ _
   cases (c == Value.type "enumerate")
   .wp_walk using wpAny_loadPart' hl,xC hL
    exact L2.Pp rfl h
   .wp_walk using wpAny_loadPart' hl,xC hL
    exact L2.Pp rfl h
  .wp_walk using wpAny_loadPart' hl,xC hL
   exact L2.Pp rfl h
variable {e_:Array ae}
section
variable {prog:aC}{w:ax}{A:aN}{E:ae->af->Prop}{s:af}
def Z4{T newId initId:String}{Bn Bi:Builtin}{args:List ae}{kw:List (Str×ae)}{S:Spec}{Q Q₁:ae->af->Prop}(ft:TypeCalled T newId initId)
  (vY:checkTypeCall T ⟨args,kw⟩=pure ()) (IH:D5 newId ⟨.type T :: args,kw⟩=pure ())
  (LH:entryFor table newId=some Bn) (LI:entryFor table initId=some Bi) (g:Meets (Bn ⟨.type T :: args,kw⟩) S)
  (h:S A.in1 (wants Q₁ E) s)
  (HU:∀obj s₁,Q₁ obj s₁->s₁.TypeIs obj T/\argsOk initId ⟨obj :: args,kw⟩/\∃Si,Meets (Bi ⟨obj :: args,kw⟩) Si/\Si A.in1 (wants (fun r s₂=>r=.none/\Q obj s₂) E) s₁) :
  am (au prog w) A (call (.type T) args kw) Q E s:=by
 obtain⟨c,tl,hmro⟩:=ft.mro
 have hmade:=ft.made
 have HA:=ft.sub
 refine lP (codeAny_of_tree ?_)
 show am _ _ (callAny (.type T) _) _ _ _
 refine aO ⟨y_ _ N3,codeAny_builtin F.entry_type_call ?_⟩
 rw[aN.under_plain (weight_type_call_type T args kw) (units_type_call_type T args kw)]
 have h1:=ft.notType
 have h2:=ft.canCreate
 repeat (any_goals (first | assumption | wp_step))
 refine lS (nB ft.plain LH (wpAny_of_eq IH (g prog w A.in1 _ s h))) fun r s₁ hr=>?_
 cases r with
 | error e=>exact hr
 | ok fl=>
  cases fl with
  | ret obj=>
   obtain⟨hT,hok,Si,gi,HC⟩:=HU _ _ hr
   have hli:=ft.init.lookup
   have mR:=ft.init.bind obj
   repeat (any_goals (first | assumption | wp_step))
   refine lS (nB ft.init.plain LI (ft.init.check _ _ _ _ _ _ _ _ hT hok (gi prog w A.in1 _ s₁ HC))) fun r₂ s₂ vp=>?_
   cases r₂ with
   | error e=>exact vp
   | ok fl₂=>
    cases fl₂ with
    | ret r=>
     obtain⟨rfl,hq⟩:=vp
     repeat (any_goals (first | assumption | wp_step))
    | _=>exact vp.elim
  | _=>exact hr.elim
def Yv{T newId:String}{self a:ae}{qm:List ae}{kw:List (Str×ae)}(hl:DT (.type T) "__init__" = pure (some (.builtin "object.__init__")))
  (hm:Bind.madeBy (.type T)=pure (some newId)) (aR:(some newId != some "object.__new__")=true) :
  Meets (Builtin.«object.__init__» ⟨self :: a :: qm,kw⟩) (fun _ R s=>s.TypeIs self T/\R (.ok (.ret .none)) s):=by
 refine Meets.of_wp fun prog w A R s hs=>?_
 obtain⟨hT,hq⟩:=hs
 repeat (any_goals (first | assumption | wp_step))
 exact L2.Pp rfl hq
def jfo{l:ac}{t:Tok}{Q:ae->af->Prop}(hL:s.heap.IsList l e_)
  (h:∀h',gG h' (s.heap.objs.size+1) s.heap.objs.size ((1:Nat):Int) .none->h'.IsListIter s.heap.objs.size l 0->h'.objs.size=s.heap.objs.size+2->
   (∀b o,s.heap.get? b=some o->h'.get? b=some o)->Q (.ref (s.heap.objs.size+1)) { s with heap:=h' }) :
  am (au prog w) A (call (.type "enumerate") [.ref l] [("start",.int 1 t)]) Q E s:=by
 obtain⟨⟨c,sy,dt,sl⟩,hl,hc,n,hd⟩:=hL
 replace hc:c=.type "list":=hc
 replace hd:dt=.seq e_ n:=hd
 subst hc hd
 refine Z4 (initId:="object.__init__") (Bi:=Builtin.«object.__init__») (Q₁:=fun obj s₁=>s₁.TypeIs obj "enumerate"/\Q obj s₁) ED (by kernel_rfl) (by kernel_rfl) F.entry_enumerate_new F.entry_object_init (Kq l e_ n sy sl t) ⟨hl,?_⟩ fun obj _ hq=>⟨hq.1,?_,_,Yv ED.init.lookup ED.made N5,hq.1,rfl,hq.2⟩
 .have hz:(s.heap.push { cls:=.type "list_iterator",data:=.fields #[.ref l,.int 0 0] }).objs.size=s.heap.objs.size+1:=pK ..
  show _/\_
  rw[hz]
  have he:gG ((s.heap.push { cls:=.type "list_iterator",data:=.fields #[.ref l,.int 0 0] }).push { cls:=.type "enumerate",data:=.fields #[.none,.bool false,.ref s.heap.objs.size,fq 1,.none,.none] }) (s.heap.objs.size+1) s.heap.objs.size ((1:Nat):Int) .none:=by have:=dU (s.heap.push { cls:=.type "list_iterator",data:=.fields #[.ref l,.int 0 0] }) (o:={ cls:=.type "enumerate",data:=.fields #[.none,.bool false,.ref s.heap.objs.size,fq 1,.none,.none] }) rfl;rw[hz]at this;exact this
  exact⟨⟨_,he,rfl⟩,h _ he ⟨_,bu _ (dU _ rfl),rfl,rfl⟩ (by rw[pK,hz]) fun b o x=>bu _ (bu _ x)⟩
 .unfold argsOk;rw[signature?_of (id:="object.__init__") (n:=['_','_','t','i','n','i','_','_']) (o:=['t','c','e','j','b','o']) (by kernel_rfl) F.owner_object];kernel_rfl
def jfn{e it l:ac}{i j:Nat}{x cQ:ae}{Q:Option ae->af->Prop}
  (he:gG s.heap e it j cQ) (iJ:s.heap.IsListIter it l i) (hl:s.heap.IsList l e_) (hx:e_[i]?=some x) (aR:e≠it)
  (hQ:∀h',xZ h' e it ((j:Int)+1) x s.heap.objs.size->h'.IsListIter it l (i+1)->h'.get? s.heap.objs.size=some { cls:=.type "tuple",data:=.seq #[.int j s.toks,x] }->h'.objs.size=s.heap.objs.size+1->
   (∀b o,b≠e->b≠it->s.heap.get? b=some o->h'.get? b=some o)->Q (some (.ref s.heap.objs.size)) { s with heap:=h',toks:=s.toks+1 }):am (au prog w) A (ny (.ref e)) Q E s:=by
 have hT:s.TypeIs (.ref e) "enumerate":=⟨_,he,rfl⟩
 unfold ny
 refine aq (DQ (MP (name:=aa "__next__") hT x8 (MO x8 hT Oh ?_ (Oj _))))
 exact jhG (St:=fun h=>h.IsListIter it l (i+1)) he aR (fun Q' k=>wpAny_nextOf_list_item iJ hl hx k) (fun h h' st k=>by obtain⟨o,h1,h2,h3⟩:=st;exact⟨o,k o h1,h2,h3⟩) fun h' a b c d k=>aO (hQ h' a b c d k)
def jhH{e it l:ac}{i j:Nat}{cQ:ae}{Q:Option ae->af->Prop}(hh:A.handled=none)
  (he:gG s.heap e it j cQ) (iJ:s.heap.IsListIter it l i) (hl:s.heap.IsList l e_) (hx:e_[i]?=none)
  (hQ:∀h',ak.ExtBut it s.heap h'->Q none { s with heap:=h' }):am (au prog w) A (ny (.ref e)) Q E s:=by
 have hT:s.TypeIs (.ref e) "enumerate":=⟨_,he,rfl⟩
 unfold ny
 refine aq (DQ (MP (name:=aa "__next__") hT x8 (MO x8 hT Oh ?_ (Oj _))))
 show am _ _ (field (.ref e) 2 >>= _) _ _ _
 refine aq (fX he rfl (x:=.ref it) rfl ?_)
 refine aq (wpAny_nextOf_list_end hh iJ hl hx fun h' x IB cL=>?_)
 obtain⟨o,ho,hc⟩:=cL
 refine aq (wpAny_isInstance (T:="StopIteration") (b:=true) ⟨o,ho,hc⟩ isSubtype_stop ?_)
 exact aO (hQ _ IB)
end
end PySem
namespace L2
open PySem PySem.Spec PyProof.Rows
def jkk(K:ao)(l:ac):It:=
 ⟨fun i H=>∃xs x,ES K H l xs/\xs[i]?=some x,fun i H x H'=>∃t y,H t=none/\(∀xs,ES K H l xs->xs[i]?=some y)/\x=.ref t/\H'=upd H t (.tup [.int ((i+1:Nat)),y]),fun i H=>∃xs,ES K H l xs/\xs.length<=i⟩
theorem jex{P:aC}{w:ax}{K:ao}{wz:List aj}{x1:Nat}{tp:Pos}(l e it:ac)(aR:e≠it):Rs P w K (.Tuple wz x1 tp) (jkk K l) [e,it] e (fun i h=>(∃cQ,gG h e it ((i+1:Nat)) cQ)/\h.IsListIter it l i) where
 mem:=by simp
 obj:=fun i h st b hb=>by
  obtain⟨⟨cQ,h1⟩,o,e2,c,d⟩:=st;rcases aA.mp hb with rfl | hb
  .exact⟨_,h1,fun v z=>by cases z⟩
  .rw[aZ.mp hb]
   exact⟨o,e2,fun v z=>by rw[d]at z;cases z⟩
 keep:=fun i h h' st k=>by obtain⟨⟨cQ,h1⟩,o,e2,c,d⟩:=st;exact⟨⟨cQ,k e NZ _ h1⟩,o,k it NZ o e2,c,d⟩
 item:=by
  intro X hP hw hK hc i ad s σ H E I hf st hg;subst hP hw hK;obtain⟨xs,x,hq,hx⟩:=hg;obtain⟨⟨cQ,hE⟩,iJ⟩:=st;obtain⟨Nc,rv,p,hz⟩:=I.list hq;obtain⟨u,hu,ru⟩:=rv.get hx;obtain⟨a0,a1,a2,a3,a4,a5⟩:=hf e NZ;obtain⟨f0,f1,f2,f3,f4,f5⟩:=hf it NZ;refine jfn hE iJ p.isList (x:=u) (by simpa using hu) aR fun h' o1 o2 o3 o4 o5=>?_
  refine Pp rfl (wpAny_letOwnedTupleGo_enum (s:={ s with heap:=h',toks:=s.toks+1 }) o1 fun h2 g1 g2=>?_);have bc:H s.heap.objs.size=none:=I.hok.fresh (aK _);have kp:∀b o,b≠e->b≠it->s.heap.get? b=some o->h2.get? b=some o:=fun b o hb cm q=>(g2.2 b hb).trans (o5 b o hb cm q)
  have nt:∀b o,s.heap.get? b=some o->b≠s.heap.objs.size:=fun b o q=>bU (aY q)
  have ne:∀b z,H b=some z->b≠e/\b≠it:=fun b z q=>⟨fun t=>(by rw[t,a0]at q;cases q),fun t=>(by rw[t,f0]at q;cases q)⟩
  have B9:s.heap.objs.size≠e:=fun z=>absurd (aY hE) (by rw[<- z];exact iY _)
  have I1:xJ X ad σ (upd H s.heap.objs.size (.tup [.int ((i+1:Nat)),x])) { s with heap:=h2,gens:=s.gens,drawn:=s.drawn,toks:=s.toks+1 }:=by
   refine I.step (g':=s.gens) (d':=s.drawn) (ch:=[e,it]) (fun b hb=>?_) (fun b o _ _ cF q _=>kp b o (fun z=>cF (by simp[z])) (fun z=>cF (by simp[z])) q) (fun b o _ _ cF q _=>⟨o.slots,kp b o (fun z=>cF (by simp[z])) (fun z=>cF (by simp[z])) q⟩) (fun b o _ q n=>by rw[jq (nt b o q)];exact n) (fun b o cF q=>⟨o,kp b o (fun z=>cF (by simp[z])) (fun z=>cF (by simp[z])) q⟩) (fun b ys q=>by rw[jq (jm q bc)];exact q) (fun b o z q=>by rw[jq (jm q bc)];exact q) (fun b ps q=>⟨#[],by rw[jq (jm q bc),q];simp⟩) (fun m hm=>?_) (fun b z q=>?_) I.bare
   .rcases aA.mp hb with rfl | hb
    .exact⟨a3,a1,a4,a5⟩
    .rw[aZ.mp hb];exact⟨f3,f1,f4,f5⟩
   .obtain⟨o,es,ep,ho,r⟩:=hm
    exact⟨o,es,ep,kp _ o (cj a1) (cj f1) ho,r⟩
   .by_cases hb:b=s.heap.objs.size
    .subst hb
     rw[jc]at q
     cases q
     refine⟨?_,[Value.int ((i+1:Nat):Int) s.toks,u],.cons ⟨_,rfl⟩ (.cons ru .nil),_,(g2.2 _ B9).trans o3,rfl,0,rfl⟩;show 2<=aF;rw[nv];decide
    .rw[jq hb]at q
     refine (I.hok b z q).stay (fun c v cF q'=>?_) (fun c q'=>by rw[jq (jm q' bc)];exact q') fun c ys q'=>by rw[jq (jm q' bc)];exact q'
     rcases cF with rfl | cF
     .exact kp c v (ne c z q).1 (ne c z q).2 q'
     .exact kp c v (ne c _ cF).1 (ne c _ cF).2 q'
  refine⟨.ref s.heap.objs.size,_,I1,rfl,⟨_,x,bc,fun ys hy=>by rw[I.list_inj hy hq];exact hx,rfl,rfl⟩,⟨⟨_,g1⟩,?_⟩,fun b hb=>?_⟩
  .obtain⟨o,z1,z2,z3⟩:=o2
   exact⟨o,(g2.2 it (cj aR)).trans z1,z2,z3⟩
  .rcases aA.mp hb with rfl | hb
   .rw[jq (cj B9)];exact a0
   .rw[aZ.mp hb]
    have:it≠s.heap.objs.size:=by obtain⟨o,z1,_⟩:=iJ;exact nt it o z1
    rw[jq this];exact f0
 done:=by intro X hP hw hK hc i ad s σ H E I hf st hg;subst hP hw hK;obtain⟨xs,hq,hx⟩:=hg;obtain⟨⟨cQ,hE⟩,iJ⟩:=st;obtain⟨Nc,rv,p,hz⟩:=I.list hq;obtain⟨f0,f1,f2,f3,f4,f5⟩:=hf it NZ;have hl:=rv.length;exact jhH (I.ok.hd hc) hE iJ p.isList (by simp;omega) fun h' eb=>⟨rfl,I.turned (t':=s.toks) (fun b o hb e=>eb b o hb e) f0 f1 f3 f4 f5⟩
 self:=fun _ _ _ _ _ st h=>by obtain⟨⟨cQ,hE⟩,_⟩:=st;exact MF hE h
section
variable {X:Cx}{wz:List aj}{x1:Nat}{tp:Pos}
def jmL(K:ao)(ta:TA):TI:=fun σ H R=>ta σ H fun vs H1=>∃l,vs=[.ref l]/\(∃xs,ES K H1 l xs)/\R (jkk K l) H1
def jbl{M:dj}{A:aN}{E:ae->af->Prop}{s:af}{x5:Pos}{T:String}{first:List ae}{args:List (Bool×Sem ae)}{uT:List (Option Str×Sem ae)}{Q:ae->af->Prop}
  (mG:args.any (·.1)=false) (Ig:uT.any (·.1.isNone)=false)
  (h:am M A (evalArgs (.type T) true args uT) (fun a s₁=>am M A (call (.type T) (first++a.pos) a.kw) Q E s₁) E s) :
  am M A (tm x5 (.type T) first args uT) Q E s:=by
 unfold tm
 refine aq (ic (bz h (fun a s₁ h₁=>aq (lO ?_)) fun _ _ x=>x))
 simp only[mG,Ig,Fl]
 refine aq (aO ?_)
 exact aq (bz h₁ (fun r s₂ hr=>aq (ic (wpAny_point (aO hr)))) fun _ _ x=>x)
theorem jhD{K:ao}{l:ac}{xs:List V}{g:TG}{tb:TS}{D:OK}{σ:St}{H:Hp}(Pv:Nat->St->Hp->Prop)(h0:Pv 0 σ H)(hl:∀i σ H,i<=xs.length->Pv i σ H->ES K H l xs)
  (hs:∀i y σ H t,xs[i]?=some y->Pv i σ H->H t=none->g (.ref t) σ (upd H t (.tup [.int ((i+1:Nat)),y])) fun σ2 H2=>tb { D with nx:=Pv (i+1),ct:=Pv (i+1),bk:=D.nx } σ2 H2) (hd:∀σ H,Pv xs.length σ H->D.nx σ H) :
  ∃W:Nat->Nat->St->Hp->Prop,(∃m,W 0 m σ H)/\∀i m σ H,W i m σ H->
   ((jkk K l).stop i H/\D.nx σ H)\/((jkk K l).go i H/\∃N:St->Hp->Prop,(∀σ' H',N σ' H'->∃m',m' < m/\W (i+1) m' σ' H')/\∀x H',(jkk K l).yld i H x H'->g x σ H' fun σ2 H2=>tb { D with nx:=N,ct:=N,bk:=D.nx } σ2 H2):=by
 refine⟨fun i m σ H=>m=xs.length - i/\i<=xs.length/\Pv i σ H,⟨xs.length,NZ,cn _,h0⟩,?_⟩
 rintro i m σ H ⟨rfl,hi,p⟩
 have q:=hl i σ H hi p
 by_cases cS:i < xs.length
 .refine .inr ⟨⟨xs,xs[i],q,by simp[cS]⟩,Pv (i+1),fun σ' H' p'=>⟨xs.length - (i+1),N4,rfl,cS,p'⟩,fun x H' y=>?_⟩
  obtain⟨t,z,ht,hz,rfl,rfl⟩:=y
  exact hs i z σ H t (hz xs q) p ht
 .have:i=xs.length:=by omega
  subst this
  exact .inl ⟨⟨xs,q,aK _⟩,hd σ H p⟩
def jgI{a:aj}{c:Const}{kn:Nat}{kp cp:Pos}{ta:TA}{p x5:Pos}(hg:Gl X "enumerate")(hm:X.mg "enumerate" = none)(ha:QA X [a] ta)(hv:QE X (.Constant c kn cp) (tC (.int 1)):=by exact je)(hs:aX [a] X.Ec=[(false,eval a X.Ec)]:=by rfl):QI X (.Tuple wz x1 tp) (.Call (.Name "enumerate" p) [a] [⟨some "start",.Constant c kn cp,kp⟩] x5) (jmL X.K ta):=⟨by
 intro ad s σ H R I h;refine iR (ZJ I hg hm jdh ?_);refine jbl (by rw[hs];rfl) rfl ?_;have fg:=ha.h x5 ad s σ H _ I h;rw[hs]at fg |-;refine evalArgs_kwB rfl (Nn fg fun us s1 hM=>?_);obtain⟨vs,H1,I1,r1,q1⟩:=hM;obtain⟨l,e,⟨xs,hq⟩,q⟩:=q1;subst e;obtain⟨u,rfl,rx⟩:=zB r1
 cases rx
 refine kws_cons (Nn (hv.h ad s1 σ H1 (fun v H2=>v=.int 1/\H2=H1) I1 ⟨rfl,rfl⟩) fun kv s2 ⟨v,H2,I2,rv,e1,e2⟩=>kws_nil ?_);subst e1 e2;obtain⟨tk,rfl⟩:=rv;obtain⟨Nc,rv,pl,hz⟩:=I2.list hq;refine jfo (t:=tk) pl.isList fun h' g1 g2 g3 g4=>?_
 refine MF (s:={ s2 with heap:=h' }) g1 ?_;have I3:xJ X ad σ H2 { s2 with heap:=h' }:=I2.kept (t':=s2.toks) g4;refine⟨s2.heap.objs.size+1,[s2.heap.objs.size+1,s2.heap.objs.size],_,_,Pp rfl ⟨I3,jex l _ _ (Nat.succ_ne_self _),⟨⟨_,g1⟩,g2⟩,fun b hb=>?_,q⟩⟩;rcases aA.mp hb with rfl | hb
 .exact I2.fpOk (fB _) (I2.hok.fresh (fB _))
 .rw[aZ.mp hb]
  exact I2.fpOk (aK _) (I2.hok.fresh (aK _))⟩
end
end L2
namespace LW
open PySem L2
abbrev zb:ay:=jc5 (NS 10) 0
abbrev zY:ay:=jc5 (NS 11) 0
abbrev Yn:ay:=NS 14
structure QK(K:ao)(C:ac):Prop where
 c:RQ K C
 n1:Pz K C "procedures"
 n2:Pz K C "bodies"
structure Qt(K:ao)(C:ac):Prop where
 c:RQ K C
 n1:Pz K C "kind"
 n2:Pz K C "head"
 n3:Pz K C "claims"
 n4:Pz K C "gives"
 n5:Pz K C "first"
 n6:Pz K C "statements"
def jnv(lp lb:ac):List (Str×V):=[("procedures",.ref lp),("bodies",.ref lb)]
def K1(k:Str)(vh:V)(c g:ac)(vf:V)(s:ac):List (Str×V):=[("kind",.str k),("head",vh),("claims",.ref c),("gives",.ref g),("first",vf),("statements",.ref s)]
structure Fr where
 kind:Str
 gv:Bool
 st:Bool
structure BA where
 b:ac
 c:ac
 g:ac
 s:ac
def BA.ls(A:BA):List ac:=[A.c,A.g,A.s]
def Qb(CB:ac)(n:Nat)(H:Hp)(A:BA)(F:Fr):Prop:=∃dx vh vf cs gs ss,H A.b=some (.ins CB dx (K1 F.kind vh A.c A.g vf A.s))/\H A.c=some (.lst cs)/\cs.length<=n/\H A.g=some (.lst gs)/\gs.length<=n/\(!gs.isEmpty)=F.gv/\H A.s=some (.lst ss)/\ss.length<=n/\(!ss.isEmpty)=F.st/\(F.kind = "proc"->∃t xs,vh=.ref t/\H t=some (.tup xs)/\xs.length=3)
def Qg(CB:ac)(n:Nat)(H:Hp):List BA->List Fr->Prop
 | [],[]=>True
 | A :: As,F :: fs=>Qb CB n H A F/\Qg CB n H As fs
 | _,_=>False
variable {CB:ac}{n:Nat}{H H':Hp}{A:BA}{F:Fr}
def Qb.same(h:Qb CB n H A F)(s:ML H H'):Qb CB n H' A F:=by obtain⟨dx,vh,vf,cs,gs,ss,h1,h2,h3,h4,h5,h6,h7,h8,h9,bp⟩:=h;exact⟨dx,vh,vf,cs,gs,ss,s _ _ h1,s _ _ h2,h3,s _ _ h4,h5,h6,s _ _ h7,h8,h9,fun e=>by obtain⟨t,xs,e1,e2,e3⟩:=bp e;exact⟨t,xs,e1,s _ _ e2,e3⟩⟩
variable {a:ac}{xs:List V}
def Qb.keep(h:Qb CB n H A F)(k:uo a H H')(ha:H a=some (.lst xs))(hn:a ∉ A.ls):Qb CB n H' A F:=by obtain⟨dx,vh,vf,cs,gs,ss,h1,h2,h3,h4,h5,h6,h7,h8,h9,bp⟩:=h;unfold BA.ls at hn;simp only[aA,fC,or_false,not_or]at hn;obtain⟨n1,n2,n3⟩:=hn;exact⟨dx,vh,vf,cs,gs,ss,k _ _ (fun z=>by rw[z,ha]at h1;cases h1) h1,k _ _ (cj n1) h2,h3,k _ _ (cj n2) h4,h5,h6,k _ _ (cj n3) h7,h8,h9,fun e=>by obtain⟨t,xs,e1,e2,e3⟩:=bp e;exact⟨t,xs,e1,(k.tk ha) _ _ e2,e3⟩⟩
def Qb.mono{m:Nat}(h:Qb CB n H A F)(l:n<=m):Qb CB m H A F:=by obtain⟨dx,vh,vf,cs,gs,ss,h1,h2,h3,h4,h5,h6,h7,h8,h9,bp⟩:=h;exact⟨dx,vh,vf,cs,gs,ss,h1,h2,aw h3 l,h4,aw h5 l,h6,h7,aw h8 l,h9,bp⟩
def Qg.mono{m:Nat}(l:n<=m):∀{As:List BA} {fs:List Fr},Qg CB n H As fs->Qg CB m H As fs
 | [],[],h=>h
 | _ :: _,_ :: _,h=>⟨h.1.mono l,h.2.mono l⟩
 | [],_ :: _,h=>h.elim
 | _ :: _,[],h=>h.elim
theorem Qg.live:∀{As:List BA} {fs:List Fr},Qg CB n H As fs->a∈As.flatMap BA.ls++As.map BA.b->∃o,H a=some o
 | [],_,_,h=>nomatch h
 | A :: As,[],h,_=>h.elim
 | A :: As,F :: fs,h,z=>by
  obtain⟨dx,vh,vf,cs,gs,ss,h1,h2,_,h4,_,_,h7,_⟩:=h.1;have z:a=A.c\/a=A.g\/a=A.s\/a=A.b\/a∈As.flatMap BA.ls++As.map BA.b:=by simp only[ma,bn,aL,aA,BA.ls,fC,or_false]at z |-;grind
  rcases z with rfl | rfl | rfl | rfl | z
  .exact⟨_,h2⟩
  .exact⟨_,h4⟩
  .exact⟨_,h7⟩
  .exact⟨_,h1⟩
  .exact h.2.live z
def Qg.same(s:ML H H'):∀{As:List BA} {fs:List Fr},Qg CB n H As fs->Qg CB n H' As fs
 | [],[],h=>h
 | _ :: _,_ :: _,h=>⟨h.1.same s,h.2.same s⟩
 | [],_ :: _,h=>h.elim
 | _ :: _,[],h=>h.elim
def Qg.keep(k:uo a H H')(ha:H a=some (.lst xs)):∀{As:List BA} {fs:List Fr},Qg CB n H As fs->a ∉ As.flatMap BA.ls->Qg CB n H' As fs
 | [],[],h,_=>h
 | A :: As,_ :: _,h,n=>by
  rw[ma,aL,not_or]at n;exact⟨h.1.keep k ha n.1,h.2.keep k ha n.2⟩
 | [],_ :: _,h,_=>h.elim
 | _ :: _,[],h,_=>h.elim
structure Qj where
 r:ac
 dx:ac
 lp:ac
 lb:ac
 As:List BA
def Qj.lsts(L:Qj):List ac:=L.lp :: L.lb :: L.As.flatMap BA.ls
def Qj.inss(L:Qj):List ac:=L.r :: L.As.map BA.b
def JN(As:List BA):List V:=(As.map fun A=>V.ref A.b).reverse
structure NA(CR CB:ac)(H0:Hp)(n:Nat)(H:Hp)(L:Qj)(fs:List Fr):Prop where
 r:H L.r=some (.ins CR L.dx (jnv L.lp L.lb))
 p:∃pv,H L.lp=some (.lst pv)/\pv.length<=n
 b:H L.lb=some (.lst (JN L.As))
 f:Qg CB n H L.As fs
 nd:L.lsts.Nodup
 nb:L.inss.Nodup
 fl:∀a∈L.lsts++L.inss,H0 a=none
 ln:L.As.length<=n
 s:ML H0 H
variable {H0:Hp}{L:Qj}{As:List BA}{v:V}
section
variable {CR:ac}{G:Hp}{m:Nat}{fs:List Fr}{F':Fr}
def NA.same(h:NA CR CB H0 n H L fs)(s:ML H H'):NA CR CB H0 n H' L fs:=by obtain⟨pv,h1,h2⟩:=h.p;exact⟨s _ _ h.r,⟨pv,s _ _ h1,h2⟩,s _ _ h.b,h.f.same s,h.nd,h.nb,h.fl,h.ln,h.s.trans s⟩
def NA.mono(h:NA CR CB H0 n H L fs)(l:n<=m):NA CR CB H0 m H L fs:=by obtain⟨pv,h1,h2⟩:=h.p;exact⟨h.r,⟨pv,h1,aw h2 l⟩,h.b,h.f.mono l,h.nd,h.nb,h.fl,aw h.ln l,h.s⟩
def ML.keepN(s:ML H0 H)(k:uo a H H')(h:H0 a=none):ML H0 H':=fun b o e=>k _ _ (jm e h) (s _ _ e)
def NA.mod(h:NA CR CB H0 n H L (F :: fs))(eA:L.As=A :: As)(k:uo a H H')(hm:a∈A.ls)(ha:H a=some (.lst xs))(hB:Qb CB n H' A F'):NA CR CB H0 n H' L (F' :: fs):=by
 obtain⟨pv,h1,h2⟩:=h.p;have nd:=h.nd;have f:=h.f;have gU:a∈L.As.flatMap BA.ls:=by rw[eA,ma];exact cB _ hm
 unfold Qj.lsts at nd;obtain⟨n1,n2⟩:=bM.mp nd;obtain⟨n3,n4⟩:=bM.mp n2;have uM:L.lp≠a:=fun z=>n1 (aH _ (z ▸ gU))
 have rE:L.lb≠a:=fun z=>n3 (z ▸ gU)
 refine⟨k _ _ (fun z=>by have:=h.r;rw[z,ha]at this;cases this) h.r,⟨pv,k _ _ uM h1,h2⟩,k _ _ rE h.b,?_,h.nd,h.nb,h.fl,h.ln,ML.keepN h.s k (h.fl a (cB _ (aH _ (aH _ gU))))⟩;rw[eA]at f n4 |-;rw[ma]at n4;exact⟨hB,f.2.keep k ha fun z=>(nU.mp n4).2.2 a hm a z rfl⟩
def NA.proc{pv:List V}(h:NA CR CB H0 n H L fs)(hp:H L.lp=some (.lst pv))(hn:pv.length < n)(k:uo L.lp H H')(e:H' L.lp=some (.lst (pv++[v]))):NA CR CB H0 n H' L fs:=by have nd:=h.nd;unfold Qj.lsts at nd;obtain⟨n1,n2⟩:=bM.mp nd;exact⟨k _ _ (fun z=>by have:=h.r;rw[z,hp]at this;cases this) h.r,⟨_,e,by rw[az];exact hn⟩,k _ _ (fun z=>n1 (z ▸ aJ ..)) h.b,h.f.keep k hp fun z=>n1 (aH _ z),h.nd,h.nb,h.fl,h.ln,ML.keepN h.s k (h.fl _ (cB _ (aJ ..)))⟩
theorem NA.pop(h:NA CR CB H0 n H L (F :: fs))(eA:L.As=A :: As)(k:uo L.lb H H')(e:H' L.lb=some (.lst (JN As))):NA CR CB H0 n H' { L with As:=As } fs:=by
 obtain⟨pv,h1,h2⟩:=h.p;have nd:=h.nd;have nb:=h.nb;have f:=h.f;have fl:=h.fl;have ln:=h.ln;unfold Qj.lsts Qj.inss at fl;unfold Qj.lsts at nd;unfold Qj.inss at nb;rw[eA]at nd nb f fl ln;rw[ma]at nd fl;rw[bn]at nb fl;obtain⟨n1,n2⟩:=bM.mp nd;obtain⟨n3,n4⟩:=bM.mp n2;have n5:=(nU.mp n4).2.1;refine⟨k _ _ (fun z=>by have:=h.r;rw[z,h.b]at this;cases this) h.r,⟨pv,k _ _ (fun z=>n1 (z ▸ aJ ..)) h1,h2⟩,e,f.2.keep k h.b (fun z=>n3 (bV _ z)),?_,?_,?_,Nat.le_of_succ_le ln,ML.keepN h.s k (fl _ NZ)⟩
 .show (L.lp :: L.lb :: As.flatMap BA.ls).Nodup
  simp only[bM,aA,aL,not_or]at nd |-;exact⟨⟨nd.1.1,nd.1.2.2⟩,nd.2.1.2,n5⟩
 .show (L.r :: As.map BA.b).Nodup
  simp only[bM,aA,not_or]at nb |-;exact⟨nb.1.2,nb.2.2⟩
 .intro a ha
  have ha:a∈(L.lp :: L.lb :: As.flatMap BA.ls)++L.r :: As.map BA.b:=ha;refine fl a ?_;simp only[aL,aA]at ha |-;grind
theorem NA.push(h:NA CR CB H0 n H L fs)(hl:L.As.length < n)(s:ML H G)(hB:Qb CB n G A F)(hn:∀a∈A.b :: A.ls,H a=none)(hd:A.ls.Nodup)(k:uo L.lb G H')(e:H' L.lb=some (.lst (JN L.As++[.ref A.b]))):NA CR CB H0 n H' { L with As:=A :: L.As } (F :: fs):=by
 have hg:=h.same s;obtain⟨pv,h1,h2⟩:=hg.p;have live:∀a∈L.lsts++L.inss,∃o,H a=some o:=by
  intro a ha;obtain⟨pv,z,_⟩:=h.p;have ha:a=L.lp\/a=L.lb\/a=L.r\/a∈L.As.flatMap BA.ls++L.As.map BA.b:=by unfold Qj.lsts Qj.inss at ha;simp only[aL,aA]at ha |-;grind
  rcases ha with rfl | rfl | rfl | ha
  .exact⟨_,z⟩
  .exact⟨_,h.b⟩
  .exact⟨_,h.r⟩
  .exact h.f.live ha
 have new:∀a∈A.b :: A.ls,a ∉ L.lsts++L.inss:=fun a ha hb=>by obtain⟨o,e⟩:=live a hb;rw[hn a ha]at e;cases e
 have h0:∀a,H a=none->H0 a=none:=fun a ha=>by
  cases e:H0 a with
  | none=>rfl
  | some o=>rw[h.s _ _ e]at ha;cases ha
 have nd:=h.nd;unfold Qj.lsts Qj.inss at new;unfold Qj.lsts at nd;simp only[aL,aA,not_or]at new;obtain⟨n1,n2⟩:=bM.mp nd;obtain⟨n3,n4⟩:=bM.mp n2;have rE:L.lb ∉ A.ls:=fun z=>(new L.lb (.inr z)).1.2.1 rfl
 have uM:L.lp ∉ A.ls:=fun z=>(new L.lp (.inr z)).1.1 rfl
 refine⟨k _ _ (fun z=>by have:=hg.r;rw[z,hg.b]at this;cases this) hg.r,⟨pv,k _ _ (fun z=>n1 (z ▸ aJ ..)) h1,h2⟩,?_,⟨hB.keep k hg.b rE,hg.f.keep k hg.b n3⟩,?_,?_,?_,hl,ML.keepN hg.s k (h.fl _ (cB _ (aH _ (aJ ..))))⟩
 .rw[e]
  show _=some (HO.lst ((V.ref A.b :: L.As.map _).reverse));rw[tY];rfl
 .show (L.lp :: L.lb :: (A.ls++L.As.flatMap BA.ls)).Nodup
  simp only[aA,not_or]at n1;simp only[bM,aA,aL,not_or,nU];exact⟨⟨n1.1,uM,n1.2⟩,⟨rE,n3⟩,hd,n4,fun x hx y hy z=>(new x (.inr hx)).1.2.2 (z ▸ hy)⟩
 .have nb:=h.nb
  unfold Qj.inss at nb;obtain⟨m1,m2⟩:=bM.mp nb;have z:=new A.b (.inl rfl);show (L.r :: A.b :: L.As.map BA.b).Nodup;simp only[bM,aA,not_or];exact⟨⟨fun e=>z.2.1 e.symm,m1⟩,z.2.2,m2⟩
 .intro a ha
  have ha:a∈(L.lp :: L.lb :: (A.ls++L.As.flatMap BA.ls))++L.r :: A.b :: L.As.map BA.b:=ha;by_cases hm:a∈A.b :: A.ls
  .exact h0 a (hn a hm)
  .refine h.fl a ?_
   unfold Qj.lsts Qj.inss;simp only[aL,aA]at ha hm |-;grind
end
def jbH(CR:ac):Sp:=fun vs H Q _=>∃(r dx:ac),vs=[.ref r]/\H r=some (.ins CR dx [])/\∀lp lb H',uo r H H'->H lp=none->H lb=none->lp≠lb->H' r=some (.ins CR dx (jnv lp lb))->H' lp=some (.lst [])->H' lb=some (.lst [])->Q .non H'
def jaB(CB:ac):Sp:=fun vs H Q _=>∃(dx b:ac) (k:Str) (vh:V),vs=[.ref b,.str k,vh]/\H b=some (.ins CB dx [])/\∀c g s vf H',uo b H H'->H c=none->H g=none->H s=none->[c,g,s].Nodup->H' b=some (.ins CB dx (K1 k vh c g vf s))->H' c=some (.lst [])->H' g=some (.lst [])->H' s=some (.lst [])->Q .non H'
def za(C CR CB:ac):Sp:=fun vs H Q E=>∃(H0:Hp) (k:Nat) (L:Qj) (fs:List Fr) (n:Int),vs=[.ref L.r,.int n]/\n.natAbs < 10 ^ 20/\NA CR CB H0 k H L fs/\(∀A As F fs',L.As=A :: As->fs=F :: fs'->Qb CB k H A F->Q (.ref A.b) H)/\(fs=[]->Rh C n E H0)
variable {C dx:ac}
def Su{b p:ac}{fs fs':List (Str×V)}{o:HO}(e:H b=some (.ins C dx fs))(hp:H p=none):uo b H (upd (upd H p o) b (.ins C dx fs'))/\upd (upd H p o) b (.ins C dx fs') b=some (.ins C dx fs')/\upd (upd H p o) b (.ins C dx fs') p=some o/\∀a,upd (upd H p o) b (.ins C dx fs') a=none->H a=none:=by
 refine⟨(uo.same (jd hp _)).trans (uo.upd b _ _),jc,by rw[jq (jm e hp).symm];exact jc,fun a ha=>?_⟩;by_cases z:a=b
 .rw[z,jc]at ha;cases ha
 by_cases z2:a=p
 .rw[jq z,z2,jc]at ha;cases ha
 .rw[jq z,jq z2]at ha;exact ha
variable {P:aC}{w:ax}{K:ao}{mg:Str->Option ae}{base:ak}{f:ac}{fd:aE}
section
variable {C1 CR:ac}
def jeV(T:QK K CR)(F:Fun K "__init__" "Reading.__init__" zb f fd):MT P w K mg base PU 1 f fd ["self"] (jbH CR):=by
 have sc:tS ["self"] ["self"] (jo zb):=fQ;refine F.okZ sc (fun aB A iw s H vs Q E hr h=>?_);obtain⟨r,dx,rfl,bS,q⟩:=h;refine⟨_,(ja (zy (bB 0) (jI qf) rfl) (jg (zy (bB 0) (jI qf) rfl))),?_⟩
 refine kK ?_;refine⟨sm rfl,fun lp lq=>?_⟩;have n1:lp≠r:=fun z=>by rw[z,bS]at lq;cases lq
 refine Pp rfl ⟨r,CR,dx,[],rfl,(by rw[jq n1.symm];exact bS),T.c,T.n1,by show 0 < 1000;decide,?_⟩;refine⟨sm rfl,fun lb cx=>?_⟩;have n2:lb≠r:=fun z=>by rw[z,jc]at cx;cases cx
 have n3:lb≠lp:=fun z=>by rw[z,jq n1,jc]at cx;cases cx
 refine Pp rfl ⟨r,CR,dx,Pp rfl ⟨(by rw[jq n2.symm];exact jc),T.c,T.n2,by show 1 < 1000;decide,?_⟩⟩;rw[jq n2,jq n3]at cx;refine q lp lb _ (fun b o hb e=>?_) lq cx n3.symm jc ?_ ?_
 .rw[jq hb,jq (jm e cx),jq hb,jq (jm e lq)];exact e
 .rw[jq n1,jq n3.symm,jq n1];exact jc
 .rw[jq n2];exact jc
def jk8(T:Qt K CB)(F:Fun K "__init__" "Body.__init__" zY f fd):MT P w K mg base PU 1 f fd M8 (jaB CB):=by
 have sc:tS M8 M8 (jo zY):=fQ;refine F.okZ sc (fun aB A iw s H vs Q E hr h=>?_);obtain⟨dx,b,k,vh,rfl,hb,q⟩:=h;refine⟨_,(ja (zy (bB 0) (bB 1) rfl) (ja (zy (bB 0) (bB 2) rfl) (ja (zy (bB 0) (jI qf) rfl) (ja (zy (bB 0) (jI qf) rfl) (ja (zy (bB 0) (jG qf) rfl) (jg (zy (bB 0) (jI qf) rfl))))))),?_⟩
 refine kK ?_
 try dsimp only[qF]
 refine jnX ?_;intro _ _ _ _ _;refine Ps rfl rfl ⟨b,CB,dx,Pp rfl ⟨hb,T.c,T.n1,by show 0 < 1000;decide,?_⟩⟩;refine Ps rfl rfl ⟨b,CB,dx,Pp rfl ⟨jc,T.c,T.n2,by show 1 < 1000;decide,?_⟩⟩;have k0:uo b H (upd (upd H b (.ins CB dx (ze "kind" (.str k) []))) b (.ins CB dx (ze "head" vh (ze "kind" (.str k) [])))):=(uo.upd b H _).trans (uo.upd b _ _);have e0:upd (upd H b (.ins CB dx (ze "kind" (.str k) []))) b (.ins CB dx (ze "head" vh (ze "kind" (.str k) []))) b=some (.ins CB dx [("kind",.str k),("head",vh)]):=jc;have f0:∀a,upd (upd H b (.ins CB dx (ze "kind" (.str k) []))) b (.ins CB dx (ze "head" vh (ze "kind" (.str k) []))) a=none->H a=none:=fun a ha=>by
  by_cases z:a=b
  .rw[z,jc]at ha;cases ha
  .rw[jq z,jq z]at ha;exact ha
 generalize upd (upd H b (.ins CB dx (ze "kind" (.str k) []))) b (.ins CB dx (ze "head" vh (ze "kind" (.str k) [])))=H1 at *;refine⟨sm rfl,fun c hc=>(Pp rfl ⟨b,CB,dx,Pp rfl ⟨(by rw[jq (jm e0 hc)];exact e0),T.c,T.n3,by show 2 < 1000;decide,?_⟩⟩)⟩;obtain⟨k1,e1,c1,f1⟩:=Su (o:=.lst []) (fs':=[("kind",.str k),("head",vh),("claims",.ref c)]) e0 hc;refine (?_:jC _ _ _ _ (upd (upd H1 c (.lst [])) b (.ins CB dx [("kind",.str k),("head",vh),("claims",.ref c)])));generalize upd (upd H1 c (.lst [])) b (.ins CB dx [("kind",.str k),("head",vh),("claims",.ref c)])=H2 at *;refine⟨sm rfl,fun g hg=>(Pp rfl ⟨b,CB,dx,Pp rfl ⟨(by rw[jq (jm e1 hg)];exact e1),T.c,T.n4,by show 3 < 1000;decide,?_⟩⟩)⟩;obtain⟨k2,e2,c2,f2⟩:=Su (o:=.lst []) (fs':=[("kind",.str k),("head",vh),("claims",.ref c),("gives",.ref g)]) e1 hg;refine (?_:jC _ _ _ _ (upd (upd H2 g (.lst [])) b (.ins CB dx [("kind",.str k),("head",vh),("claims",.ref c),("gives",.ref g)])));generalize upd (upd H2 g (.lst [])) b (.ins CB dx [("kind",.str k),("head",vh),("claims",.ref c),("gives",.ref g)])=H3 at *;refine⟨sm rfl,fun p hp=>(Pp rfl ⟨b,CB,dx,Pp rfl ⟨(by rw[jq (jm e2 hp)];exact e2),T.c,T.n5,by show 4 < 1000;decide,?_⟩⟩)⟩;obtain⟨k3,e3,c3,f3⟩:=Su (o:=.tup []) (fs':=[("kind",.str k),("head",vh),("claims",.ref c),("gives",.ref g),("first",.ref p)]) e2 hp;dsimp only;rw[show ze "first" (V.ref p) [("kind",V.str k),("head",vh),("claims",V.ref c),("gives",V.ref g)]=([("kind",V.str k),("head",vh),("claims",V.ref c),("gives",V.ref g),("first",V.ref p)]:List (Str×V)) from rfl];generalize upd (upd H3 p (.tup [])) b (.ins CB dx [("kind",.str k),("head",vh),("claims",.ref c),("gives",.ref g),("first",.ref p)])=H4 at *;refine⟨sm rfl,fun s hs=>(Pp rfl ⟨b,CB,dx,Pp rfl ⟨(by rw[jq (jm e3 hs)];exact e3),T.c,T.n6,by show 5 < 1000;decide,?_⟩⟩)⟩;obtain⟨k4,e4,c4,f4⟩:=Su (o:=.lst []) (fs':=[("kind",.str k),("head",vh),("claims",.ref c),("gives",.ref g),("first",.ref p),("statements",.ref s)]) e3 hs;dsimp only;rw[show ze "statements" (V.ref s) [("kind",V.str k),("head",vh),("claims",V.ref c),("gives",V.ref g),("first",V.ref p)]=([("kind",V.str k),("head",vh),("claims",V.ref c),("gives",V.ref g),("first",V.ref p),("statements",V.ref s)]:List (Str×V)) from rfl];refine q c g s (.ref p) _ (k0.trans (k1.trans (k2.trans (k3.trans k4)))) (f0 _ hc) (f0 _ (f1 _ hg)) (f0 _ (f1 _ (f2 _ (f3 _ hs)))) ?_ e4 ?_ ?_ c4
 .have c3:=k3 _ _ (jm e0 hc).symm (k2 _ _ (jm e0 hc).symm c1)
  have g3:=k3 _ _ (jm e1 hg).symm c2;have n1:c≠g:=jm c1 hg;have n2:c≠s:=jm c3 hs;have n3:g≠s:=jm g3 hs;simp[n1,n2,n3]
 .exact k4 _ _ (jm e0 hc).symm (k3 _ _ (jm e0 hc).symm (k2 _ _ (jm e0 hc).symm c1))
 .exact k4 _ _ (jm e1 hg).symm (k3 _ _ (jm e1 hg).symm c2)
def ji9{fi:ac}{iN:aE}(T:QK K CR)(F:Fun K "innermost" "innermost" Yn f fd)(Z:SM K mg C C1 fi)(I:MT P w K mg base PU 1 fi iN M0 (jaA C))(hb:Nr K iN M0 []):MT P w K mg base (PY P w) 3 f fd Nj (za C CR CB):=by
 have sc:tS Nj Nj (jo Yn):=fQ;refine F.okD sc (fun aB A iw s H vs Q E hr W h=>?_);obtain⟨H0,k,L,fs,n,rfl,hn,hR,q1,q2⟩:=h;refine⟨_,(ja (jR (YH (jdj (j3 (bB 0) rfl))) (jg (K6 W rfl N9 Z.gn Z.fl.ex Z.fi Z.ty I hb hr (jp (bB 1)))) jH) (jg (jy (js jQ (j3 (bB 0) rfl) (K7 K8 je))))),?_⟩
 refine kK ?_;have hb:=hR.b;refine Pp rfl ⟨L.r,CR,L.dx,_,Pp rfl ⟨hR.r,T.c,T.n2,rfl,_,jkt hb,?_⟩⟩
 cases eA:L.As with
 | nil=>
  have:fs=[]:=by
   have f:=hR.f;rw[eA]at f
   cases fs with
   | nil=>rfl
   | cons _ _=>exact f.elim
  exact k9 ⟨_,rfl,(show 1<=1000 from N5),jaJ hn ((q2 this).mono hR.s)⟩
 | cons B As=>
  have f:=hR.f;rw[eA]at f hb
  cases fs with
  | nil=>exact f.elim
  | cons F' fs=>
   have aR:(JN (B :: As)).isEmpty=false:=by unfold JN;simp
   rw[aR];refine kT ?_;refine Pp rfl ⟨L.r,CR,L.dx,_,Pp rfl ⟨hR.r,T.c,T.n2,rfl,Pp rfl ⟨L.lb,_,Pq rfl rfl ⟨ES.of hb,?_,q1 B As F' fs eA rfl f.1⟩⟩⟩⟩;unfold JN;rw[bn,tY];exact jkc _ _
end
abbrev Ye:ay:=NS 17
abbrev Yg:ay:=NS 18
abbrev Yf:ay:=NS 19
abbrev Zw:ay:=NS 22
abbrev J3:ay:=NS 23
abbrev Qx:Type:=List Fr->Str->Option (List Fr)
def Jz(C CR CB:ac)(g:Qx):Sp:=fun vs H Q E=>∃(H0:Hp) (k:Nat) (L:Qj) (fs:List Fr) (z:Str) (n:Int),vs=[.ref L.r,.str z,.int n]/\z.length<=1000/\n.natAbs < 10 ^ 20/\k < 100000/\NA CR CB H0 k H L fs/\(∀fs',g fs z=some fs'->∀H' L',L'.r=L.r->NA CR CB H0 (k+1) H' L' fs'->Q .non H')/\(g fs z=none->Rh C n E H0)
def Qk(F:Fr):Fr:={ F with st:=true }
def Y9:Qx
 | [],_=>none
 | F :: fs,z=>if (decide (F.kind = "proc") && (!F.gv && !F.st))=true then (qh (cd z)).map fun _=>F :: fs else none
def Zb:Qx
 | [],_=>none
 | F :: fs,z=>if (decide (F.kind = "proc") && !F.st)=true then (qh (cd z)).map fun _=>{ F with gv:=true } :: fs else none
def Za:Qx
 | [],_=>none
 | F :: fs,z=>if (decide (F.kind = "while") && !F.st)=true then (qh (cd z)).map fun _=>F :: fs else none
def Sw:Qx
 | [],_=>none
 | F :: fs,z=>if j5 (cd z)=true then some (Qk F :: fs) else none
def YA:Qx
 | [],_=>none
 | F :: fs,z=>(qh (cd z)).map fun _=>Qk F :: fs
def jjr{CR:ac}{k:Nat}{fs:List Fr}(h:NA CR CB H0 k H L fs)(eA:L.As=A :: As):A.c≠A.g/\A.c≠A.s/\A.g≠A.s:=by have nd:=h.nd;unfold Qj.lsts at nd;rw[eA,ma]at nd;have n:=(nU.mp (bM.mp (bM.mp nd).2).2).1;unfold BA.ls at n;simp only[bM,aA,fC,or_false,not_or]at n;exact⟨n.1.1,n.1.2,n.2.1⟩
def jcx{x:V}{k:Nat}(h:xs.length<=k):(xs++[x]).length<=k+1:=by rw[az];exact iX h
def jfT{x:V}:(!(xs++[x]).isEmpty)=true:=by cases xs <;> rfl
section
variable {CR:ac}{k:Nat}{fs:List Fr}{cs:List V}
def NA.addC(h:NA CR CB H0 k H L (F :: fs))(eA:L.As=A :: As)(hc:H A.c=some (.lst cs)):NA CR CB H0 (k+1) (upd H A.c (.lst (cs++[v]))) L (F :: fs):=by
 obtain⟨n1,n2,n3⟩:=jjr h eA;have f:=h.f;rw[eA]at f;obtain⟨dx,vh,vf,sA,gs,ss,h1,h2,h3,h4,h5,h6,h7,h8,h9,bp⟩:=f.1;rw[hc]at h2
 cases h2
 have kk:=uo.upd A.c H (.lst (cs++[v]));exact (h.mono (fB k)).mod eA kk (aJ ..) hc ⟨dx,vh,vf,_,gs,ss,kk _ _ (fun z=>by rw[z,hc]at h1;cases h1) h1,jc,jcx h3,kk _ _ n1.symm h4,fA h5,h6,kk _ _ n2.symm h7,fA h8,h9,fun e=>by obtain⟨t,xs,e1,e2,e3⟩:=bp e;exact⟨t,xs,e1,(kk.tk hc) _ _ e2,e3⟩⟩
def NA.addG(h:NA CR CB H0 k H L (F :: fs))(eA:L.As=A :: As)(hc:H A.g=some (.lst cs)):NA CR CB H0 (k+1) (upd H A.g (.lst (cs++[v]))) L ({ F with gv:=true } :: fs):=by
 obtain⟨n1,n2,n3⟩:=jjr h eA;have f:=h.f;rw[eA]at f;obtain⟨dx,vh,vf,sA,gs,ss,h1,h2,h3,h4,h5,h6,h7,h8,h9,bp⟩:=f.1;rw[hc]at h4
 cases h4
 have kk:=uo.upd A.g H (.lst (cs++[v]));exact (h.mono (fB k)).mod eA kk (aH _ (aJ ..)) hc ⟨dx,vh,vf,_,_,ss,kk _ _ (fun z=>by rw[z,hc]at h1;cases h1) h1,kk _ _ n1 h2,fA h3,jc,jcx h5,jfT,kk _ _ n3.symm h7,fA h8,h9,fun e=>by obtain⟨t,xs,e1,e2,e3⟩:=bp e;exact⟨t,xs,e1,(kk.tk hc) _ _ e2,e3⟩⟩
def NA.addS(h:NA CR CB H0 k H L (F :: fs))(eA:L.As=A :: As)(hc:H A.s=some (.lst cs)):NA CR CB H0 (k+1) (upd H A.s (.lst (cs++[v]))) L (Qk F :: fs):=by
 obtain⟨n1,n2,n3⟩:=jjr h eA;have f:=h.f;rw[eA]at f;obtain⟨dx,vh,vf,sA,gs,ss,h1,h2,h3,h4,h5,h6,h7,h8,h9,bp⟩:=f.1;rw[hc]at h7
 cases h7
 have kk:=uo.upd A.s H (.lst (cs++[v]));exact (h.mono (fB k)).mod eA kk (aH _ (aH _ (aJ ..))) hc ⟨dx,vh,vf,_,gs,_,kk _ _ (fun z=>by rw[z,hc]at h1;cases h1) h1,kk _ _ n2 h2,fA h3,kk _ _ n3 h4,fA h5,h6,jc,jcx h8,jfT,fun e=>by obtain⟨t,xs,e1,e2,e3⟩:=bp e;exact⟨t,xs,e1,(kk.tk hc) _ _ e2,e3⟩⟩
end
variable {x:Str}{Q:VK}
def RN{y:Str}(h:Q (.bl (decide (x=y))) H):rEq (.str x) (.str y) H Q:=⟨rfl,by
 have e:decide (V.str x=V.str y)=decide (x=y):=decide_eq_decide.mpr ⟨fun h=>by injection h,fun h=>by rw[h]⟩;rw[e];exact h⟩
def jlb{b:Bool}(ha:H a=some (.lst xs))(e:(!xs.isEmpty)=b)(h:Q (.bl (!b)) H):∃k,jkj K (.ref a) H k/\Q (.bl (!k)) H:=⟨_,jkt ha,by rw[e];exact h⟩
def zI{k:Nat}(h:n<=k)(hk:k < 100000):n < aF:=Af h (l_ hk N5)
section
variable {CR:ac}
def jiR(T:Qt K CB)(F:Fun K "take_need" "take_need" Ye f fd)(bh:NI P w K mg base 3 "innermost" Nj (za C CR CB))(bx:NI P w K mg base 3 "refuse_unless" Nk (JU C))(fj:NI P w K mg base 9 "claim_read" NY (P5 C qh Cl.toD)):MT P w K mg base (PY P w) 10 f fd NR (Jz C CR CB Y9):=by
 have sc:tS EG NR (jo Ye):=fQ;refine F.okD sc (fun aB A iw s H vs Q E hr W h=>?_);obtain⟨H0,k,L,fs,z,n,rfl,hz,hn,hk,hR,q1,q2⟩:=h;refine⟨_,(ja (jh 3 sc.nd (jM bh W hr (jj (bB 0) (bB 2)))) (ja (jP (jM bx W hr (jj (qR (ki j6 (j3 (bB 3) rfl) jb (jA _)) (qR (JP (j3 (bB 3) rfl)) (qu (JP (j3 (bB 3) rfl))))) (bB 2)))) (jg (jP (jV bL cg cf ke (j3 (bB 3) rfl) (jp (jM fj W hr (jj (bB 1) (bB 2))))))))),?_⟩
 refine kK ?_
 try dsimp only[qF]
 refine Y7 ?_;intro _ _;refine Ps rfl rfl ⟨H0,k,L,fs,n,rfl,hn,hR,fun B As G fs' eA e hB=>?_,fun e=>q2 (by rw[e];rfl)⟩;subst e;obtain⟨dx,vh,vf,cs,gs,ss,h1,h2,h3,h4,h5,h6,h7,h8,h9,bp⟩:=hB;refine gQ ?_;simp only[Y9]at q1 q2;dsimp only[jC,SJ,zM,yM];refine Kx (b:=decide (G.kind = "proc")) (c:=!G.gv && !G.st) (fun q h=>⟨_,rfl,B.b,CB,dx,_,_,rfl,h1,T.c,T.n1,rfl,RN h⟩) (fun q h=>Kx (b:=!G.gv) (c:=!G.st) (fun q h=>⟨_,rfl,B.b,CB,dx,_,_,rfl,h1,T.c,T.n4,rfl,jlb h4 h6 h⟩) (fun q h=>⟨_,rfl,B.b,CB,dx,_,_,rfl,h1,T.c,T.n6,rfl,jlb h7 h9 h⟩) h) ?_;refine Pp rfl ⟨_,n,rfl,hn,fun e=>?_,fun e=>(q2 (by rw[e];rfl)).mono hR.s⟩;rw[PP e]at q1 q2;refine Pp rfl ⟨B.b,CB,dx,_,Pp rfl ⟨h1,T.c,T.n3,rfl,.inl ⟨rfl,_,ES.of h2⟩,Ps rfl rfl (rd hz hn (fun d e v H1 s1 hv=>?_) (fun e=>(q2 (by rw[e];rfl)).mono hR.s))⟩⟩;rw[e]at q1;exact⟨B.c,cs,v,rfl,rfl,s1 _ _ h2,zI h3 hk,q1 _ rfl _ L rfl ((hR.same s1).addC eA (s1 _ _ h2))⟩
def jiT(T:Qt K CB)(F:Fun K "take_give" "take_give" Yg f fd)(bh:NI P w K mg base 3 "innermost" Nj (za C CR CB))(bx:NI P w K mg base 3 "refuse_unless" Nk (JU C))(fj:NI P w K mg base 9 "claim_read" NY (P5 C qh Cl.toD)):MT P w K mg base (PY P w) 10 f fd NR (Jz C CR CB Zb):=by
 have sc:tS EG NR (jo Yg):=fQ;refine F.okD sc (fun aB A iw s H vs Q E hr W h=>?_);obtain⟨H0,k,L,fs,z,n,rfl,hz,hn,hk,hR,q1,q2⟩:=h;refine⟨_,(ja (jh 3 sc.nd (jM bh W hr (jj (bB 0) (bB 2)))) (ja (jP (jM bx W hr (jj (qR (ki j6 (j3 (bB 3) rfl) jb (jA _)) (qu (JP (j3 (bB 3) rfl)))) (bB 2)))) (jg (jP (jV bL cg cf ke (j3 (bB 3) rfl) (jp (jM fj W hr (jj (bB 1) (bB 2))))))))),?_⟩
 refine kK ?_
 try dsimp only[qF]
 refine Y7 ?_;intro _ _;refine Ps rfl rfl ⟨H0,k,L,fs,n,rfl,hn,hR,fun B As G fs' eA e hB=>?_,fun e=>q2 (by rw[e];rfl)⟩;subst e;obtain⟨dx,vh,vf,cs,gs,ss,h1,h2,h3,h4,h5,h6,h7,h8,h9,bp⟩:=hB;refine gQ ?_;simp only[Zb]at q1 q2;dsimp only[jC,SJ,zM,yM];refine Kx (b:=decide (G.kind = "proc")) (c:=!G.st) (fun q h=>⟨_,rfl,B.b,CB,dx,_,_,rfl,h1,T.c,T.n1,rfl,RN h⟩) (fun q h=>⟨_,rfl,B.b,CB,dx,_,_,rfl,h1,T.c,T.n6,rfl,jlb h7 h9 h⟩) ?_;refine Pp rfl ⟨_,n,rfl,hn,fun e=>?_,fun e=>(q2 (by rw[e];rfl)).mono hR.s⟩;rw[PP e]at q1 q2;refine Pp rfl ⟨B.b,CB,dx,_,Pp rfl ⟨h1,T.c,T.n4,rfl,.inl ⟨rfl,_,ES.of h4⟩,Ps rfl rfl (rd hz hn (fun d e v H1 s1 hv=>?_) (fun e=>(q2 (by rw[e];rfl)).mono hR.s))⟩⟩;rw[e]at q1;exact⟨B.g,gs,v,rfl,rfl,s1 _ _ h4,zI h5 hk,q1 _ rfl _ L rfl ((hR.same s1).addG eA (s1 _ _ h4))⟩
def jiS(T:Qt K CB)(F:Fun K "take_keep" "take_keep" Yf f fd)(bh:NI P w K mg base 3 "innermost" Nj (za C CR CB))(bx:NI P w K mg base 3 "refuse_unless" Nk (JU C))(fj:NI P w K mg base 9 "claim_read" NY (P5 C qh Cl.toD)):MT P w K mg base (PY P w) 10 f fd NR (Jz C CR CB Za):=by
 have sc:tS EG NR (jo Yf):=fQ;refine F.okD sc (fun aB A iw s H vs Q E hr W h=>?_);obtain⟨H0,k,L,fs,z,n,rfl,hz,hn,hk,hR,q1,q2⟩:=h;refine⟨_,(ja (jh 3 sc.nd (jM bh W hr (jj (bB 0) (bB 2)))) (ja (jP (jM bx W hr (jj (qR (ki j6 (j3 (bB 3) rfl) jb (jA _)) (qu (JP (j3 (bB 3) rfl)))) (bB 2)))) (jg (jP (jV bL cg cf ke (j3 (bB 3) rfl) (jp (jM fj W hr (jj (bB 1) (bB 2))))))))),?_⟩
 refine kK ?_
 try dsimp only[qF]
 refine Y7 ?_;intro _ _;refine Ps rfl rfl ⟨H0,k,L,fs,n,rfl,hn,hR,fun B As G fs' eA e hB=>?_,fun e=>q2 (by rw[e];rfl)⟩;subst e;obtain⟨dx,vh,vf,cs,gs,ss,h1,h2,h3,h4,h5,h6,h7,h8,h9,bp⟩:=hB;refine gQ ?_;simp only[Za]at q1 q2;dsimp only[jC,SJ,zM,yM];refine Kx (b:=decide (G.kind = "while")) (c:=!G.st) (fun q h=>⟨_,rfl,B.b,CB,dx,_,_,rfl,h1,T.c,T.n1,rfl,RN h⟩) (fun q h=>⟨_,rfl,B.b,CB,dx,_,_,rfl,h1,T.c,T.n6,rfl,jlb h7 h9 h⟩) ?_;refine Pp rfl ⟨_,n,rfl,hn,fun e=>?_,fun e=>(q2 (by rw[e];rfl)).mono hR.s⟩;rw[PP e]at q1 q2;refine Pp rfl ⟨B.b,CB,dx,_,Pp rfl ⟨h1,T.c,T.n3,rfl,.inl ⟨rfl,_,ES.of h2⟩,Ps rfl rfl (rd hz hn (fun d e v H1 s1 hv=>?_) (fun e=>(q2 (by rw[e];rfl)).mono hR.s))⟩⟩;rw[e]at q1;exact⟨B.c,cs,v,rfl,rfl,s1 _ _ h2,zI h3 hk,q1 _ rfl _ L rfl ((hR.same s1).addC eA (s1 _ _ h2))⟩
def jkZ(T:Qt K CB)(F:Fun K "take_any" "take_any" Zw f fd)(bh:NI P w K mg base 3 "innermost" Nj (za C CR CB))(cz:NI P w K mg base 4 "name_read" NY (P5 C yP K2)):MT P w K mg base (PY P w) 5 f fd NR (Jz C CR CB Sw):=by have sc:tS NR NR (jo Zw):=fQ;refine F.okD sc (fun aB A iw s H vs Q E hr W h=>?_);obtain⟨H0,k,L,fs,z,n,rfl,hz,hn,hk,hR,q1,q2⟩:=h;refine⟨_,(jg (jP (jV bL cg cf ke (j3 (jM bh W hr (jj (bB 0) (bB 2))) rfl) (jp (jG (jj jb (jM cz W hr (jj (bB 1) (bB 2))))))))),?_⟩;refine kK ?_;refine Ps rfl rfl ⟨H0,k,L,fs,n,rfl,hn,hR,fun B As G fs' eA e hB=>?_,fun e=>q2 (by rw[e];rfl)⟩;subst e;obtain⟨dx,vh,vf,cs,gs,ss,h1,h2,h3,h4,h5,h6,h7,h8,h9,bp⟩:=hB;simp only[Sw]at q1 q2;refine⟨B.b,CB,dx,_,Pp rfl ⟨h1,T.c,T.n6,rfl,.inl ⟨rfl,_,ES.of h7⟩,Ps rfl rfl (R5 hz hn (fun e H1 s1=>⟨sm rfl,fun p hp=>?_⟩) (fun e=>(q2 (by rw[e];rfl)).mono hR.s))⟩⟩;rw[PP e]at q1;have s2:=s1.trans (jd hp (.tup [V.str (aa "any"),V.str z]));exact⟨B.s,ss,Pp rfl ⟨rfl,s2 _ _ h7,zI h8 hk,q1 _ rfl _ L rfl ((hR.same s2).addS eA (s2 _ _ h7))⟩⟩
def jg2(T:Qt K CB)(F:Fun K "take_claim" "take_claim" J3 f fd)(bh:NI P w K mg base 3 "innermost" Nj (za C CR CB))(fj:NI P w K mg base 9 "claim_read" NY (P5 C qh Cl.toD)):MT P w K mg base (PY P w) 10 f fd NR (Jz C CR CB YA):=by have sc:tS NR NR (jo J3):=fQ;refine F.okD sc (fun aB A iw s H vs Q E hr W h=>?_);obtain⟨H0,k,L,fs,z,n,rfl,hz,hn,hk,hR,q1,q2⟩:=h;refine⟨_,(jg (jP (jV bL cg cf ke (j3 (jM bh W hr (jj (bB 0) (bB 2))) rfl) (jp (jG (jj jb (jM fj W hr (jj (bB 1) (bB 2))))))))),?_⟩;refine kK ?_;refine Ps rfl rfl ⟨H0,k,L,fs,n,rfl,hn,hR,fun B As G fs' eA e hB=>?_,fun e=>q2 (by rw[e];rfl)⟩;subst e;obtain⟨dx,vh,vf,cs,gs,ss,h1,h2,h3,h4,h5,h6,h7,h8,h9,bp⟩:=hB;simp only[YA]at q1 q2;refine⟨B.b,CB,dx,_,Pp rfl ⟨h1,T.c,T.n6,rfl,.inl ⟨rfl,_,ES.of h7⟩,Ps rfl rfl (rd hz hn (fun d e v H1 s1 hv=>⟨sm rfl,fun p hp=>?_⟩) (fun e=>(q2 (by rw[e];rfl)).mono hR.s))⟩⟩;rw[e]at q1;have s2:=s1.trans (jd hp (.tup [V.str (aa "claim"),v]));exact⟨B.s,ss,Pp rfl ⟨rfl,s2 _ _ h7,zI h8 hk,q1 _ rfl _ L rfl ((hR.same s2).addS eA (s2 _ _ h7))⟩⟩
end
abbrev Yj:ay:=NS 20
abbrev jaC:ay:=NS 25
abbrev JY:ay:=NS 26
abbrev Yh:ay:=NS 27
abbrev Zv:ay:=NS 28
abbrev JZ:ay:=NS 21
def Zd:Qx
 | [],_=>none
 | F :: fs,z=>if (decide (F.kind = "proc") && decide (z=aa ""))=true then some fs else none
def RW:Qx
 | [],_=>none
 | F :: fs,z=>(zg (cd z)).map fun _=>⟨"if",false,false⟩ :: F :: fs
def Ku:Qx
 | [],_=>none
 | F :: fs,z=>(zg (cd z)).map fun _=>⟨"while",false,false⟩ :: F :: fs
def Zc:Qx
 | [],_=>none
 | F :: fs,z=>if (decide (F.kind = "if") && decide (z=aa ""))=true then some ({ F with kind:="else",st:=false } :: fs) else none
def Rz:Qx
 | F :: fs,z=>if (decide (F.kind = "else"\/F.kind = "while") && decide (z=aa ""))=true then match fs with
  | []=>none
  | G :: fs=>some (Qk G :: fs) else none
 | [],_=>none
def ja2:Qx
 | [],_=>none
 | F :: fs,z=>match zf (OC [32,58,61,32] (cd z)).1,JK (OC [32,58,61,32] (cd z)).2 with
  | some _,some _=>some (Qk F :: fs)
  | _,_=>none
def joh(h:xs.length=3):∃a b c,xs=[a,b,c]:=by
 match xs,h with
 | [a,b,c],_=>exact⟨a,b,c,rfl⟩
def jeY{x y:ac}{l1 l2:List ac}(h:(l1++x :: l2).Nodup)(hy:y ∉ l1++l2):(l1++y :: l2).Nodup:=by
 have g:∀z,(l1++z :: l2).Perm (z :: (l1++l2)):=fun z=>List.perm_middle
 exact (g y).nodup_iff.mpr (bM.mpr ⟨hy,(bM.mp ((g x).nodup_iff.mp h)).2⟩)
def jjo{x y:ac}{l1 l2:List ac}(h:a∈l1++y :: l2)(n:a≠y):a∈l1++x :: l2:=by
 simp only[aL,aA]at h |-;rcases h with h | h | h
 .exact .inl h
 .exact absurd h n
 .exact .inr (.inr h)
def jbM(A:BA)(As:List BA):JN (A :: As)=JN As++[.ref A.b]:=by unfold JN;rw[bn,tY]
def jgQ{a:Str}(h:Na H (.tup [.str a,.str x]) v):∃t,v=.ref t/\H t=some (.tup [.str a,.str x]):=by
 obtain⟨t,xs,rfl,ht,h1⟩:=jJ h;obtain⟨v1,r1,rfl,e1,h2⟩:=ji h1;obtain⟨v2,r2,rfl,e2,h3⟩:=ji h2
 cases jX h3
 cases (show v1=.str a from e1)
 cases (show v2=.str x from e2)
 exact⟨t,rfl,ht⟩
section
variable {CR:ac}{k:Nat}{fs:List Fr}{F':Fr}
def jnP(h:NA CR CB H0 k H L fs)(eA:L.As=A :: As):L.lb ∉ A.ls:=by have nd:=h.nd;unfold Qj.lsts at nd;rw[eA,ma]at nd;exact fun z=>(bM.mp (bM.mp nd).2).1 (cB _ z)
def Qb.keepI{f:List (Str×V)}(h:Qb CB n H A F)(k:uo a H H')(ha:H a=some (.ins C dx f))(hn:a≠A.b):Qb CB n H' A F:=by
 obtain⟨dx,vh,vf,cs,gs,ss,h1,h2,h3,h4,h5,h6,h7,h8,h9,bp⟩:=h;have g:∀{b o},H b=some o->(∀f',o≠.ins C dx f')->True:=fun _ _=>True.intro
 have kl:∀{b:ac} {ys:List V},H b=some (.lst ys)->H' b=some (.lst ys):=fun e=>k _ _ (fun z=>by rw[z,ha]at e;cases e) e
 exact⟨dx,vh,vf,cs,gs,ss,k _ _ hn.symm h1,kl h2,h3,kl h4,h5,h6,kl h7,h8,h9,fun e=>by obtain⟨t,xs,e1,e2,e3⟩:=bp e;exact⟨t,xs,e1,k _ _ (fun z=>by rw[z,ha]at e2;cases e2) e2,e3⟩⟩
def Qg.keepI{f:List (Str×V)}(k:uo a H H')(ha:H a=some (.ins C dx f)):∀{As:List BA} {fs:List Fr},Qg CB n H As fs->a ∉ As.map BA.b->Qg CB n H' As fs
 | [],[],h,_=>h
 | A :: As,_ :: _,h,n=>by
  rw[bn,aA,not_or]at n;exact⟨h.1.keepI k ha n.1,h.2.keepI k ha n.2⟩
 | [],_ :: _,h,_=>h.elim
 | _ :: _,[],h,_=>h.elim
theorem NA.repl{s':ac}(h:NA CR CB H0 k H L (F :: fs))(eA:L.As=A :: As)(kp:uo A.b H H')(hn:H s'=none)(hB:Qb CB k H' { A with s:=s' } F'):NA CR CB H0 k H' { L with As:={ A with s:=s' } :: As } (F' :: fs):=by
 obtain⟨pv,h1,h2⟩:=h.p;have f:=h.f;have nb:=h.nb;have nd:=h.nd;have fl:=h.fl;have ln:=h.ln;have live:∀b∈L.lsts++L.inss,∃o,H b=some o:=by
  intro a ha;have ha:a=L.lp\/a=L.lb\/a=L.r\/a∈L.As.flatMap BA.ls++L.As.map BA.b:=by unfold Qj.lsts Qj.inss at ha;simp only[aL,aA]at ha |-;grind
  rcases ha with rfl | rfl | rfl | ha
  .exact⟨_,h1⟩
  .exact⟨_,h.b⟩
  .exact⟨_,h.r⟩
  .exact f.live ha
 have ns:s' ∉ L.lsts++L.inss:=fun hb=>by obtain⟨o,e⟩:=live s' hb;rw[hn]at e;cases e
 have h0:H0 s'=none:=by
  cases e:H0 s' with
  | none=>rfl
  | some o=>rw[h.s _ _ e]at hn;cases hn
 unfold Qj.inss at nb;unfold Qj.lsts at nd;unfold Qj.lsts Qj.inss at fl ns;rw[eA]at f nb nd fl ns ln;rw[bn]at nb fl ns;rw[ma]at nd fl ns;obtain⟨m1,m2⟩:=bM.mp nb;obtain⟨m3,m4⟩:=bM.mp m2;obtain⟨dx,vh,vf,cs,gs,ss,b1,_⟩:=id f.1;have kl:∀{b:ac} {ys:List V},H b=some (.lst ys)->H' b=some (.lst ys):=fun e=>kp _ _ (fun z=>by rw[z,b1]at e;cases e) e
 refine⟨kp _ _ (fun z=>m1 (z ▸ aJ ..)) h.r,⟨pv,kl h1,h2⟩,?_,⟨hB,f.2.keepI kp b1 m3⟩,?_,nb,?_,ln,ML.keepN h.s kp (fl A.b NZ)⟩
 .have:=kl h.b
  rw[eA]at this;exact this
 .refine jeY (x:=A.s) (l1:=[L.lp,L.lb,A.c,A.g]) (l2:=As.flatMap BA.ls) nd fun z=>ns (cB _ ?_)
  rcases aL.mp z with z | z
  .exact cB (As.flatMap BA.ls) (cB [A.s] z)
  .exact bV [L.lp,L.lb,A.c,A.g,A.s] z
 .intro a ha
  by_cases z:a=s'
  .rw[z];exact h0
  .exact fl a (jjo (x:=A.s) (l1:=[L.lp,L.lb,A.c,A.g]) (l2:=As.flatMap BA.ls++L.r :: A.b :: As.map BA.b) ha z)
end
section
variable {CR:ac}
def ji0(TR:QK K CR)(T:Qt K CB)(F:Fun K "take_back" "take_back" Yj f fd)(bh:NI P w K mg base 3 "innermost" Nj (za C CR CB))(B0:Ni mg)(bx:NI P w K mg base 3 "refuse_unless" Nk (JU C)):MT P w K mg base (PY P w) 4 f fd NR (Jz C CR CB Zd):=by
 have sc:tS ["reading","rest","line","body","f","params","rows"] NR (jo Yj):=fQ;refine F.okD sc (fun aB A iw s H vs Q E hr W h=>?_);obtain⟨H0,k,L,fs,z,n,rfl,hz,hn,hk,hR,q1,q2⟩:=h;have B:=B0;refine⟨_,(ja (jh 3 sc.nd (jM bh W hr (jj (bB 0) (bB 2)))) (ja (jP (jM bx W hr (jj (qR (ki j6 (j3 (bB 3) rfl) jb (jA _)) (qu (ki j6 (bB 1) jb (jA _)))) (bB 2)))) (ja (kz (j3 (bB 3) rfl) (kB rfl (jv (jt 4 sc.nd) (jv (jt 5 sc.nd) (jv (jt 6 sc.nd) kj))))) (ja (jP (Ju bL pR x6 jjj (j3 (bB 0) rfl))) (jg (jP (jV bL cg cf ke (j3 (bB 0) rfl) (jp (jG (jr jb (jr (bB 4) (jr (bB 5) (jr (bB 6) (jr (kJ jZ N9 B.tuple_ kX (jp (j3 (bB 3) rfl))) (jj (kJ jZ N9 B.tuple_ kX (jp (j3 (bB 3) rfl))) (kJ jZ N9 B.tuple_ kX (jp (j3 (bB 3) rfl)))))))))))))))))),?_⟩
 refine kK ?_
 try dsimp only[qF]
 refine K4 ?_;intro _ _ _ _;refine Ps rfl rfl ⟨H0,k,L,fs,n,rfl,hn,hR,fun B' As G fs' eA e hB=>?_,fun e=>q2 (by rw[e];rfl)⟩;subst e;obtain⟨dx,vh,vf,cs,gs,ss,h1,h2,h3,h4,h5,h6,h7,h8,h9,bp⟩:=id hB;refine gQ ?_;simp only[Zd]at q1 q2;dsimp only[jC,SJ,zM,yM];refine Kx (b:=decide (G.kind = "proc")) (c:=decide (z=aa "")) (fun q h=>⟨_,rfl,B'.b,CB,dx,_,_,rfl,h1,T.c,T.n1,rfl,RN h⟩) (fun q h=>⟨_,rfl,RN h⟩) ?_;refine Pp rfl ⟨_,n,rfl,hn,fun e=>?_,fun e=>(q2 (by rw[e];rfl)).mono hR.s⟩;rw[PP e]at q1;obtain⟨t,xs,rfl,ht,hx⟩:=bp (PK (bg _ _ ▸ e).1);obtain⟨va,vb,vc,rfl⟩:=joh hx;refine Pp rfl ⟨B'.b,CB,dx,_,Pp rfl ⟨h1,T.c,T.n2,rfl,Pq rfl (Nu.of ht) ⟨rfl,_,Pp rfl ⟨_,Pp rfl (Pq rfl rfl ?_)⟩⟩⟩⟩;refine gQ ?_;have cx:=hR.b;rw[eA,jbM]at cx;refine Pp rfl ⟨L.r,CR,L.dx,_,Pp rfl ⟨hR.r,TR.c,TR.n2,rfl,.inl ⟨rfl,_,ES.of cx⟩,L.lb,_,.ref B'.b,rfl,rfl,cx,NZ,?_⟩⟩;rw[Fi];have kk:=uo.upd L.lb H (.lst (JN As));have dq:=hR.pop eA kk jc;obtain⟨pv,p1,p2⟩:=dq.p;obtain⟨wA,vh',vf',sA,Lr,FN,c1,c2,c3,c4,c5,c6,c7,c8,c9,LR⟩:=hB.keep kk cx (jnP hR eA);generalize upd H L.lb (.lst (JN As))=H1 at *;refine Pp rfl ⟨L.r,CR,L.dx,_,Pp rfl ⟨dq.r,TR.c,TR.n1,rfl,.inl ⟨rfl,_,ES.of p1⟩,Ps rfl rfl (Ps rfl rfl ⟨B'.b,CB,wA,_,Pp rfl ⟨c1,T.c,T.n3,rfl,B'.c,Pp rfl (.inl ⟨ES.of c2,fun t1 eM=>?_⟩)⟩⟩)⟩⟩;have s1:=jd eM (.tup sA);refine Pp rfl ⟨B'.b,CB,wA,_,Pp rfl ⟨s1 _ _ c1,T.c,T.n4,rfl,B'.g,Pp rfl (.inl ⟨ES.of (s1 _ _ c4),fun t2 dM=>?_⟩)⟩⟩;have s2:=jd dM (.tup Lr);refine Pp rfl ⟨B'.b,CB,wA,_,Pp rfl ⟨s2 _ _ (s1 _ _ c1),T.c,T.n6,rfl,B'.s,Pp rfl (.inl ⟨ES.of (s2 _ _ (s1 _ _ c7)),fun t3 fM=>⟨sm rfl,fun t4 vj=>?_⟩⟩)⟩⟩;have s3:=jd fM (.tup FN);have s4:=jd vj (.tup [V.str (aa "proc"),va,vb,vc,.ref t1,.ref t2,.ref t3]);have iz:=s1.trans (s2.trans (s3.trans s4));exact⟨L.lp,pv,Pp rfl ⟨rfl,iz _ _ p1,zI p2 hk,q1 _ rfl _ { L with As:=As } rfl (((dq.same iz).mono (fB k)).proc (iz _ _ p1) (EY p2) (uo.upd L.lp _ _) jc)⟩⟩
def ZH{H1:Hp}{fs:List Fr}{m:Nat}{k:Str}{vh:V}(hR:NA CR CB H0 m H1 L fs)(hm:m < 100000)(hv:k = "proc"->∃t xs,vh=.ref t/\H1 t=some (.tup xs)/\xs.length=3)(q:∀H' L',L'.r=L.r->NA CR CB H0 (m+1) H' L' (⟨k,false,false⟩ :: fs)->Q .non H'):
  ∀x dx,H1 x=none->H1 dx=none->dx≠x->jaB CB (.ref x :: ([.str k,vh]++[])) (upd (upd H1 dx (.own x)) x (.ins CB dx [])) (fun v H2=>v=.non/\∃l xs y,V.ref L.lb=.ref l/\[V.ref x]=[y]/\H2 l=some (.lst xs)/\xs.length < aF/\Q .non (upd H2 l (.lst (xs++[y])))) E0:=by
 intro x dx hx fT aR
 refine⟨dx,x,k,vh,rfl,jc,fun c g s vf H' kx hc hg hs nd e1 e2 e3 e4=>⟨rfl,?_⟩⟩
 have fresh:∀a,upd (upd H1 dx (.own x)) x (.ins CB dx []) a=none->H1 a=none:=fun a ha=>by
  by_cases z:a=x
  .rw[z,jc]at ha;cases ha
  by_cases z2:a=dx
  .rw[jq z,z2,jc]at ha;cases ha
  .rw[jq z,jq z2]at ha;exact ha
 have s1:ML H1 H':=fun b o e=>kx _ _ (jm e hx) (by rw[jq (jm e hx),jq (jm e fT)];exact e)
 refine⟨L.lb,JN L.As,.ref x,rfl,rfl,s1 _ _ hR.b,zI (by unfold JN;rw[Fd,av];exact hR.ln) hm,q _ { L with As:=⟨x,c,g,s⟩ :: L.As } rfl ?_⟩
 refine (hR.mono (fB m)).push (A:=⟨x,c,g,s⟩) (EY hR.ln) s1 ⟨dx,vh,vf,[],[],[],e1,e2,cn _,e3,cn _,rfl,e4,cn _,rfl,fun e=>by obtain⟨t,xs,z1,z2,z3⟩:=hv e;exact⟨t,xs,z1,s1 _ _ z2,z3⟩⟩ (fun a ha=>?_) nd (uo.upd L.lb _ _) jc
 have ha:a∈[x,c,g,s]:=ha
 simp only[aA,fC,or_false]at ha
 rcases ha with rfl | rfl | rfl | rfl
 .exact hx
 .exact fresh _ hc
 .exact fresh _ hg
 .exact fresh _ hs
def jmx(TR:QK K CR)(T:Qt K CB)(F:Fun K "take_if" "take_if" jaC f fd)(bh:NI P w K mg base 3 "innermost" Nj (za C CR CB))(hU:Q0 P w K mg base 1 "Body" CB M8 (jaB CB))(h_:NI P w K mg base 8 "least_read" NY (P5 C zg Cl.toD)):MT P w K mg base (PY P w) 9 f fd NR (Jz C CR CB RW):=by
 have sc:tS NR NR (jo jaC):=fQ;refine F.okD sc (fun aB A iw s H vs Q E hr W h=>?_);obtain⟨H0,k,L,fs,z,n,rfl,hz,hn,hk,hR,q1,q2⟩:=h;refine⟨_,(ja (jP (jM bh W hr (jj (bB 0) (bB 2)))) (jg (jP (jV bL cg cf ke (j3 (bB 0) rfl) (jp (jeu hU hr (jj jb (jM h_ W hr (jj (bB 1) (bB 2)))))))))),?_⟩
 refine kK ?_;refine Ps rfl rfl ⟨H0,k,L,fs,n,rfl,hn,hR,fun B As G fs' eA e hB=>?_,fun e=>q2 (by rw[e];rfl)⟩;subst e;simp only[RW]at q1 q2;refine Pp rfl ⟨L.r,CR,L.dx,_,Pp rfl ⟨hR.r,TR.c,TR.n2,rfl,.inl ⟨rfl,_,ES.of hR.b⟩,Ps rfl rfl (rd hz hn (fun d e v H1 s1 hv=>?_) (fun e=>(q2 (by rw[e];rfl)).mono hR.s))⟩⟩;rw[e]at q1;exact ZH (hR.same s1) hk (fun z=>absurd z N5) (q1 _ rfl)
def jg0(TR:QK K CR)(T:Qt K CB)(F:Fun K "take_while" "take_while" JY f fd)(bh:NI P w K mg base 3 "innermost" Nj (za C CR CB))(hU:Q0 P w K mg base 1 "Body" CB M8 (jaB CB))(h_:NI P w K mg base 8 "least_read" NY (P5 C zg Cl.toD)):MT P w K mg base (PY P w) 9 f fd NR (Jz C CR CB Ku):=by
 have sc:tS NR NR (jo JY):=fQ;refine F.okD sc (fun aB A iw s H vs Q E hr W h=>?_);obtain⟨H0,k,L,fs,z,n,rfl,hz,hn,hk,hR,q1,q2⟩:=h;refine⟨_,(ja (jP (jM bh W hr (jj (bB 0) (bB 2)))) (jg (jP (jV bL cg cf ke (j3 (bB 0) rfl) (jp (jeu hU hr (jj jb (jM h_ W hr (jj (bB 1) (bB 2)))))))))),?_⟩
 refine kK ?_;refine Ps rfl rfl ⟨H0,k,L,fs,n,rfl,hn,hR,fun B As G fs' eA e hB=>?_,fun e=>q2 (by rw[e];rfl)⟩;subst e;simp only[Ku]at q1 q2;refine Pp rfl ⟨L.r,CR,L.dx,_,Pp rfl ⟨hR.r,TR.c,TR.n2,rfl,.inl ⟨rfl,_,ES.of hR.b⟩,Ps rfl rfl (rd hz hn (fun d e v H1 s1 hv=>?_) (fun e=>(q2 (by rw[e];rfl)).mono hR.s))⟩⟩;rw[e]at q1;exact ZH (hR.same s1) hk (fun z=>absurd z N5) (q1 _ rfl)
def jiY(TR:QK K CR)(T:Qt K CB)(F:Fun K "take_else" "take_else" Yh f fd)(bh:NI P w K mg base 3 "innermost" Nj (za C CR CB))(B:Ni mg)(bx:NI P w K mg base 3 "refuse_unless" Nk (JU C)):MT P w K mg base (PY P w) 4 f fd NR (Jz C CR CB Zc):=by
 have sc:tS EG NR (jo Yh):=fQ;refine F.okD sc (fun aB A iw s H vs Q E hr W h=>?_);obtain⟨H0,k,L,fs,z,n,rfl,hz,hn,hk,hR,q1,q2⟩:=h;refine⟨_,(ja (jh 3 sc.nd (jM bh W hr (jj (bB 0) (bB 2)))) (ja (jP (jM bx W hr (jj (qR (ki j6 (j3 (bB 3) rfl) jb (jA _)) (qu (ki j6 (bB 1) jb (jA _)))) (bB 2)))) (ja (zy (bB 3) jb rfl) (ja (zy (bB 3) (kJ jZ N9 B.tuple_ kX (jp (j3 (bB 3) rfl))) rfl) (jg (zy (bB 3) (jI qf) rfl)))))),?_⟩
 refine kK ?_
 try dsimp only[qF]
 refine K4 ?_;intro _ _ _ _;refine Ps rfl rfl ⟨H0,k,L,fs,n,rfl,hn,hR,fun B' As G fs' eA e hB=>?_,fun e=>q2 (by rw[e];rfl)⟩;subst e;obtain⟨dx,vh,vf,cs,gs,ss,h1,h2,h3,h4,h5,h6,h7,h8,h9,bp⟩:=id hB;refine gQ ?_;simp only[Zc]at q1 q2;dsimp only[jC,SJ,zM,yM];refine Kx (b:=decide (G.kind = "if")) (c:=decide (z=aa "")) (fun q h=>⟨_,rfl,B'.b,CB,dx,_,_,rfl,h1,T.c,T.n1,rfl,RN h⟩) (fun q h=>⟨_,rfl,RN h⟩) ?_;refine Pp rfl ⟨_,n,rfl,hn,fun e=>?_,fun e=>(q2 (by rw[e];rfl)).mono hR.s⟩;rw[PP e]at q1;refine Pp rfl ⟨B'.b,CB,dx,Pp rfl ⟨h1,T.c,T.n1,by show 6 < 1000;decide,?_⟩⟩;rw[show ze "kind" (V.str (aa "else")) (K1 G.kind vh B'.c B'.g vf B'.s)=K1 "else" vh B'.c B'.g vf B'.s from rfl];have k1:=uo.upd B'.b H (.ins CB dx (K1 "else" vh B'.c B'.g vf B'.s));have e1:upd H B'.b (.ins CB dx (K1 "else" vh B'.c B'.g vf B'.s)) B'.b=some (.ins CB dx (K1 "else" vh B'.c B'.g vf B'.s)):=jc;have f1:∀a,upd H B'.b (.ins CB dx (K1 "else" vh B'.c B'.g vf B'.s)) a=none->H a=none:=fun a ha=>by
  by_cases z:a=B'.b
  .rw[z,jc]at ha;cases ha
  .rw[jq z]at ha;exact ha
 have kl:∀{X:Hp},uo B'.b H X->∀{b:ac} {ys:List V},H b=some (.lst ys)->X b=some (.lst ys):=fun k b ys e=>k _ _ (fun z=>by rw[z,h1]at e;cases e) e
 generalize upd H B'.b (.ins CB dx (K1 "else" vh B'.c B'.g vf B'.s))=H1 at *;refine Pp rfl ⟨B'.b,CB,dx,_,Pp rfl ⟨e1,T.c,T.n6,rfl,B'.s,Pp rfl (.inl ⟨ES.of (kl k1 h7),fun t ht=>?_⟩)⟩⟩;refine Pp rfl ⟨B'.b,CB,dx,Pp rfl ⟨(by rw[jq (jm e1 ht)];exact e1),T.c,T.n5,by show 6 < 1000;decide,?_⟩⟩;rw[show ze "first" (V.ref t) (K1 "else" vh B'.c B'.g vf B'.s)=K1 "else" vh B'.c B'.g (.ref t) B'.s from rfl];obtain⟨k2,e2,c2,f2⟩:=Su (o:=.tup ss) (fs':=K1 "else" vh B'.c B'.g (.ref t) B'.s) e1 ht;generalize upd (upd H1 t (.tup ss)) B'.b (.ins CB dx (K1 "else" vh B'.c B'.g (.ref t) B'.s))=H2 at *;refine⟨sm rfl,fun s' cu=>?_⟩;refine Pp rfl ⟨B'.b,CB,dx,Pp rfl ⟨(by rw[jq (jm e2 cu)];exact e2),T.c,T.n6,by show 6 < 1000;decide,?_⟩⟩;rw[show ze "statements" (V.ref s') (K1 "else" vh B'.c B'.g (.ref t) B'.s)=K1 "else" vh B'.c B'.g (.ref t) s' from rfl];obtain⟨k3,e3,c3,f3⟩:=Su (o:=.lst []) (fs':=K1 "else" vh B'.c B'.g (.ref t) s') e2 cu;have kk:=k1.trans (k2.trans k3);exact q1 _ rfl _ { L with As:={ B' with s:=s' } :: As } rfl ((hR.mono (fB k)).repl eA kk (f1 _ (f2 _ cu)) ⟨dx,vh,.ref t,cs,gs,[],e3,kl kk h2,fA h3,kl kk h4,fA h5,h6,c3,cn _,rfl,fun e=>absurd (show ("else" : Str) = "proc" from e) N5⟩)
def jkY(TR:QK K CR)(T:Qt K CB)(F:Fun K "take_end" "take_end" Zv f fd)(bh:NI P w K mg base 3 "innermost" Nj (za C CR CB))(B:Ni mg)(bx:NI P w K mg base 3 "refuse_unless" Nk (JU C)):MT P w K mg base (PY P w) 4 f fd NR (Jz C CR CB Rz):=by
 have sc:tS ["reading","rest","line","body","ended"] NR (jo Zv):=fQ;refine F.okD sc (fun aB A iw s H vs Q E hr W h=>?_);obtain⟨H0,k,L,fs,z,n,rfl,hz,hn,hk,hR,q1,q2⟩:=h;refine⟨_,(ja (jh 3 sc.nd (jM bh W hr (jj (bB 0) (bB 2)))) (ja (jP (jM bx W hr (jj (qR (ki KL (j3 (bB 3) rfl) (jG (jj jb jb)) rfl) (qu (ki j6 (bB 1) jb (jA _)))) (bB 2)))) (ja (jR (jx j6 (j3 (bB 3) rfl) jb (jA _)) (jg (jh 4 sc.nd (jG (jr jb (jr (j3 (bB 3) rfl) (jj (j3 (bB 3) rfl) (kJ jZ N9 B.tuple_ kX (jp (j3 (bB 3) rfl))))))))) (jg (jh 4 sc.nd (jG (jr jb (jr (j3 (bB 3) rfl) (jj (kJ jZ N9 B.tuple_ kX (jp (j3 (bB 3) rfl))) (kJ jZ N9 B.tuple_ kX (jp (j3 (bB 3) rfl)))))))))) (ja (jP (Ju bL pR x6 jjj (j3 (bB 0) rfl))) (jg (jP (jV bL cg cf ke (j3 (jM bh W hr (jj (bB 0) (bB 2))) rfl) (jp (bB 4))))))))),?_⟩
 refine kK ?_
 try dsimp only[qF]
 refine K4 ?_;intro _ _ _ _;refine Ps rfl rfl ⟨H0,k,L,fs,n,rfl,hn,hR,fun B' As G fs' eA e hB=>?_,fun e=>q2 (by rw[e];rfl)⟩;subst e;obtain⟨dx,vh,vf,cs,gs,ss,h1,h2,h3,h4,h5,h6,h7,h8,h9,bp⟩:=id hB;refine gQ ?_;simp only[Rz]at q1 q2;refine Pp rfl ⟨B'.b,CB,dx,_,Pp rfl ⟨h1,T.c,T.n1,rfl,sm rfl,fun t ht=>?_⟩⟩;have s1:=jd ht (.tup ([aa "else",aa "while"].map V.str));have e1:=Pn (H:=H) t (.tup ([aa "else",aa "while"].map V.str));refine⟨t,Pp rfl ⟨.inr (Nu.of e1),rfl,Jp _,Pp rfl ?_⟩⟩;have b_:RD (.str G.kind) ([aa "else",aa "while"].map V.str)=decide (G.kind = "else"\/G.kind = "while"):=by rw[yH];refine decide_eq_decide.mpr ?_;simp only[aA,fC,or_false]
 rw[PN aU,b_];have hR:=hR.same s1;have h1:=s1 _ _ h1;have h2:=s1 _ _ h2;have h7:=s1 _ _ h7;by_cases hb:decide (G.kind = "else"\/G.kind = "while")=true;rotate_left
 .rw[q_]at hb
  rw[hb]at q2 |-;refine kT ⟨_,rfl,_,n,rfl,hn,fun e=>(by cases e),fun e=>(q2 rfl).mono hR.s⟩
 rw[hb]at q1 q2 |-;rw[gk]at q1 q2;refine k9 ⟨_,rfl,?_⟩;unfold tC;dsimp only;refine RN ?_;refine Pp rfl ⟨_,n,rfl,hn,fun e=>?_,fun e=>(q2 (by rw[e];rfl)).mono hR.s⟩;rw[PP e]at q1 q2;refine (?_:jC (yL _ _ _) _ _ _ (upd H t (.tup ([aa "else",aa "while"].map V.str))));generalize upd H t _=H1 at *;refine Sx (fun σ X=>∃ve,σ=[some (.ref L.r),some (.str z),some (.int n),some (.ref B'.b),some ve]/\ML H1 X) ?_ (fun kk=>?_);rotate_left
 .refine Pp rfl ⟨B'.b,CB,dx,_,Pp rfl ⟨h1,T.c,T.n1,rfl,rfl,Pp rfl (kW (fun d=>?_) (fun d=>?_))⟩⟩
  .refine Pp rfl ⟨B'.b,CB,dx,_,Pp rfl ⟨h1,T.c,T.n2,rfl,Pp rfl ⟨B'.b,CB,dx,_,Pp rfl ⟨h1,T.c,T.n5,rfl,Pp rfl ⟨B'.b,CB,dx,_,Pp rfl ⟨h1,T.c,T.n6,rfl,B'.s,Pp rfl (.inl ⟨ES.of h7,fun t1 eM=>⟨sm rfl,fun t2 dM=>?_⟩⟩)⟩⟩⟩⟩⟩⟩
   exact kk _ _ ⟨.ref t2,rfl,(jd eM _).trans (jd dM _)⟩
  .refine Pp rfl ⟨B'.b,CB,dx,_,Pp rfl ⟨h1,T.c,T.n2,rfl,Pp rfl ⟨B'.b,CB,dx,_,Pp rfl ⟨h1,T.c,T.n3,rfl,B'.c,Pp rfl (.inl ⟨ES.of h2,fun t1 eM=>?_⟩)⟩⟩⟩⟩
   have s2:=jd eM (.tup cs);refine Pp rfl ⟨B'.b,CB,dx,_,Pp rfl ⟨s2 _ _ h1,T.c,T.n6,rfl,B'.s,Pp rfl (.inl ⟨ES.of (s2 _ _ h7),fun t2 dM=>⟨sm rfl,fun t3 fM=>?_⟩⟩)⟩⟩;exact kk _ _ ⟨.ref t3,rfl,s2.trans ((jd dM _).trans (jd fM _))⟩
 rintro σ X ⟨ve,rfl,sX⟩;have hR:=hR.same sX;have cx:=hR.b;rw[eA,jbM]at cx;refine Pp rfl ⟨L.r,CR,L.dx,_,Pp rfl ⟨hR.r,TR.c,TR.n2,rfl,.inl ⟨rfl,_,ES.of cx⟩,L.lb,_,.ref B'.b,rfl,rfl,cx,NZ,?_⟩⟩;rw[Fi];have dq:=hR.pop eA (uo.upd L.lb X (.lst (JN As))) jc;generalize upd X L.lb (.lst (JN As))=H2 at *;refine Ps rfl rfl ⟨H0,k,{ L with As:=As },fs',n,rfl,hn,dq,fun B2 As2 G2 wt LJ e2 Le=>?_,fun e=>q2 (by rw[e])⟩;subst e2;obtain⟨LL,vh2,vf2,cs2,gs2,FM,g1,g2,g3,g4,g5,g6,g7,g8,g9,g10⟩:=Le;exact⟨B2.b,CB,LL,_,Pp rfl ⟨g1,T.c,T.n6,rfl,.inl ⟨rfl,_,ES.of g7⟩,Pp rfl ⟨B2.s,FM,ve,rfl,rfl,g7,zI g8 hk,q1 _ rfl _ { L with As:=As } rfl (dq.addS LJ g7)⟩⟩⟩
def jg1(T:Qt K CB)(F:Fun K "take_given" "take_given" JZ f fd)(bh:NI P w K mg base 3 "innermost" Nj (za C CR CB))(hV:NI P w K mg base 6 "named_term" NY (P5 C zf Tm.toD))(m8:NI P w K mg base 7 "term_read" NY (P5 C JK jib)):MT P w K mg base (PY P w) 8 f fd M5 (Jz C CR CB ja2):=by
 have sc:tS ["reading","text","line","body","left","sign","right","target","term","c"] M5 (jo JZ):=fQ;refine F.okD sc (fun aB A iw s H vs Q E hr W h=>?_);obtain⟨H0,k,L,fs,z,n,rfl,hz,hn,hk,hR,q1,q2⟩:=h;refine⟨_,(ja (jh 3 sc.nd (jM bh W hr (jj (bB 0) (bB 2)))) (ja (kz (jV bi lY nO qN (bB 1) (jp jb)) (kB rfl (jv (jt 4 sc.nd) (jv (jt 5 sc.nd) (jv (jt 6 sc.nd) kj))))) (ja (jh 7 sc.nd (jM hV W hr (jj (bB 4) (bB 2)))) (ja (kz (jM m8 W hr (jj (bB 6) (bB 2))) (kB rfl (jv (jt 8 sc.nd) (jv (jt 9 sc.nd) kj)))) (jg (jR (jx j6 (js j0 (bB 7) je) jb (jA _)) (jg (jP (jV bL cg cf ke (j3 (bB 3) rfl) (jp (jG (jr jb (jr (js j0 (bB 7) je) (jj (bB 8) (bB 9))))))))) (jg (jP (jV bL cg cf ke (j3 (bB 3) rfl) (jp (jG (jr jb (jr (js j0 (bB 7) je) (jr (js j0 (bB 7) je) (jj (bB 8) (bB 9)))))))))))))))),?_⟩
 refine kK ?_
 try dsimp only[qF]
 refine K4 ?_;intro _ _ _ _;refine Ps rfl rfl ⟨H0,k,L,fs,n,rfl,hn,hR,fun B' As G fs' eA e hB=>?_,fun e=>q2 (by rw[e];rfl)⟩;subst e;obtain⟨dx,vh,vf,cs,gs,ss,h1,h2,h3,h4,h5,h6,h7,h8,h9,bp⟩:=id hB;refine gQ ?_;simp only[ja2]at q1 q2;obtain⟨b1,w1⟩:=ZA (x:=z) (y:=aa " := ") N3;rw[show cd (aa " := ")=[32,58,61,32] from rfl]at w1;have l1:=KJ (Nt:=[32,58,61,32]) (show (cd z).length<=1000 by rw[jY];exact hz);generalize OC [32,58,61,32] (cd z)=a at *;refine Pp rfl ⟨rfl,z,aa " := ",rfl,rfl,rfl,sz hz,fun p hp=>?_⟩;rw[w1];dsimp only;have s1:=jd hp (.tup [V.str (mS a.1),V.str b1,V.str (mS a.2)]);have e1:=Pn (H:=H) p (.tup [V.str (mS a.1),V.str b1,V.str (mS a.2)]);generalize upd H p _=H1 at *;refine Pq rfl (Nu.of e1) ⟨rfl,_,Pp rfl ⟨_,Pp rfl (Pq rfl rfl ?_)⟩⟩;refine gQ ?_;have dq:=hR.same s1;refine Ps rfl rfl (rd (by rw[qO];exact l1.1) hn (fun t e vt H2 s2 ht=>?_) (fun e=>(q2 (by rw[kS]at e;rw[e])).mono dq.s));rw[kS]at e;rw[e]at q1 q2;refine gQ ?_;have so:=dq.same s2;refine Ps rfl rfl (rd (by rw[qO];exact l1.2) hn (fun d e vu H3 s3 hu=>?_) (fun e=>(q2 (by rw[kS]at e;rw[e])).mono so.s));rw[kS]at e;rw[e]at q1;obtain⟨u,c⟩:=d;obtain⟨c2,vb,rfl,cW,hb⟩:=jco hu;refine Pq rfl (Nu.of cW) ⟨rfl,_,Pp rfl (Pq rfl rfl ?_)⟩;refine gQ ?_;have ht:=ht.mono s3;have br:=s1.trans (s2.trans s3);have Cg:=so.same s3
 cases t with
 | is x=>
  obtain⟨a',rfl,fg⟩:=jgQ (show Na H3 (.tup [.str "is",.str x]) vt from ht);refine Pp rfl ⟨a',_,Pq rfl rfl ⟨Nu.of fg,ju (j:=0) rfl,rfl,Pp rfl (k9 ?_)⟩⟩;refine Pp rfl ⟨B'.b,CB,dx,_,Pp rfl ⟨br _ _ h1,T.c,T.n6,rfl,.inl ⟨rfl,_,ES.of (br _ _ h7)⟩,Pp rfl ⟨a',_,Pq rfl rfl ⟨Nu.of fg,ju (j:=1) rfl,Ps rfl rfl ⟨sm rfl,fun p2 aQ=>?_⟩⟩⟩⟩⟩;have s4:=jd aQ (.tup [V.str (aa "set"),V.str x,vb,V.int c]);exact⟨B'.s,ss,Pp rfl ⟨rfl,(br.trans s4) _ _ h7,zI h8 hk,q1 _ rfl _ L rfl ((Cg.same s4).addS eA ((br.trans s4) _ _ h7))⟩⟩
 | at_ r x d=>
  obtain⟨a',b',rfl,fg,cm⟩:=jkb ht;refine Pp rfl ⟨a',_,Pq rfl rfl ⟨Nu.of fg,ju (j:=0) rfl,rfl,Pp rfl (kT ?_)⟩⟩;refine Pp rfl ⟨B'.b,CB,dx,_,Pp rfl ⟨br _ _ h1,T.c,T.n6,rfl,.inl ⟨rfl,_,ES.of (br _ _ h7)⟩,Pp rfl ⟨a',_,Pq rfl rfl ⟨Nu.of fg,ju (j:=1) rfl,Pp rfl ⟨a',_,Pq rfl rfl ⟨Nu.of fg,ju (j:=2) rfl,Ps rfl rfl ⟨sm rfl,fun p2 aQ=>?_⟩⟩⟩⟩⟩⟩⟩;have s4:=jd aQ (.tup [V.str (aa "put"),V.str r,.ref b',vb,V.int c]);exact⟨B'.s,ss,Pp rfl ⟨rfl,(br.trans s4) _ _ h7,zI h8 hk,q1 _ rfl _ L rfl ((Cg.same s4).addS eA ((br.trans s4) _ _ h7))⟩⟩
end
abbrev zi:ay:=NS 30
abbrev Yd:ay:=NS 16
abbrev Yi:ay:=NS 24
abbrev zR:Str:=aa ";"
def q8(ws:List Str):List Str×List Str:=(ws.takeWhile fun x=>decide (x≠zR),ws.drop ((ws.takeWhile fun x=>decide (x≠zR)).length+1))
def Rn(x:Str):Bool:=j5 (cd x)
def zF(k:Nat)(z:Str):Option (List Str×List Str):=
 if zR∈Txt.split z (aa " ") then
  if (q8 (Txt.split z (aa " "))).1.all Rn=true then
   if (q8 (Txt.split z (aa " "))).2.all Rn=true then
    if k<=(q8 (Txt.split z (aa " "))).1.length then some (q8 (Txt.split z (aa " "))) else none
   else none
  else none
 else none
def jhB{ws:List Str}(h:zR∈ws):ws=(q8 ws).1++zR :: (q8 ws).2:=by
 unfold q8;have h1:=OT (p:=fun x=>decide (x≠zR)) (l:=ws)
 cases e:ws.dropWhile (fun x=>decide (x≠zR)) with
 | nil=>
  rw[e,bE]at h1;have:∀x∈ws,decide (x≠zR)=true:=by intro x hx;rw[<- h1]at hx;exact c_.mp Po x hx
  exact absurd (this _ h) NZ
 | cons x r=>
  have hx:x=zR:=by have:=List.head_dropWhile_not (fun x=>decide (x≠zR)) (l:=ws) (by rw[e];simp);simp only[e,List.head_cons]at this;simpa using this
  rw[e,hx]at h1;have h2:ws.drop ((ws.takeWhile fun x=>decide (x≠zR)).length+1)=r:=by
   conv=>lhs;arg 2;rw[<- h1]
   rw[<- eW,nY];rfl
  dsimp only;rw[h2];exact h1.symm
theorem jbV{c x:Nat}{r:List Nat}(hx:x∈r):∀{R:List (List Nat)},r∈R->x∈qE c R
 | [],h=>nomatch h
 | [s],h=>by rw[aZ.mp h]at hx;exact hx
 | s :: t :: u,h=>by
  show x∈s++c :: qE c (t :: u);rcases aA.mp h with rfl | h
  .exact cB _ hx
  .exact bV _ (aH _ (jbV hx h))
theorem jd6{c:Nat}{r:List Nat}:∀{R:List (List Nat)},r∈R->r.length<=(qE c R).length
 | [],h=>nomatch h
 | [s],h=>by rw[aZ.mp h];exact aK _
 | s :: t :: u,h=>by
  show _<=(s++c :: qE c (t :: u)).length;rw[az,aM];rcases aA.mp h with rfl | h
  .omega
  .have:=jd6 (c:=c) h
   omega
def jdt(z:Str):cd z=qE 32 ((Txt.split z (aa " ")).map cd):=by rw[<- JG (y:=aa " ") (c:=32) rfl,NT]
variable {z:Str}
def jkp(h:x∈Txt.split z (aa " ")):x.length<=z.length:=by rw[<- jY,<- jY (z:=z),jdt z];exact jd6 (E_ h)
def jh7(h:zR∈Txt.split z (aa " ")):(Txt.split z (aa " ")).length<=z.length:=by
 rw[jbG (c:=32) rfl,<- jY];have hm:59∈cd z:=by rw[jdt z];exact jbV (r:=cd zR) N3 (E_ h)
 have:=List.count_le_length (a:=32) (l:=cd z);rcases gf ((cd z).count 32) (cd z).length with h1 | h1
 .exact h1
 .exact absurd ((List.count_eq_length.mp (Nat.le_antisymm this h1)) 59 hm) N5
def jfl{ws:List Str}(m:Nat)(h:m < (q8 ws).1.length):ws[m]?≠some zR:=fun e=>by
 have h1:((q8 ws).1)[m]?=some zR:=by unfold q8 at h |-;dsimp only at h |-;rw[aP h];have:=List.IsPrefix.getElem (OR (p:=fun x=>decide (x≠zR)) (l:=ws)) h;rw[this];rw[aP (bY h (OR _).length_le)]at e;exact e
 have h2:zR∈(q8 ws).1:=gJ h1;have h3:decide (zR≠zR)=true:=c_.mp Po zR h2;simp at h3
def zm(xs:List V)(i:Nat):L2.cutV xs none (some (i:Int))=xs.take i:=by
 unfold L2.cutV;rw[HT.sIx_none,HT.sIx_nat,p0,Ac];rcases E1 i xs.length with h | h
 .rw[fz h]
 .rw[pU h,ip (aK _),ip h]
theorem jbg(xs:List V)(i:Nat):L2.cutV xs (some (i:Int)) none=xs.drop i:=by
 unfold L2.cutV;rw[HT.sIx_none,HT.sIx_nat];rcases E1 i xs.length with h | h
 .rw[fz h]
  exact ip (by rw[eF];omega)
 .rw[pU h,p_ (aK _),p_ h]
  exact List.take_nil
def jaz(C:ac):Sp:=fun vs H Q E=>∃(z:Str) (k:Nat) (n:Int),vs=[.str z,.int (k:Nat),.int n]/\z.length<=1000/\n.natAbs < 10 ^ 20/\(∀A B,zF k z=some (A,B)->∀p a b H',ML H H'->H' p=some (.tup [.ref a,.ref b])->H' a=some (.lst (A.map V.str))->H' b=some (.lst (B.map V.str))->Q (.ref p) H')/\(zF k z=none->Rh C n E H)
theorem jbi{p:ac}{X:List Str}{n:Int}{E:XK}(ha:H a=some (.lst (X.map V.str)))(hp:H p=none)(hN:∀x∈X,x.length<=1000)(hX:X.length<=1000)(hn:n.natAbs < 10 ^ 20)(q:X.all Rn=true->∀H',ML H H'->H' p=some (.lst (X.map V.str))->Q (.ref p) H')(qe:X.all Rn=false->Rh C n E H):
  YF (RZ K a) p (qz 0) K9 (zM (P5 C yP K2) [] E (yM (RJ 0) (yM (RJ 1) RI))) Q [none,some (.int n)] (upd H p (.lst [])):=by
 refine jcb (xs:=X.map V.str) (fun i σ' G=>∃u,σ'=[u,some (.int n)]/\ML H G/\(X.take i).all Rn=true/\G p=some (.lst ((X.take i).map V.str))) ⟨none,rfl,jd hp _,rfl,jc⟩ ?_ ?_ ?_
 .rintro i σ' G _ ⟨u,rfl,sG,_⟩
  exact ES.of (sG _ _ ha)
 .rintro i x σ' G hx ⟨u,rfl,sG,hA,hG⟩
  rw[bP]at hx
  obtain⟨z,hz,rfl⟩:=tT.mp hx
  have hm:=gJ hz
  have hi:i < X.length:=(dY.mp hz).1
  unfold qz K9
  refine k9 ?_
  refine Ps rfl rfl (R5 (hN z hm) hn (fun e G1 s1=>?_) (fun e=>(qe ?_).mono sG))
  .refine⟨_,s1 _ _ hG,kA (by rw[av,cq];omega),Pp rfl ⟨?_,?_,?_⟩⟩
   .intro b o e
    rw[jq (jm e hp)]
    exact s1 _ _ (sG _ _ e)
   .rw[gI,hz,List.all_append,hA]
    show (true && (Rn z && true))=true
    rw[show Rn z=true from e]
    rfl
   .rw[jc,gI,hz,bj]
    rfl
  .rw[Pu]
   intro h
   have:=c_.mp h z hm
   rw[show Rn z=false from e]at this
   cases this
 .rintro σ' G ⟨u,rfl,sG,hA,hG⟩
  rw[av,iq]at hG hA
  exact q hA G sG hG
def ZW:Qx
 | [],z=>(zF 1 z).map fun _=>[⟨"proc",false,false⟩]
 | _,_=>none
def Sj:Qx
 | [],_=>none
 | F :: fs,z=>(zF 2 z).map fun _=>Qk F :: fs
section
variable {CR:ac}
theorem jg8(F:Fun K "parted_names" "parted_names" zi f fd)(B:Ni mg)(bx:NI P w K mg base 3 "refuse_unless" Nk (JU C))(cz:NI P w K mg base 4 "name_read" NY (P5 C yP K2)):MT P w K mg base (PY P w) 5 f fd MG (jaz C):=by
 have sc:tS DZ MG (jo zi):=fQ;refine F.okD sc (fun aB A iw s H vs Q E hr W h=>?_);obtain⟨z,k,n,rfl,hz,hn,q1,q2⟩:=h;refine⟨_,(ja (jh 3 sc.nd (jV bi iW pN Jl (bB 0) (jp jb))) (ja (jP (jM bx W hr (jj (ki KL jb (bB 3) rfl) (bB 2)))) (ja (jh 4 sc.nd (jV bL PySem.F.slot_list_index PySem.F.type_list_index jhq (bB 3) (jp jb))) (ja (YI (i:=5) sc.nd rfl oQ ["word"] [2] W rfl (qr (sc:=jo zi) (N:=DZ) rfl rfl N3) (YJ (kq qv (bB 3) kF (kE (bB 4)))) (fun s H ex xe W'=>⟨(kU (i:=0) (show cv (["word","line"]:List Str) from N3) rfl oQ),qt,(jfG cz W' hr (jj (bB 0) (bB 1)))⟩)) (ja (YI (i:=6) sc.nd rfl oQ ["word"] [2] W rfl (qr (sc:=jo zi) (N:=DZ) rfl rfl N3) (YJ (kq qv (bB 3) (kE (jn qb (bB 4) je)) kF)) (fun s H ex xe W'=>⟨(kU (i:=0) (show cv (["word","line"]:List Str) from N3) rfl oQ),qt,(jfG cz W' hr (jj (bB 0) (bB 1)))⟩)) (ja (jP (jM bx W hr (jj (ki jiP (j7 jE N9 B.len_ ku (jp (bB 5))) (bB 1) (jA _)) (bB 2)))) (jg (jy (jG (jj (bB 5) (bB 6))))))))))),?_⟩
 refine kK ?_
 try dsimp only[qF]
 refine jjy ?_;intro _ _ _ _ _ _;have hsz:z.length+2<=aF:=aw (Ag hz 2) N5;refine Pp rfl ⟨rfl,z,Pp rfl ⟨rfl,rfl,hsz,fun wl gR=>?_⟩⟩;unfold zF at q1 q2;have mD:∀x∈Txt.split z (aa " "),x.length<=1000:=fun x hx=>aw (jkp hx) hz
 have vY:zR∈Txt.split z (aa " ")->(Txt.split z (aa " ")).length<=1000:=fun h=>aw (jh7 h) hz
 generalize Txt.split z (aa " ")=ws at *;have s1:=jd gR (.lst (ws.map V.str));have e1:=Pn (H:=H) wl (.lst (ws.map V.str));generalize upd H wl _=H1 at *;refine gQ ?_;refine Pp rfl ⟨wl,Pp rfl ⟨.inl (ES.of e1),rfl,Jp _,Pp rfl ⟨_,n,rfl,hn,fun b_=>?_,fun b_=>?_⟩⟩⟩
 all_goals rw[PN aU,yH]at b_
 .have b_:=PK b_
  rw[PP b_]at q1 q2;have vY:=vY b_;have i_:=jhB b_;have B7:=jfl (ws:=ws);generalize q8 ws=h2 at *;obtain⟨X,Y⟩:=h2;dsimp only at q1 q2 i_ B7;have hl:X.length+Y.length+1<=1000:=by have:=PR fE i_;rw[az,aM]at this;omega
  refine Pp rfl ⟨.inl ⟨rfl,_,ES.of e1⟩,wl,_,zR,X.length,rfl,rfl,e1,by rw[i_];simp,fun m hm=>B7 m hm,N4,?_⟩;refine gQ ?_;refine Ps rfl rfl (Pp rfl (Pq rfl (ES.of e1) (fun l1 cT=>?_)));have ec:L2.cutV (ws.map V.str) none (some ((X.length:Nat):Int))=X.map V.str:=by rw[zm,i_,bj,List.take_left' (by rw[av])]
  rw[ec];have s2:=jd cT (.lst (X.map V.str));have e2:=Pn (H:=H1) l1 (.lst (X.map V.str));generalize upd H1 l1 _=H2 at *;have bR:=s1.trans s2;have hX:∀x∈X,x.length<=1000:=fun x hx=>mD x (by rw[i_];exact cB _ hx)
  have hY:∀x∈Y,x.length<=1000:=fun x hx=>mD x (by rw[i_];exact bV _ (aH _ hx))
  refine⟨l1,rfl,⟨_,ES.of e2⟩,fun a1 IT=>jbi e2 IT hX N4 hn (fun hA H3 s3 ea=>?_) fun hA=>(q2 (PN (by rw[hA];exact aU))).mono bR⟩;rw[PP hA]at q1 q2;have br:=bR.trans s3;have sx:=s3 _ _ (s2 _ _ e1);refine gQ ?_;refine Ps rfl rfl (Pq rfl rfl (Pp rfl (Pq rfl (ES.of sx) (fun l2 cD=>?_))));have ec:L2.cutV (ws.map V.str) (some (((X.length:Nat):Int)+1)) none=Y.map V.str:=by rw[show (((X.length:Nat):Int)+1)=(((X.length+1:Nat)):Int) from rfl,jbg,i_,bj,List.drop_append,av,show X.length+1 - X.length=1 from N4,p_ (by rw[av];omega)];rfl
  rw[ec];have s4:=jd cD (.lst (Y.map V.str));have e4:=Pn (H:=H3) l2 (.lst (Y.map V.str));generalize upd H3 l2 _=H4 at *;have iz:=br.trans s4;refine⟨l2,rfl,⟨_,ES.of e4⟩,fun b1 IR=>jbi e4 IR hY N4 hn (fun hB H5 s5 eb=>?_) fun hB=>(q2 (PN (by rw[hB];exact aU))).mono iz⟩;rw[PP hB]at q1 q2;have de:=iz.trans s5;have CH:=s5 _ _ (s4 _ _ ea);refine gQ ?_;refine Pp rfl ⟨a1,Pp rfl ⟨.inl (ES.of CH),Pp rfl (Pq rfl rfl (Pp rfl ⟨_,n,rfl,hn,fun e=>?_,fun e=>?_⟩))⟩⟩
  all_goals rw[av]at e
  .have e:k<=X.length:=by have:=PK e;omega
   rw[PP e]at q1;refine Ps rfl rfl ⟨sm rfl,fun p hp=>?_⟩;have s6:=jd hp (.tup [V.ref a1,V.ref b1]);exact q1 _ _ rfl p a1 b1 _ (de.trans s6) jc (s6 _ _ CH) (s6 _ _ eb)
  .refine (q2 (PN fun h=>?_)).mono de
   have:=of_decide_eq_false e;omega
 .have b_:=of_decide_eq_false b_
  rw[PN b_]at q2;exact (q2 rfl).mono s1
def jbQ{k:Nat}{A B:List Str}(h:zF k z=some (A,B)):k<=A.length:=by
 unfold zF at h;split at h
 .split at h
  .split at h
   .split at h
    .rename_i h4
     injection h with h;rw[h]at h4;exact h4
    .cases h
   .cases h
  .cases h
 .cases h
def jiQ(TR:QK K CR)(F:Fun K "take_proc" "take_proc" Yd f fd)(B:Ni mg)(hU:Q0 P w K mg base 1 "Body" CB M8 (jaB CB))(bx:NI P w K mg base 3 "refuse_unless" Nk (JU C))(nc:NI P w K mg base 5 "parted_names" MG (jaz C)):MT P w K mg base (PY P w) 6 f fd NR (Jz C CR CB ZW):=by
 have sc:tS ["reading","rest","line","names","rows"] NR (jo Yd):=fQ;refine F.okD sc (fun aB A iw s H vs Q E hr W h=>?_);obtain⟨H0,k,L,fs,z,n,rfl,hz,hn,hk,hR,q1,q2⟩:=h;refine⟨_,(ja (jP (jM bx W hr (jj (JP (j3 (bB 0) rfl)) (bB 2)))) (ja (kz (jM nc W hr (jr (bB 1) (jj je (bB 2)))) (kB rfl (jv (jt 3 sc.nd) (jv (jt 4 sc.nd) kj)))) (jg (jP (jV bL cg cf ke (j3 (bB 0) rfl) (jp (jeu hU hr (jj jb (jG (jr (js jQ (bB 3) je) (jj (kJ jZ N9 B.tuple_ kX (jp (kq qv (bB 3) (kE je) kF))) (kJ jZ N9 B.tuple_ kX (jp (bB 4)))))))))))))),?_⟩
 refine kK ?_
 try dsimp only[qF]
 refine Y7 ?_;intro _ _;have hb:=hR.b;have hf:=hR.f;refine Pp rfl ⟨L.r,CR,L.dx,_,Pp rfl ⟨hR.r,TR.c,TR.n2,rfl,_,jkt hb,Pp rfl ⟨_,n,rfl,hn,fun e=>?_,fun e=>?_⟩⟩⟩;rotate_left
 .cases fs with
  | nil=>
   cases eA:L.As with
   | nil=>rw[eA]at e;cases e
   | cons A As=>rw[eA]at hf;exact hf.elim
  | cons G fs=>exact (q2 rfl).mono hR.s
 have eA:L.As=[]:=by
  cases eA:L.As with
  | nil=>rfl
  | cons A As=>rw[eA]at e;unfold JN at e;simp at e
 rw[eA]at hf
 cases fs with
 | cons _ _=>exact hf.elim
 | nil=>
  simp only[ZW]at q1 q2;refine Ps rfl rfl ⟨z,1,n,rfl,hz,hn,fun X Y eP p a b H1 s1 ep ea eb=>?_,fun eP=>(q2 (by rw[eP];rfl)).mono hR.s⟩;rw[eP]at q1;refine Pq rfl (Nu.of ep) ⟨rfl,_,Pp rfl (Pq rfl rfl ?_)⟩;refine gQ ?_;have dq:=hR.same s1;have hl:=jbQ eP;obtain⟨g,X,rfl⟩:=Fh (bY OH hl);refine Pp rfl ⟨L.r,CR,L.dx,_,Pp rfl ⟨dq.r,TR.c,TR.n2,rfl,.inl ⟨rfl,_,ES.of dq.b⟩,Pp rfl ⟨a,_,_,.str g,rfl,rfl,ES.of ea,ju (j:=0) rfl,Ps rfl rfl (Pq rfl (ES.of ea) (fun l oW=>?_))⟩⟩⟩;have s2:=jd oW (.lst (L2.cutV ((g :: X).map V.str) (some 1) none));have e2:=Pn (H:=H1) l (.lst (L2.cutV ((g :: X).map V.str) (some 1) none));generalize upd H1 l _=H2 at *;refine⟨l,Pp rfl (.inl ⟨ES.of e2,fun t1 eM=>?_⟩)⟩;have s3:=jd eM (.tup (L2.cutV ((g :: X).map V.str) (some 1) none));refine Pp rfl ⟨b,Pp rfl (.inl ⟨ES.of (s3 _ _ (s2 _ _ eb)),fun t2 dM=>⟨sm rfl,fun t3 fM=>?_⟩⟩)⟩;have s4:=jd dM (.tup (Y.map V.str));have s5:=jd fM (.tup [V.str g,.ref t1,.ref t2]);exact ZH (dq.same (s2.trans (s3.trans (s4.trans s5)))) hk (fun _=>⟨t3,_,rfl,jc,rfl⟩) (q1 _ rfl)
def jiZ(T:Qt K CB)(F:Fun K "take_call" "take_call" Yi f fd)(B:Ni mg)(bh:NI P w K mg base 3 "innermost" Nj (za C CR CB))(nc:NI P w K mg base 5 "parted_names" MG (jaz C)):MT P w K mg base (PY P w) 6 f fd NR (Jz C CR CB Sj):=by
 have sc:tS ["reading","rest","line","body","names","rows"] NR (jo Yi):=fQ;refine F.okD sc (fun aB A iw s H vs Q E hr W h=>?_);obtain⟨H0,k,L,fs,z,n,rfl,hz,hn,hk,hR,q1,q2⟩:=h;refine⟨_,(ja (jh 3 sc.nd (jM bh W hr (jj (bB 0) (bB 2)))) (ja (kz (jM nc W hr (jr (bB 1) (jj je (bB 2)))) (kB rfl (jv (jt 4 sc.nd) (jv (jt 5 sc.nd) kj)))) (jg (jP (jV bL cg cf ke (j3 (bB 3) rfl) (jp (jG (jr jb (jr (js jQ (bB 4) je) (jr (js jQ (bB 4) je) (jj (kJ jZ N9 B.tuple_ kX (jp (kq qv (bB 4) (kE je) kF))) (kJ jZ N9 B.tuple_ kX (jp (bB 5)))))))))))))),?_⟩
 refine kK ?_
 try dsimp only[qF]
 refine Y7 ?_;intro _ _;refine Ps rfl rfl ⟨H0,k,L,fs,n,rfl,hn,hR,fun B' As G fs' eA e hB=>?_,fun e=>q2 (by rw[e];rfl)⟩;subst e;obtain⟨dx,vh,vf,cs,gs,ss,h1,h2,h3,h4,h5,h6,h7,h8,h9,bp⟩:=id hB;refine gQ ?_;simp only[Sj]at q1 q2;refine Ps rfl rfl ⟨z,2,n,rfl,hz,hn,fun X Y eP p a b H1 s1 ep ea eb=>?_,fun eP=>(q2 (by rw[eP];rfl)).mono hR.s⟩;rw[eP]at q1;refine Pq rfl (Nu.of ep) ⟨rfl,_,Pp rfl (Pq rfl rfl ?_)⟩;refine gQ ?_;have hl:=jbQ eP;obtain⟨x,X,rfl⟩:=Fh (bY N5 hl);obtain⟨g,X,rfl⟩:=Fh (bY OH (Nat.le_of_succ_le_succ hl));refine Pp rfl ⟨B'.b,CB,dx,_,Pp rfl ⟨s1 _ _ h1,T.c,T.n6,rfl,.inl ⟨rfl,_,ES.of (s1 _ _ h7)⟩,Pp rfl ⟨a,_,_,.str x,rfl,rfl,ES.of ea,ju (j:=0) rfl,Pp rfl ⟨a,_,_,.str g,rfl,rfl,ES.of ea,ju (j:=1) rfl,Ps rfl rfl (Pq rfl (ES.of ea) (fun l oW=>?_))⟩⟩⟩⟩;have s2:=jd oW (.lst (L2.cutV ((x :: g :: X).map V.str) (some 2) none));have e2:=Pn (H:=H1) l (.lst (L2.cutV ((x :: g :: X).map V.str) (some 2) none));generalize upd H1 l _=H2 at *;refine⟨l,Pp rfl (.inl ⟨ES.of e2,fun t1 eM=>?_⟩)⟩;have s3:=jd eM (.tup (L2.cutV ((x :: g :: X).map V.str) (some 2) none));refine Pp rfl ⟨b,Pp rfl (.inl ⟨ES.of (s3 _ _ (s2 _ _ eb)),fun t2 dM=>⟨sm rfl,fun t3 fM=>?_⟩⟩)⟩;have s4:=jd dM (.tup (Y.map V.str));have s5:=jd fM (.tup [V.str (aa "call"),V.str x,V.str g,.ref t1,.ref t2]);have de:=s1.trans (s2.trans (s3.trans (s4.trans s5)));exact⟨B'.s,ss,Pp rfl ⟨rfl,de _ _ h7,zI h8 hk,q1 _ rfl _ L rfl ((hR.same de).addS eA (de _ _ h7))⟩⟩
end
end LW
namespace L2
open PySem PySem.Spec PyProof.Rows
def jnm(P:aC)(w:ax)(K:ao)(mg:Str->Option ae)(base:ak)(k' i:Nat)(E:XK)(t:TA):TE:=fun σ H Q=>∃f,σ[i]?=some (some (.ref f))/\∃fd k ps sp,MT P w K mg base (PY P w) k f fd ps sp/\k<=k'/\Nr K fd ps []/\di K (.ref f)=true/\t σ H fun vs H1=>sp (vs++[]) H1 Q E
def jh2{X:Cx}{k' i:Nat}{x:Str}{E:XK}{e:aj}{es:List aj}{t:TA}{p x5:Pos}(W:XD X E)(hr:Np k' X.A)(hx:QE X (.Name x p) (RJ i))(ha:QA X (e :: es) t)(hp:(e :: es).all qD=true:=by rfl):QE X (.Call (.Name x p) (e :: es) [] x5) (jnm X.prog X.w X.K X.mg X.base k' i E t):=by
 refine⟨fun ad s σ H Q I h=>?_⟩;obtain⟨f,ef,fd,k,ps,sp,F,hk,hb,kp,h⟩:=h;rw[eX,bg]at hp;refine iR (Nn (hx.h ad s σ H (fun v H1=>v=.ref f/\H1=H) I ⟨_,ef,rfl,rfl⟩) fun u s1 hM=>?_);obtain⟨v,H1,I1,rv,e1,e2⟩:=hM;subst e1 e2
 cases (show u=Value.ref f from rv)
 refine xR (h₀:=X.base) I1.ok.mod.kin kp (Nn (ha.h x5 ad s1 σ H1 _ I1 h) fun us s2 ⟨vs,H2,I2,r,q⟩=>⟨I2.kIn,?_⟩) (qX hp.1 es X.Ec) (yV x5 X.Ec es hp.2);exact jeM F (hr.mono hk) hb .nil W.passes I2 r q
end L2
namespace LW
open PySem L2
abbrev Zu:ay:=NS 13
abbrev jil:ay:=NS 12
def jgx:List (Str×Qx):=[("proc",ZW),("need",Y9),("give",Zb),("keep",Za),("back",Zd),("any",Sw),("claim",YA),("call",Sj),("if",RW),("while",Ku),("else",Zc),("end",Rz)]
def JM(x:Str):Option Qx:=jgx.lookup x
def JO:Qx:=fun fs z=>match JM (mS (OC [32] (cd z)).1) with
 | some g=>g fs (mS (OC [32] (cd z)).2)
 | none=>ja2 fs z
def zN:Nat->List Fr->List Str->Option Nat
 | n,fs,[]=>if fs.isEmpty=true then none else some n
 | n,fs,r :: R=>if km (cd r)=[] then zN (n+1) fs R else match JO fs (mS (km (cd r))) with
  | none=>some n
  | some fs'=>zN (n+1) fs' R
def Zq(l:List Nat):(km l).length<=l.length:=by unfold km;rw[Fd];exact aw ((Pi _).length_le) (by rw[Fd];exact (Pi _).length_le)
structure R1(P:aC)(w:ax)(K:ao)(mg:Str->Option ae)(base:ak)(C CR CB aD:ac)(dv:Str->Option ac):Prop where
 g:mg "DEEDS" = some (.ref aD)
 d:Rw K w aD fun x=>(dv x).map V.ref
 s:∀x f,dv x=some f->∃fd k g,MT P w K mg base (PY P w) k f fd NR (Jz C CR CB g)/\k<=10/\Nr K fd NR []/\di K (.ref f)=true/\JM x=some g
 n:∀x,dv x=none->JM x=none
def jfO(C:ac):Sp:=fun vs H Q E=>∃(R:List Str),vs=[.str (cA (aa "\n") R)]/\R≠[]/\(∀r∈R,10 ∉ cd r/\r.length<=1000)/\(cA (aa "\n") R).length<=10000000/\R.length<=50000/\(zN 1 [] R=none->∀v H',ML H H'->Q v H')/\∀n:Nat,zN 1 [] R=some n->Rh C n E H
variable {P:aC}{w:ax}{K:ao}{mg:Str->Option ae}{base:ak}{f:ac}{fd:aE}
section
variable {C C1 CR CB aD:ac}{dv:Str->Option ac}
def jkX(F:Fun K "take_row" "take_row" Zu f fd)(D:R1 P w K mg base C CR CB aD dv)(w_:NI P w K mg base 8 "take_given" M5 (Jz C CR CB ja2)):MT P w K mg base (PY P w) 11 f fd M5 (Jz C CR CB JO):=by
 have sc:tS ["reading","text","line","word","blank","rest","deed"] M5 (jo Zu):=fQ;refine F.okD sc (fun aB A iw s H vs Q E hr W h=>?_);obtain⟨H0,k,L,fs,z,n,rfl,hz,hn,hk,hR,q1,q2⟩:=h;refine⟨_,(ja (kz (jV bi lY nO qN (bB 1) (jp jb)) (kB rfl (jv (jt 3 sc.nd) (jv (jt 4 sc.nd) (jv (jt 5 sc.nd) kj))))) (jg (jR (jx jmw (bB 3) (zz (v:=.ref aD) N9 D.g rfl) rfl) (ja (jh 6 sc.nd (jh0 (zz (v:=.ref aD) N9 D.g rfl) (bB 3))) (jg (jP (jh2 W hr (bB 6) (jr (bB 0) (jj (bB 5) (bB 2))))))) (jg (jP (jM w_ W hr (jr (bB 0) (jj (bB 1) (bB 2))))))))),?_⟩
 refine kK ?_;obtain⟨b1,w1⟩:=ZA (x:=z) (y:=aa " ") N3;rw[show cd (aa " ")=[32] from rfl]at w1;have l1:=KJ (Nt:=[32]) (show (cd z).length<=1000 by rw[jY];exact hz);unfold JO at q1 q2;generalize OC [32] (cd z)=a at *;refine Pp rfl ⟨rfl,z,aa " ",rfl,rfl,rfl,sz hz,fun p hp=>?_⟩;rw[w1];dsimp only;have s1:=jd hp (.tup [V.str (mS a.1),V.str b1,V.str (mS a.2)]);have e1:=Pn (H:=H) p (.tup [V.str (mS a.1),V.str b1,V.str (mS a.2)]);generalize upd H p _=H1 at *;refine Pq rfl (Nu.of e1) ⟨rfl,_,Pp rfl ⟨_,Pp rfl (Pq rfl rfl ?_)⟩⟩;refine yN (σ':=[some (.ref L.r),some (.str z),some (.int n),some (.str (mS a.1)),some (.str b1),some (.str (mS a.2)),none]) rfl ?_;have dq:=hR.same s1;refine Pp rfl ⟨mS a.1,aD,Pp rfl ⟨rfl,D.d,Pp rfl ?_⟩⟩
 cases ed:dv (mS a.1) with
 | none=>
  rw[D.n _ ed]at q1 q2;exact kT ⟨_,rfl,_,rfl,_,rfl,H0,k,L,fs,z,n,rfl,hz,hn,hk,dq,q1,q2⟩
 | some g=>
  obtain⟨LD,kg,gg,G,Ij,hb,kp,er⟩:=D.s _ _ ed;rw[er]at q1 q2;refine k9 ⟨_,rfl,mS a.1,aD,_,.ref g,rfl,rfl,D.d,by rw[ed];rfl,?_⟩;refine yN (σ':=[some (.ref L.r),some (.str z),some (.int n),some (.str (mS a.1)),some (.str b1),some (.str (mS a.2)),some (.ref g)]) rfl ?_;exact⟨g,rfl,LD,kg,_,_,G,Ij,hb,kp,Ps rfl rfl (Pp rfl ⟨H0,k,L,fs,mS a.2,n,rfl,by rw[qO];exact l1.2,hn,hk,dq,q1,q2⟩)⟩
theorem ji4{fi:ac}{iN:aE}(TR:QK K CR)(F:Fun K "read" "read" jil f fd)(B:Ni mg)(Z:SM K mg C C1 fi)(I:MT P w K mg base PU 1 fi iN M0 (jaA C))(mR:Nr K iN M0 [])(wT:mg "enumerate" = none)(wX:Q0 P w K mg base 1 "Reading" CR ["self"] (jbH CR))(w9:NI P w K mg base 11 "take_row" M5 (Jz C CR CB JO)):MT P w K mg base (PY P w) 12 f fd Nz (jfO C):=by
 have sc:tS ["text","rows","reading","line","row","told"] Nz (jo jil):=fQ;refine F.okD sc (fun aB A iw s H vs Q E hr W h=>?_);obtain⟨R,rfl,aR,BO,bb,hcnt,q1,q2⟩:=h;refine⟨_,(ja (jh 1 sc.nd (jV bi iW pN Jl (bB 0) (jp jb))) (ja (jh 2 sc.nd (jkm wX hr)) (ja (yn W.own rfl (jgI N9 wT (jp (bB 1))) (kB rfl (jv (jt 3 sc.nd) (jv (jt 4 sc.nd) kj))) (ja (jh 5 sc.nd (jV bi pP pM yw (bB 4) (jp jb))) (jg (jR (jx SE (bB 5) jb (jA _)) (jg (jP (jM w9 W hr (jr (bB 2) (jj (bB 5) (bB 3)))))) jH)))) (ja (jR (jdj (j3 (bB 2) rfl)) (jg (K6 W rfl N9 Z.gn Z.fl.ex Z.fi Z.ty I mR (hr.mono N5) (jp (jn qb (j7 jE N9 B.len_ ku (jp (bB 1))) je)))) jH) (jg (jy (kJ jZ N9 B.tuple_ kX (jp (j3 (bB 2) rfl))))))))),?_⟩
 try dsimp only[qF]
 refine K4 ?_;intro _ _ _ _;generalize hT:cA (aa "\n") R=T at *;refine kK ?_;have fb:Txt.split T (aa "\n")=R:=by rw[<- hT];exact Ya (c:=10) rfl aR fun r hr=>(BO r hr).1
 refine Pp rfl ⟨rfl,T,Pp rfl ⟨rfl,rfl,aw (Ag bb 2) N5,fun rl iE=>?_⟩⟩;rw[fb];have s1:=jd iE (.lst (R.map V.str));have e1:=Pn (H:=H) rl (.lst (R.map V.str));generalize upd H rl _=H1 at *;refine gQ ?_;refine (fun x dx hx fT hne'=>⟨x,dx,rfl,jc,fun lp lb H2 kx lq cx iG g1 g2 g3=>⟨rfl,?_⟩⟩);have fresh:∀a,upd (upd H1 dx (.own x)) x (.ins CR dx []) a=none->H1 a=none:=fun a ha=>by
  by_cases z:a=x
  .rw[z,jc]at ha;cases ha
  by_cases z2:a=dx
  .rw[jq z,z2,jc]at ha;cases ha
  .rw[jq z,jq z2]at ha;exact ha
 have s2:ML H1 H2:=fun b o e=>kx _ _ (jm e hx) (by rw[jq (jm e hx),jq (jm e fT)];exact e)
 have R0:NA CR CB H1 0 H2 ⟨x,dx,lp,lb,[]⟩ []:=⟨g1,⟨[],g2,aK _⟩,g3,True.intro,by simp[Qj.lsts,iG],by simp[Qj.inss],fun a ha=>by
  have ha:a∈[lp,lb,x]:=ha;simp only[aA,fC,or_false]at ha;rcases ha with rfl | rfl | rfl
  .exact fresh _ lq
  .exact fresh _ cx
  .exact hx,aK _,s2⟩
 clear g1 g2 g3 lq cx iG kx fresh hx fT;refine gQ ?_;refine Pp rfl ⟨rl,rfl,⟨_,ES.of (s2 _ _ e1)⟩,?_⟩;let Pv:Nat->St->Hp->Prop:=fun i σ G=>∃u3 u4 u5 L fs,σ=[some (.str T),some (.ref rl),some (.ref x),u3,u4,u5]/\L.r=x/\NA CR CB H1 i G L fs/\zN 1 [] R=zN (i+1) fs (R.drop i)
 refine jhD (xs:=R.map V.str) Pv ⟨none,none,none,⟨x,dx,lp,lb,[]⟩,[],rfl,rfl,R0,rfl⟩ ?_ ?_ ?_
 .rintro i σ G _ ⟨u3,u4,u5,L,S,rfl,_,hR,_⟩
  exact ES.of (hR.s _ _ e1)
 .rintro i y σ G t hy ⟨u3,u4,u5,L,fs,rfl,rfl,hR,gY⟩ ht
  rw[bP]at hy;obtain⟨r,bS,rfl⟩:=tT.mp hy;have hi:i < R.length:=(dY.mp bS).1;have mF:=BO r (gJ bS);have ed:R.drop i=r :: R.drop (i+1):=by rw[At hi,(dY.mp bS).2]
  rw[ed]at gY;have s3:=jd ht (.tup [.int ((i+1:Nat)),.str r]);have hR:=hR.same s3;have e3:=Pn (H:=G) t (.tup [.int ((i+1:Nat)),.str r]);generalize upd G t _=G1 at *;refine Pq rfl (Nu.of e3) ⟨rfl,_,Pp rfl (Pq rfl rfl ?_)⟩;refine yN (σ':=[some (.str T),some (.ref rl),some (.ref L.r),some (.int ((i+1:Nat))),some (.str r),u5]) rfl ?_;refine Pp rfl ⟨rfl,r,Pp rfl ⟨rfl,sz mF.2,?_⟩⟩;rw[Jg];refine gQ ?_;refine Pp rfl ⟨rfl,Pp rfl ?_⟩;by_cases hz:km (cd r)=[]
  .rw[show zN (i+1) fs (r :: R.drop (i+1))=zN (i+1+1) fs (R.drop (i+1)) by conv=>lhs;unfold zN;rw[PP hz]]at gY
   rw[hz];refine kW (fun d=>absurd d N3) (fun _=>?_);exact⟨_,_,_,L,fs,rfl,rfl,hR.mono (fB i),gY⟩
  .have hb:(!decide (V.str (mS (km (cd r)))=V.str (aa "")))=true:=by rw[fG,decide_eq_false_iff_not];intro h;injection h with h;have:=PR cd h;rw[kS]at this;exact hz this
   rw[hb];refine k9 ?_;refine Ps rfl rfl (Pp rfl ⟨H1,i,L,fs,mS (km (cd r)),((i+1:Nat)),rfl,by rw[qO];exact aw (Zq _) (by rw[jY];exact mF.2),N4,N4,hR,fun fs' e G2 L2 eL so=>⟨_,_,_,L2,fs',rfl,eL,so,?_⟩,fun e=>(q2 (i+1) ?_).mono s1⟩)
   .rw[gY]
    conv=>lhs;unfold zN;rw[PN hz,e]
   .rw[gY]
    conv=>lhs;unfold zN;rw[PN hz,e]
 .rintro σ G ⟨u3,u4,u5,L,fs,rfl,rfl,hR,gY⟩
  rw[av,List.drop_length]at gY;have hb:=hR.b;have hf:=hR.f;refine Pp rfl ⟨L.r,CR,L.dx,_,Pp rfl ⟨hR.r,TR.c,TR.n2,rfl,_,jkt hb,?_⟩⟩;have e1:=hR.s _ _ e1;have Iz:(JN L.As).isEmpty=fs.isEmpty:=by
   cases eA:L.As with
   | nil=>
    rw[eA]at hf
    cases fs with
    | nil=>rfl
    | cons _ _=>exact hf.elim
   | cons A As=>
    rw[eA]at hf
    cases fs with
    | nil=>exact hf.elim
    | cons _ _=>unfold JN;simp
  rw[Iz]
  cases fs with
  | nil=>
   refine kT ?_;obtain⟨pv,p1,p2⟩:=hR.p;refine Pp rfl ⟨L.r,CR,L.dx,_,Pp rfl ⟨hR.r,TR.c,TR.n1,rfl,L.lp,Pp rfl (.inl ⟨ES.of p1,fun t ht=>?_⟩)⟩⟩;exact q1 gY _ _ (s1.trans (hR.s.trans (jd ht (.tup pv))))
  | cons F fs=>
   refine k9 ?_;have hq:=(q2 (R.length+1) gY).mono (s1.trans hR.s);refine Pp rfl ⟨rl,Pp rfl ⟨.inl (ES.of e1),Pq rfl rfl ⟨(show 1<=1000 from N5),?_⟩⟩⟩;rw[av];exact jaJ (n:=((R.length+1:Nat):Int)) N4 hq
end
theorem jfg(i:Int):cd (Rr i)=Kt i:=by
 unfold cd;rw[show (Rr i).cps.toList=(nj i).toList.map n8 from jfU i];unfold Kt dg
 cases i with
 | ofNat m=>
  rw[PN (show ¬Int.ofNat m < 0 from Int.not_lt.mpr (Int.natCast_nonneg m))];show (Nat.repr m).toList.map n8=_;rw[OI];rfl
 | negSucc m=>
  rw[PP N4];show ("-"++m.succ.repr).toList.map n8=_;rw[ME,bj,OI];rfl
variable {c:Int}
theorem jgk(h:0 < c):Kt c=dg c.natAbs:=by unfold Kt;rw[PN N4]
variable {z:Str}
def jdg:z=aa ""↔cd z=[]:=⟨fun h=>by rw[h];rfl,fun h=>JH (by rw[h];rfl)⟩
theorem yr(z:Str)(c:Int):cd (qp z c)=ky (cd z) c:=by
 unfold qp ky;by_cases h:z=aa ""
 .rw[PP h,PP (jdg.mp h),jfg]
 rw[PN h,PN (fun k=>h (jdg.mpr k))];split
 .rename_i h0
  rw[jW,jW,jfg,jgk h0,bq];rfl
 split
 .rename_i h0
  rw[jW,jW,jfg,jgk N4,bq,Int.natAbs_neg];rfl
 .rfl
def jeq(t:Tm):cd (Jd t)=qi t:=by
 cases t with
 | is x=>
  show cd (if x=aa "" then aa "0" else x)=if cd x=[] then [48] else cd x
  by_cases h:x=aa ""
  .rw[PP h,PP (jdg.mp h)];rfl
  .rw[PN h,PN (fun k=>h (jdg.mpr k))]
 | at_ r x d=>
  show cd (r++aa "["++qp x d++aa "]")=cd r++91 :: (ky (cd x) d++[93]);rw[jW,jW,jW,yr,bq,bq];rfl
def YO(t:Tm)(c:Int):cd (zC t c)=zr t c:=by
 cases t with
 | is x=>exact yr x c
 | at_ r x d=>
  show cd (qp (Jd (.at_ r x d)) c)=_;rw[yr,jeq];rfl
def jj6(b:Bd)(c:Int):cd (jbm b c)=yK b c:=by
 cases b with
 | is x=>exact yr x c
 | row r=>
  show cd (qp (r++aa "[]") c)=_;rw[yr,jW];rfl
def jdG(x:Str)(d:Int)(y:Str)(e:Int)(r:Str):cd (Yp x d y e r)=qK x d y e r:=by unfold Yp qK;rw[jW,jW,jW,jW,yr,yr,bq,bq,bq];rfl
def yJ(C:Cl):cd (kb C)=yl C:=by
 cases C with
 | least a b c=>
  show cd (Jd a++aa " >= "++zC b c)=qi a++32 :: 62 :: 61 :: 32 :: zr b c;rw[jW,jW,jeq,YO,bq];rfl
 | rise x d y e r=>
  show cd (aa "rise "++Yp x d y e r)=114 :: 105 :: 115 :: 101 :: 32 :: qK x d y e r;rw[jW,jdG];rfl
 | each x d y e r aT b c=>
  show cd (aa "each "++Yp x d y e r++aa " "++aT++aa " "++jbm b c)=101 :: 97 :: 99 :: 104 :: 32 :: (qK x d y e r++32 :: (cd aT++32 :: yK b c));rw[jW,jW,jW,jW,jW,jdG,jj6];simp only[bq];rfl
def RS(l:List Nat):Prop:=(∃c m,l=c :: m/\c≠32)/\∃c m,l=m++[c]/\c≠32
theorem jbd{l:List Nat}:∀k:Nat,(∃c m,l=c :: m/\c≠32)->(aS k 32++l).dropWhile (· == 32)=l
 | 0,⟨c,m,e,h⟩=>by
  rw[e];show (c :: m).dropWhile _=_;rw[ui,PN (by simpa using h)]
 | k+1,h=>by rw[iZ];show (32 :: (aS k 32++l)).dropWhile _=_;rw[ui,PP (show ((32:Nat) == 32)=true from rfl),jbd k h]
def YR{l:List Nat}(h:RS l)(a b:Nat):km (aS a 32++(l++aS b 32))=l:=by unfold km;obtain⟨⟨c,m,e,hc⟩,⟨c2,m2,e2,cW⟩⟩:=h;rw[jbd a ⟨c,m++aS b 32,by rw[e];rfl,hc⟩,OX,OW,jbd b ⟨c2,m2.reverse,by rw[e2];simp,cW⟩,E6]
def P0(l:List Nat):Prop:=∃c m,l=m++[c]/\c≠32
def P0.app{l:List Nat}(a:List Nat)(h:P0 l):P0 (a++l):=by obtain⟨c,m,e,hc⟩:=h;exact⟨c,a++m,by rw[e,bq],hc⟩
def P0.cons{l:List Nat}{x:Nat}(h:P0 l):P0 (x :: l):=h.app [x]
def jda{l:List Nat}(hn:l≠[])(h:32 ∉ l):P0 l:=⟨l.getLast hn,l.dropLast,(List.dropLast_concat_getLast hn).symm,fun z=>h (z ▸ ue hn)⟩
def jlw(i:Int):P0 (Kt i):=by
 refine jda ?_ (KO rfl N5);unfold Kt;split
 .simp
 .exact jgv _
def Zf{x:List Nat}(h:x=[]\/P0 x)(c:Int):P0 (ky x c):=by
 unfold ky;split
 .exact jlw c
 .rename_i hx
  have hd:P0 (dg c.natAbs):=jda (jgv _) (zU rfl);split
  .exact hd.cons.cons.cons.app x
  split
  .exact hd.cons.cons.cons.app x
  .exact h.resolve_left hx
def jbc{l:List Nat}(h:j5 l=true):P0 l:=jda (Sd h) (qM h rfl)
variable {x:Str}
def jl4(h:Qo x):cd x=[]\/P0 (cd x):=by
 rcases h with rfl | h
 .exact .inl rfl
 .exact .inr (jbc h)
def jbb{t:Tm}(h:Q8 t)(c:Int):P0 (zr t c):=by
 cases t with
 | is x=>exact Zf (jl4 h) c
 | at_ r x d=>exact Zf (.inr ⟨93,cd r++91 :: ky (cd x) d,by show cd r++91 :: (ky (cd x) d++[93])=_;simp,N5⟩) c
def jhI{b:Bd}(h:SO b)(c:Int):P0 (yK b c):=by
 cases b with
 | is x=>exact Zf (jl4 h) c
 | row r=>exact Zf (.inr ⟨93,cd r++[91],NZ,N5⟩) c
def jgn{l:List Nat}(h:j5 l=true)(m:List Nat):∃c k,l++m=c :: k/\c≠32:=by
 cases l with
 | nil=>exact absurd rfl (Sd h)
 | cons a l=>exact⟨a,l++m,rfl,je9 (je1 h a (aJ ..)) rfl⟩
variable {C:Cl}
def zW(h:Qh C):RS (yl C):=by
 cases C with
 | least a b c=>
  obtain⟨h1,h2,h3⟩:=h;refine⟨?_,(jbb h2 c).cons.cons.cons.cons.app _⟩;show ∃k m,qi a++32 :: 62 :: 61 :: 32 :: zr b c=k :: m/\k≠32
  cases a with
  | is x=>
   rcases (show Qo x from h1) with rfl | hx
   .exact⟨48,Pp rfl (by decide)⟩
   .rw[show qi (.is x)=cd x from PN (Sd hx)]
    exact jgn hx _
  | at_ r x d=>
   show ∃k m,(cd r++91 :: (ky (cd x) d++[93]))++32 :: 62 :: 61 :: 32 :: zr b c=k :: m/\k≠32;rw[bq];exact jgn h1.1 _
 | rise x d y e r=>
  obtain⟨h1,h2,h3,h4,h5⟩:=h;exact⟨⟨114,Pp rfl (by decide)⟩,((((jbc h5).cons.app _).cons.cons.cons.cons.app _).cons.cons.cons.cons.cons)⟩
 | each x d y e r aT b c=>
  obtain⟨_,_,h7,_⟩:=h;exact⟨⟨101,Pp rfl (by decide)⟩,((((jhI h7 c).cons.app _).cons.app _).cons.cons.cons.cons.cons)⟩
def Qf(z:Str):Prop:=∀c∈cd z,yF c=true
def Qf.app{a b:Str}(h:Qf a)(k:Qf b):Qf (a++b):=fun c hc=>by rw[jW]at hc;exact (aL.mp hc).elim (h c) (k c)
def Qf.cut{a:Str}(h:Qf a)(lo hi:Option Int):Qf (Jb a lo hi):=fun c hc=>by have hc:c∈(Jb a lo hi).cps.toList:=hc;rw[zV]at hc;exact h c (gh (List.mem_of_mem_take hc))
variable {i:Nat}
theorem jjt(h:i < 26):yF (i+97)=true:=by unfold yF;rw[PL (show 97<=i+97 from N4),PL (show i+97<=122 from N4)];rfl
def jgd(h:i < 26):Qf (Ot [i+97]):=fun c hc=>by rw[aZ.mp (show c∈[i+97] from hc)];exact jjt h
theorem jdW(w:Int)(n:Dl):∀i,∀c∈(qZ w n i).1,yF c=true
 | 0,c,h=>nomatch h
 | i+1,c,h=>by
  rcases aL.mp (show c∈(qZ w n i).1++[_] from h) with h | h
  .exact jdW w n i c h
  .rw[aZ.mp h]
   have:=jN w (qZ w n i).2 (m:=26) N5;have:=jL w (qZ w n i).2 (m:=26) N5;exact jjt N4
def jll(h:Qn z):Qf (Ot [ch0 z]):=by obtain⟨i,r,rfl,hi,_⟩:=h;rw[jfw];exact jgd hi
theorem jdX{tk:List Str}:∀(k:Nat) {z:Str},Qf z->Qf (Jo tk k z)
 | 0,_,h=>h
 | k+1,z,h=>by
  unfold Jo;split
  .refine jdX k ?_
   exact (jgd (tX _ N5)).app (h.cut _ _)
  .exact h
def jjs(w:Int)(n:Dl){tk:List Str}(hl:Qf (qd tk))(hn:Qn (qd tk)):Qf (qw w n tk).1:=by
 unfold qw;dsimp only;refine jdX 26 ?_;have h1:Qf (Jk w n).1:=jdW _ _ _;have pk:=nm1 w n;generalize Jk w n=a at *;have h2:Qf (Jj w a.2 (qd tk) a.1).1:=by
  unfold Jj;dsimp only;split
  .exact ((hl.cut _ _).app (jll pk)).app (hl.cut _ _)
  .exact h1
 generalize Jj w a.2 (qd tk) a.1=b at *;unfold Y5;dsimp only;split
 .have lo:=jN w (jk w b.2 6).2 (m:=10) N5
  have hi:=jL w (jk w b.2 6).2 (m:=10) N5;exact (by decide +kernel:∀x∈Sa,∀c∈cd x,yF c=true) _ (zk lo (by exact hi))
 .exact h2
structure Qe(tk:List Str):Prop where
 nm:∀z∈tk,Qn z
 low:∀z∈tk,Qf z
 kw:∀z∈jO,z∈tk
def tk0:Qe jO:=⟨zG,by
 have:∀z∈jO,∀c∈cd z,yF c=true:=by decide +kernel
 exact this,fun _ h=>h⟩
def Qe.ne{tk:List Str}(h:Qe tk):tk≠[]:=by rintro rfl;exact absurd (h.kw "out" N5) NZ
def Qe.last{tk:List Str}(h:Qe tk):qd tk∈tk:=by unfold qd;rw[Aj,uf h.ne];exact ue h.ne
def Qe.name{tk:List Str}(h:Qe tk)(ht:tk.length<=25)(w:Int)(n:Dl):j5 (cd (qw w n tk).1)=true/\Qe (tk++[(qw w n tk).1]):=by
 obtain⟨h1,h2⟩:=jaW w n h.ne ht h.nm;have h3:=jjs w n (h.low _ h.last) (h.nm _ h.last);generalize (qw w n tk).1=z at *;have hx:∀{p:Str->Prop},(∀y∈tk,p y)->p z->∀y∈tk++[z],p y:=fun hp hz y hy=>(aL.mp hy).elim (hp y) fun k=>by rw[aZ.mp k];exact hz
 refine⟨?_,⟨hx h.nm h1,hx h.low h3,fun y hy=>cB _ (h.kw y hy)⟩⟩;have hl:=je2 h1;have aR:cd z≠[]:=by obtain⟨i,r,rfl,_⟩:=h1;exact List.cons_ne_nil _ _
 have hk:∀y∈zH,y∈jO:=by decide +kernel
 have hw:(zH.map cd).contains (cd z)=false:=by rw[<- q_,uj,fD];rintro⟨y,hy,e⟩;rw[JH e]at hy;exact h2 (h.kw z (hk z hy))
 unfold j5;rw[c_.mpr h3,PL (show (cd z).length<=8 by rw[jY];exact hl),hw];rw[show (cd z).isEmpty=false from by rw[O_];exact aR];rfl
theorem Y3(w:Int)(n:Dl):QB (Y4 w n).1:=by
 unfold Y4 QB;dsimp only;have lo:=jN w n (m:=4) N5;have hi:=jL w n (m:=4) N5;generalize jk w n 4=a at *;split
 .have:0 < (if a.1=0 then (1:Int) else 10):=by split <;> decide
  have l1:=jN w a.2 this;have l2:=jL w a.2 this;have:(if a.1=0 then (1:Int) else 10)<=10:=by split <;> decide
  omega
 .have l1:=jN w a.2 (m:=10 ^ 18+1) N5
  have l2:=jL w a.2 (m:=10 ^ 18+1) N5;dsimp only;generalize (jk w a.2 (10 ^ 18+1)).1=x at *;have:a.1=2\/a.1=3:=by omega
  rcases this with e | e
  .rw[e];omega
  .rw[e];omega
def P9(xs:List Str):Prop:=∀x∈xs,j5 (cd x)=true
variable {xs:List Str}
theorem jgt(h:P9 xs)(w:Int)(n:Dl):Qo (qY (em xs) (jk w n (((em xs).length:Nat):Int)).1):=by
 have hp:0 < (((em xs).length:Nat):Int):=by show (0:Int) < ((xs.length+1:Nat):Int);omega
 have:=zk (xs:=em xs) (jN w n hp) (jL w n hp);rcases aA.mp (show _∈(aa "") :: xs from this) with h0 | h0
 .exact .inl h0
 .exact .inr (h _ h0)
variable {rs:List Str}
theorem Kg(h:P9 rs)(h0:0 < rs.length)(w:Int)(n:Dl):j5 (cd (qY rs (jk w n ((rs.length:Nat):Int)).1))=true:=by
 have hp:0 < ((rs.length:Nat):Int):=by omega
 exact h _ (zk (jN w n hp) (jL w n hp))
def zE(h:P9 xs)(w:Int)(n:Dl):Qo (yD w n xs).1.1/\QB (yD w n xs).1.2:=⟨jgt h w n,Y3 w _⟩
def jas(h:P9 xs)(hr:P9 rs)(w:Int)(n:Dl):Q8 (qG w n xs rs).1:=by
 unfold qG;dsimp only;split
 .rename_i c
  exact⟨Kg hr c.2 w _,zE h w _⟩
 .exact jgt h w _
def jgf(h:P9 xs)(hr:P9 rs)(w:Int)(n:Dl):Qh (zS w n xs rs).1:=⟨jas h hr w _,jas h hr w _,Y3 w _⟩
def joq(h:P9 xs)(hr:P9 rs)(h0:0 < rs.length)(w:Int)(n:Dl):SO (Sl w n xs rs).1:=by
 unfold Sl;dsimp only;split
 .exact Kg hr h0 w _
 .have:=jas (rs:=[]) h (fun _ z=>nomatch z) w n
  generalize (qG w n xs []).1=t at *
  cases t with
  | is x=>exact this
  | at_ r x d=>exact this.2.1
theorem jgB(h:P9 xs)(hr:P9 rs)(w:Int)(n:Dl):Qh (YC w n xs rs).1:=by
 unfold YC;dsimp only;split
 .exact jgf h hr w _
 rename_i c;have h0:0 < rs.length:=by omega
 split
 .exact⟨(zE h w _).1,(zE h w _).2,(zE h w _).1,(zE h w _).2,Kg hr h0 w _⟩
 .refine⟨⟨(zE h w _).1,(zE h w _).2,(zE h w _).1,(zE h w _).2,Kg hr h0 w _⟩,?_,joq h hr h0 w _,Y3 w _⟩
  show Sy _=_\/Sy _=_;unfold Sy;split
  .exact .inl rfl
  .exact .inr rfl
def kN(h:j5 (cd x)=true):x.length<=8:=by unfold j5 at h;simp only[bg,decide_eq_true_eq]at h;rw[<- jY];exact h.1.2
def JE(h:Qo x):x.length<=8:=by
 rcases h with rfl | h
 .decide
 .exact kN h
variable {d:Int}
def yf(h:QB d):d.natAbs < 10 ^ 20:=l_ h N5
def JJ{t:Tm}(h:Q8 t):R7 t:=by
 cases t with
 | is x=>exact JE h
 | at_ r x d=>exact⟨kN h.1,JE h.2.1,yf h.2.2⟩
def Zj(h:Qh C):jm9 C:=by
 cases C with
 | least a b c=>exact⟨JJ h.1,JJ h.2.1,yf h.2.2⟩
 | rise x d y e r=>exact⟨JE h.1,yf h.2.1,JE h.2.2.1,yf h.2.2.2.1,kN h.2.2.2.2⟩
 | each x d y e r aT b c=>
  obtain⟨⟨h1,h2,h3,h4,h5⟩,hw,hb,hc⟩:=h;refine⟨⟨JE h1,yf h2,JE h3,yf h4,kN h5⟩,by rcases hw with rfl | rfl <;> decide,?_,yf hc⟩
  cases b with
  | is x=>exact JE hb
  | row r=>exact kN hb
def zc(h:jm9 C):(kb C).length<=400:=by
 have l1:(aa " >= ").length<=4:=by decide +kernel
 have l3:(aa " ").length<=1:=by decide +kernel
 have l4:(aa "rise ").length<=5:=by decide +kernel
 have l5:(aa "each ").length<=5:=by decide +kernel
 cases C with
 | least a b c=>exact aw (la (la (KY h.1) l1) (yc h.2.1 h.2.2)) N5
 | rise x d y e r=>exact aw (la l4 (KI h)) N5
 | each x d y e r aT b c=>exact aw (la (la (la (la (la l5 (KI h.1)) l3) h.2.1) l3) (jcd h.2.2.1 h.2.2.2)) N5
variable {n:Nat}
def y9(h:n<=100000):n < aF:=Af h N5
def ql(A B:List Str):Str:=cA (aa " ") (A++aa ";" :: B)
variable {A B:List Str}
def jdl(h:P9 (A++B)):Txt.split (ql A B) (aa " ")=A++aa ";" :: B:=by
 refine Ya (c:=32) rfl NZ fun r hr=>?_
 rcases aL.mp hr with hr | hr
 .exact qM (h r (cB _ hr)) rfl
 .rcases aA.mp hr with rfl | hr
  .decide +kernel
  .exact qM (h r (bV _ hr)) rfl
def jlf(h:j5 (cd x)=true):x≠aa ";":=by rintro rfl;exact absurd h N3
def qo:Sm->Str
 | .set x t c=>x++aa " := "++zC t c
 | .put r x d t c=>r++aa "["++qp x d++aa "] := "++zC t c
 | .any x=>aa "any "++x
 | .claim C=>aa "claim "++kb C
 | .call x f as rs=>ql (aa "call" :: x :: f :: as) rs
def kD:(n:Nat)->Str->List (Qi n)->List Str
 | 0=>fun _ _=>[]
 | n+1=>fun m l=>l.flatMap fun (s:Fo (Qi n))=>match s with
  | .leaf S=>[m++qo S]
  | .ite a b c x y=>(m++aa "if "++kb (.least a b c)) :: (kD n (m++aa "  ") x++(m++aa "else") :: (kD n (m++aa "  ") y++[m++aa "end"]))
  | .whl a b c ks x=>(m++aa "while "++kb (.least a b c)) :: (ks.map (fun k=>m++aa "  keep "++kb k)++(kD n (m++aa "  ") x++[m++aa "end"]))
def zj(p:Pc):List Str:=ql (aa "proc" :: p.f :: p.ps) p.rs :: (p.nd.map (fun k=>aa "  need "++kb k)++(p.gv.map (fun k=>aa "  give "++kb k)++(kD p.lv (aa "  ") p.bd++[aa "back"])))
def Rt:Sm->Prop
 | .set x t c=>j5 (cd x)=true/\Q8 t/\QB c
 | .put r x d t c=>j5 (cd r)=true/\Qo x/\QB d/\Q8 t/\QB c
 | .any x=>j5 (cd x)=true
 | .claim C=>Qh C
 | .call x f as rs=>P9 (x :: f :: as++rs)/\(x :: f :: as++rs).length<=20
def QR:(n:Nat)->Qi n->Prop
 | 0=>fun e=>nomatch (show Empty from e)
 | n+1=>fun (s:Fo (Qi n))=>match s with
  | .leaf S=>Rt S
  | .ite a b c x y=>Qh (.least a b c)/\(∀t∈x,QR n t)/\∀t∈y,QR n t
  | .whl a b c ks x=>Qh (.least a b c)/\(∀k∈ks,Qh k)/\ks.length<=20/\∀t∈x,QR n t
structure So(p:Pc):Prop where
 hd:P9 (p.f :: p.ps++p.rs)
 hl:(p.f :: p.ps++p.rs).length<=20
 nd:∀k∈p.nd,Qh k
 gv:∀k∈p.gv,Qh k
 nl:p.nd.length<=20
 gl:p.gv.length<=20
 bd:∀s∈p.bd,QR p.lv s
theorem Ks{y:Str}(hy:y.length=1):∀{R:List Str} {k:Nat},(∀r∈R,r.length<=k)->(cA y R).length<=R.length * (k+1)
 | [],_,_=>by simp[cA,pI,bC]
 | [r],k,h=>by
  show r.length<=1 * (k+1);have:=h r (aZ.mpr rfl);omega
 | r :: s :: t,k,h=>by
  show (r++y++cA y (s :: t)).length<=_;rw[bK,bK,hy];have h1:=h r (aJ ..);have h2:=Ks hy (R:=s :: t) (k:=k) fun x hx=>h x (aH _ hx)
  rw[show (r :: s :: t).length=(s :: t).length+1 from rfl,Ab];omega
variable {H:Hp}{v:V}
def jkF{t:Tm}(h:Na H (Sm.set x t c).toD v):∃a u,v=.ref a/\H a=some (.tup [.str "set",.str x,u,.int c])/\Na H t.toD u:=by
 obtain⟨a,xs,rfl,ha,h1⟩:=jJ h;obtain⟨v1,r1,rfl,e1,h2⟩:=ji h1;obtain⟨v2,r2,rfl,e2,h3⟩:=ji h2;obtain⟨v3,r3,rfl,e3,h4⟩:=ji h3;obtain⟨v4,r4,rfl,e4,h5⟩:=ji h4
 cases jX h5
 cases jT e1
 cases jT e2
 cases qP e4
 exact⟨a,v3,rfl,ha,e3⟩
variable {r:Str}
def jkO{t:Tm}(h:Na H (Sm.put r x d t c).toD v):∃a b u,v=.ref a/\H a=some (.tup [.str "put",.str r,.ref b,u,.int c])/\H b=some (.tup [.str x,.int d])/\Na H t.toD u:=by
 obtain⟨a,xs,rfl,ha,h1⟩:=jJ h;obtain⟨v1,r1,rfl,e1,h2⟩:=ji h1;obtain⟨v2,r2,rfl,e2,h3⟩:=ji h2;obtain⟨v3,r3,rfl,e3,h4⟩:=ji h3;obtain⟨v4,r4,rfl,e4,h5⟩:=ji h4;obtain⟨v5,r5,rfl,e5,h6⟩:=ji h5
 cases jX h6
 cases jT e1
 cases jT e2
 cases qP e5
 obtain⟨b,rfl,hb⟩:=Ys e3;exact⟨a,b,v4,rfl,ha,hb,e4⟩
def jhQ(h:Na H (Sm.claim C).toD v):∃a u,v=.ref a/\H a=some (.tup [.str "claim",u])/\Na H C.toD u:=by
 obtain⟨a,xs,rfl,ha,h1⟩:=jJ h;obtain⟨v1,r1,rfl,e1,h2⟩:=ji h1;obtain⟨v2,r2,rfl,e2,h3⟩:=ji h2
 cases jX h3
 cases jT e1
 exact⟨a,v2,rfl,ha,e2⟩
def jj4{f:Str}{as:List Str}(h:Na H (Sm.call x f as rs).toD v):∃a b c,v=.ref a/\H a=some (.tup [.str "call",.str x,.str f,.ref b,.ref c])/\H b=some (.tup (as.map V.str))/\H c=some (.tup (rs.map V.str)):=by
 obtain⟨a,xs,rfl,ha,h1⟩:=jJ h;obtain⟨v1,r1,rfl,e1,h2⟩:=ji h1;obtain⟨v2,r2,rfl,e2,h3⟩:=ji h2;obtain⟨v3,r3,rfl,e3,h4⟩:=ji h3;obtain⟨v4,r4,rfl,e4,h5⟩:=ji h4;obtain⟨v5,r5,rfl,e5,h6⟩:=ji h5
 cases jX h6
 cases jT e1
 cases jT e2
 cases jT e3
 obtain⟨b,xb,rfl,hb,cm⟩:=jJ e4;obtain⟨c,xc,rfl,hc,cF⟩:=jJ e5
 cases q5 cm
 cases q5 cF
 exact⟨a,b,c,rfl,ha,hb,hc⟩
def Zz{n:Nat}(m:Str)(s:Fo (Qi n)):List Str:=match s with
  | .leaf S=>[m++qo S]
  | .ite a b c x y=>(m++aa "if "++kb (.least a b c)) :: (kD n (m++aa "  ") x++(m++aa "else") :: (kD n (m++aa "  ") y++[m++aa "end"]))
  | .whl a b c ks x=>(m++aa "while "++kb (.least a b c)) :: (ks.map (fun k=>m++aa "  keep "++kb k)++(kD n (m++aa "  ") x++[m++aa "end"]))
def jbK(n:Nat)(m:Str)(l r:List (Qi (n+1))):kD (n+1) m (l++r)=kD (n+1) m l++kD (n+1) m r:=Aq (xs:=(l:List (Fo (Qi n)))) (ys:=r) (f:=fun s=>Zz m s)
def jgU(n:Nat)(m:Str)(s:Qi (n+1)):kD (n+1) m [s]=Zz (n:=n) m s:=bE _
def Z8(n:Nat):Sp:=fun vs H Q _=>∃(v:V) (m:Str) (l:List (Qi n)),vs=[v,.str m]/\Na H (.tup (l.map (Re n))) v/\(∀s∈l,QR n s)/\m.length+2 * n<=60/\(kD n m l).length<=100000/\∀a H',ML H H'->H' a=some (.lst ((kD n m l).map V.str))->Q (.ref a) H'
variable {S:Sm}
theorem jgX(h:Rt S):(qo S).length<=600:=by
 cases S with
 | set x t c=>
  obtain⟨h1,h2,h3⟩:=h;exact aw (la (la (kN h1) (show (aa " := ").length<=4 from N3)) (yc (JJ h2) (yf h3))) N5
 | put r x d t c=>
  obtain⟨h1,h2,h3,h4,h5⟩:=h;exact aw (la (la (la (la (kN h1) (show (aa "[").length<=1 from N3)) (qj (JE h2) (yf h3))) (show (aa "] := ").length<=5 from N3)) (yc (JJ h4) (yf h5))) N5
 | any x=>exact aw (la (show (aa "any ").length<=4 from N3) (kN h)) N5
 | claim C=>exact aw (la (show (aa "claim ").length<=6 from N3) (zc (Zj h))) N5
 | call x f as rs=>
  obtain⟨h1,h2⟩:=h;refine aw (Ks (k:=8) rfl fun r hr=>?_) ?_
  .simp only[aL,aA]at hr
   rcases hr with (h | h | h | h) | h | h
   .rw[h];decide +kernel
   .exact kN (h1 r (by simp[h]))
   .exact kN (h1 r (by simp[h]))
   .exact kN (h1 r (by simp[h]))
   .rw[h];decide +kernel
   .exact kN (h1 r (by simp[h]))
  .simp only[az,aM]at h2 |-
   omega
def ja8{α:Type}(s:Fo α):(∃S,s=.leaf S)\/(∃a b c x y,s=.ite a b c x y)\/∃a b c ks x,s=.whl a b c ks x:=by
 cases s with
 | leaf S=>exact .inl ⟨S,rfl⟩
 | ite a b c x y=>exact .inr (.inl ⟨a,b,c,x,y,rfl⟩)
 | whl a b c ks x=>exact .inr (.inr ⟨a,b,c,ks,x,rfl⟩)
variable {G:Hp}{a:ac}
def ML.touch{o:HO}(s:ML H G)(h:H a=none):ML H (upd G a o):=fun b u e=>by rw[jq (jm e h)];exact s _ _ e
def jnr:Sp:=fun _ _ _ _=>False
def kR(ps:List Pc):List Str:=ps.flatMap zj
theorem YQ{k:Nat}:∀{zs:List Str},(∀r∈zs,r.length<=k)->(zs.map (·.length)).sum<=zs.length * k
 | [],_=>cn _
 | z :: zs,h=>by
  have h1:=h z (aJ ..);have h2:=YQ (zs:=zs) fun r hr=>h r (aH _ hr)
  rw[bn,Ai,aM,Ab];omega
section
def jn2{st:ay}{ps:List Str}{k:Nat}(F:Fun K x x st f fd)(b:Nr K fd ps [])(m:mg x=some (.ref f)):Fn P w K mg base k x ps jnr:=Fn.mk' F b m ⟨fun _ _ _ _ h=>h.elim,fun _ _ _ _ _ _ _ _ _ _ _ _ _ h=>h.elim⟩
end
abbrev J4:ay:=NS 68
def ja5{l:ac}(s:ML H G)(h:G l=none):H l=none:=by
 cases e:H l with
 | none=>rfl
 | some o=>rw[s _ _ e]at h;cases h
variable {Q:VK}{ys:List Str}
def Jr{b:ac}(ha:H a=some (.lst (xs.map V.str)))(hb:H b=some (.lst (ys.map V.str)))(hz:xs.length+ys.length<=100000)(q:∀l H',ML H H'->H l=none->H' l=some (.lst ((xs++ys).map V.str))->Q (.ref l) H'):RL (.ref a) (.ref b) H Q:=⟨a,b,_,_,rfl,rfl,ha,hb,cP (y9 (by rw[av,av];exact hz)),fun l hl=>q l _ (jdz hl _) hl (by rw[jc,bj])⟩
def yO{l:ac}(h:H l=none)(z:Str):ML H (upd H l (.lst [V.str z]))/\upd H l (.lst [V.str z]) l=some (.lst ([z].map V.str)):=⟨jd h _,jc⟩
def jnY{c1 c2 c3 c4 c5 c6:TT}{t1 t2 t3 t4 t5 t6 u:TS}{D:OK}{σ:St}(h:let e6:=u;let a6:=t6;let a5:=t5;let a4:=t4;let a3:=t3;let a2:=t2;let a1:=t1;let e5:=yL c6 a6 e6;let e4:=yL c5 a5 e5;let e3:=yL c4 a4 e4;let e2:=yL c3 a3 e3;let e1:=yL c2 a2 e2;yL c1 a1 e1 D σ H):(yL c1 t1 (yL c2 t2 (yL c3 t3 (yL c4 t4 (yL c5 t5 (yL c6 t6 u)))))) D σ H:=h
def jkB:Nat->Sp
 | 0=>jnr
 | n+1=>Z8 n
section
theorem jbS(F:Fun K "_law_rows_of" "_law_rows_of" J4 f fd)(B:Ni mg)(lH:Fn P w K mg base (n+4) "_law_rows_of" MW (jkB n))(eD:Fn P w K mg base 4 "_law_claim_text" M3 JW)(eB:Fn P w K mg base 3 "_law_term_text" MV Z7):MT P w K mg base PU (n+5) f fd MW (Z8 n):=by
 have sc:tS X7 MW (jo J4):=fQ;refine F.okZ sc (fun aB A iw s H vs Q E hr h=>?_);obtain⟨v,m,l,rfl,hv,hF,hm,hl,q⟩:=h;refine⟨_,(ja (jh 2 sc.nd (jI qf)) (ja (yn il rfl (KA (bB 0)) (jt 3 sc.nd) (jg (jR (jx j6 (js j0 (bB 3) je) jb (jA _)) (ja (jh 2 sc.nd (jn j9 (jn j9 (bB 2) (jI (jp (jn jw (jn jw (bB 1) jb) (jS eD hr (jp (js j0 (bB 3) je))))))) (jS lH hr (jj (js j0 (bB 3) je) (jn jw (bB 1) jb))))) (jg (jh 2 sc.nd (jn j9 (jn j9 (jn j9 (bB 2) (jI (jp (jn jw (bB 1) jb)))) (jS lH hr (jj (js j0 (bB 3) je) (jn jw (bB 1) jb)))) (jI (jp (jn jw (bB 1) jb))))))) (jg (jR (jx j6 (js j0 (bB 3) je) jb (jA _)) (ja (jh 2 sc.nd (jn j9 (bB 2) (jI (jp (jn jw (jn jw (bB 1) jb) (jS eD hr (jp (js j0 (bB 3) je)))))))) (ja (jh 2 sc.nd (jn j9 (bB 2) (qT ["_law_keep"] [1] rfl (qr (sc:=jo J4) (N:=X7) rfl rfl N3) (KA (js j0 (bB 3) je)) (fun s H ex=>⟨(kU (i:=0) (show cv (["_law_keep","_law_ahead"]:List Str) from N3) rfl oQ),qt,(jn jw (jn jw (bB 1) jb) (jS eD hr (jp (bB 0))))⟩)))) (jg (jh 2 sc.nd (jn j9 (jn j9 (bB 2) (jS lH hr (jj (js j0 (bB 3) je) (jn jw (bB 1) jb)))) (jI (jp (jn jw (bB 1) jb)))))))) (jg (jR (jx j6 (js j0 (bB 3) je) jb (jA _)) (jg (jP (jV bL cg cf ke (bB 2) (jp (jn jw (jn jw (jn jw (bB 1) (js j0 (bB 3) je)) jb) (jS eB hr (jj (js j0 (bB 3) je) (js j0 (bB 3) je)))))))) (jg (jR (jx j6 (js j0 (bB 3) je) jb (jA _)) (ja (jh 4 sc.nd (jS eB hr (jj (jG (jr jb (jj (js j0 (bB 3) je) (js j0 (bB 3) je)))) je))) (jg (jP (jV bL cg cf ke (bB 2) (jp (jn jw (jn jw (jn jw (bB 1) (bB 4)) jb) (jS eB hr (jj (js j0 (bB 3) je) (js j0 (bB 3) je))))))))) (jg (jR (jx j6 (js j0 (bB 3) je) jb (jA _)) (jg (jP (jV bL cg cf ke (bB 2) (jp (jn jw (jn jw (bB 1) jb) (js j0 (bB 3) je)))))) (jg (jR (jx j6 (js j0 (bB 3) je) jb (jA _)) (jg (jP (jV bL cg cf ke (bB 2) (jp (jn jw (jn jw (bB 1) jb) (jS eD hr (jp (js j0 (bB 3) je)))))))) (ja (jh 5 sc.nd (jn j9 (jn j9 (jn j9 (jI (jr jb (jj (js j0 (bB 3) je) (js j0 (bB 3) je)))) (kJ zL N9 B.list_ Zm (jp (js j0 (bB 3) je)))) (jI (jp jb))) (kJ zL N9 B.list_ Zm (jp (js j0 (bB 3) je))))) (jg (jP (jV bL cg cf ke (bB 2) (jp (jn jw (bB 1) (jV bi pQ pO KM jb (jp (bB 5)))))))))))))))))))))) (jg (jy (bB 2))))),?_⟩
 try dsimp only[qF]
 refine Y7 ?_;intro _ _;obtain⟨a,us,rfl,ha,hu⟩:=jJ hv;refine kK ?_;refine⟨sm rfl,fun tl ck=>?_⟩;have s1:=jd ck (.lst []);have e1:=Pn (H:=H) tl (.lst []);generalize upd H tl _=H1 at *;refine gQ ?_;refine Pp rfl ⟨a,rfl,⟨_,Nu.of (s1 _ _ ha)⟩,?_⟩;rcases n with _ | n
 .cases jnq (l:=l)
  cases jX hu
  refine jam (xs:=[]) (fun _ σ G=>σ=[some (.ref a),some (.str m),some (.ref tl),none,none,none]/\G=H1) ⟨rfl,rfl⟩ (fun i σ G _ h=>by rw[h.2];exact Nu.of (s1 _ _ ha)) (fun i x σ G hx _=>by cases hx) fun σ G h=>?_
  obtain⟨rfl,rfl⟩:=h;exact Pp rfl (q _ _ s1 e1)
 have iI:us.length=l.length:=by rw[<- hu.length,av]
 let Pv:Nat->St->Hp->Prop:=fun i σ G=>∃rl u3 u4 u5,σ=[some (.ref a),some (.str m),some (.ref rl),u3,u4,u5]/\ML H G/\H rl=none/\G rl=some (.lst ((kD (n+1) m (l.take i)).map V.str))
 have e2:(aa "  ").length=2:=rfl;have fP:m.length<=100:=by omega
 have vH:(m++aa "  ").length+2 * n<=60:=by rw[bK,e2];omega
 refine jam (xs:=us) Pv ⟨tl,none,none,none,rfl,s1,ck,e1⟩ ?_ ?_ ?_
 .rintro i σ G _ ⟨rl,u3,u4,u5,rfl,sG,_⟩
  exact Nu.of (sG _ _ ha)
 .rintro i x σ G hx ⟨rl,u3,u4,u5,rfl,sG,iE,hG⟩
  have hi:i < l.length:=by rw[<- iI];exact (dY.mp hx).1
  obtain⟨x',cL,dI⟩:=hu.get (j:=i) (d:=Re (n+1) l[i]) (by rw[bP,aP hi];rfl);rw[hx]at cL
  cases cL
  have fS:=hF l[i] (cH hi);have mE:l.take (i+1)=l.take i++[l[i]]:=by rw[gI,aP hi];rfl
  have lg:kD (n+1) m (l.take (i+1))=kD (n+1) m (l.take i)++Zz m l[i]:=by rw[mE,jbK,jgU]
  have mQ:(kD (n+1) m (l.take i)).length+(Zz m l[i]).length<=100000:=by
   rw[<- az,<- lg];refine aw ?_ hl;have:kD (n+1) m l=kD (n+1) m (l.take (i+1))++kD (n+1) m (l.drop (i+1)):=by rw[<- jbK,E5]
   rw[this,az];omega
  have dI:=dI.mono sG;generalize l[i]=s at *;generalize hR:kD (n+1) m (l.take i)=R at *;have fin:∀{uF:ac} {v3 v4 v5:Option V} {G':Hp},ML H G'->H uF=none->G' uF=some (.lst ((R++Zz m s).map V.str))->Pv (i+1) [some (.ref a),some (.str m),some (.ref uF),v3,v4,v5] G':=fun s' h' e'=>⟨_,_,_,_,rfl,s',h',by rw[lg];exact e'⟩
  have app:∀{G':Hp} {z:Str} {v3 v4 v5:Option V},ML G G'->Zz m s=[z]->G' rl=some (.lst (R.map V.str))/\(R.map V.str).length < aF/\Pv (i+1) [some (.ref a),some (.str m),some (.ref rl),v3,v4,v5] (upd G' rl (.lst (R.map V.str++[.str z]))):=fun {G' z _ _ _} s' e'=>⟨s' _ _ hG,y9 (by rw[av];omega),fin (ML.touch (sG.trans s') iE) iE (by rw[jc,e',bj];rfl)⟩
  refine gQ ?_;refine jnY ?_;intro _ _ _ _ _ _ _ _ _ _ _ _;rcases ja8 (show Fo (Qi n) from s) with⟨S,rfl⟩ | ⟨a',b',c',x',y',rfl⟩ | ⟨a',b',c',ks,x',rfl⟩
  .have fS:Rt S:=fS
   cases S with
   | set x0 t c=>
    obtain⟨b,u,rfl,hb,gS⟩:=jkF (show Na G (Sm.set x0 t c).toD x from dI);obtain⟨h1,h2,h3⟩:=fS;have h8:=kN h1;have ht:=yc (JJ h2) (yf h3);have ez:Zz (n:=n) m (.leaf (.set x0 t c))=[m++x0++aa " := "++zC t c]:=by show [m++(x0++aa " := "++zC t c)]=_;rw[<- tK,<- tK]
    have l4:(aa " := ").length=4:=rfl;(iterate 2 refine Pp rfl (Pj 0 hb rfl ⟨rfl,Pp rfl (kT ?_)⟩));refine Pp rfl (Pj 0 hb rfl ⟨rfl,Pp rfl (k9 ?_)⟩);refine Pp rfl ⟨.inl ⟨rfl,_,ES.of hG⟩,Ps rfl rfl (Pj 1 hb rfl (Pq rfl rfl ⟨jU N4,Pq rfl rfl ⟨jU (by rw[bK];omega),Pp rfl (Pj 2 hb rfl (Pp rfl (Pj 3 hb rfl ⟨u,c,Pp rfl ⟨yf h3,.inl ⟨t,gS,JJ h2,rfl⟩,fun G1 s1=>(Pq rfl rfl ⟨jU (by rw[bK,bK];omega),?_⟩)⟩⟩)))⟩⟩))⟩;obtain⟨k1,k2,k3⟩:=app (v3:=some (.ref b)) (v4:=u4) (v5:=u5) s1 ez;exact⟨rl,Pq rfl rfl ⟨k1,k2,k3⟩⟩
   | put r x0 d t c=>
    obtain⟨b,b2,u,rfl,hb,gy,gS⟩:=jkO (show Na G (Sm.put r x0 d t c).toD x from dI);obtain⟨h1,h2,h3,h4,h5⟩:=fS;have hA:Q8 (.at_ r x0 d):=⟨h1,h2,h3⟩
    have hal:=KY (JJ hA);have ht:=yc (JJ h4) (yf h5);have ez:Zz (n:=n) m (.leaf (.put r x0 d t c))=[m++Jd (.at_ r x0 d)++aa " := "++zC t c]:=by show [m++(r++aa "["++qp x0 d++aa "] := "++zC t c)]=[m++(r++aa "["++qp x0 d++aa "]")++aa " := "++zC t c];rw[show aa "] := " = aa "]"++aa " := " from rfl];simp only[tK]
    have l4:(aa " := ").length=4:=rfl;(iterate 3 refine Pp rfl (Pj 0 hb rfl ⟨rfl,Pp rfl (kT ?_)⟩));refine Pp rfl (Pj 0 hb rfl ⟨rfl,Pp rfl (k9 ?_)⟩);refine Pp rfl (Pj 1 hb rfl (Pp rfl (Pj 2 hb rfl ⟨sm rfl,fun p hp=>?_⟩)));have s0:=jd hp (.tup [V.str (aa "at"),V.str r,V.ref b2]);refine⟨.ref p,0,Pp rfl ⟨N5,.inl ⟨.at_ r x0 d,jK jc (jf jD (jf jD (jf (jc7 (s0 _ _ gy)) jF))),JJ hA,rfl⟩,fun G1 s1=>?_⟩⟩;have oi:=s0.trans s1;rw[jlJ];refine gQ ?_;refine Pp rfl ⟨.inl ⟨rfl,_,ES.of (oi _ _ hG)⟩,Ps rfl rfl (Pq rfl rfl ⟨jU N4,Pq rfl rfl ⟨jU (by rw[bK];omega),Pp rfl (Pj 3 (oi _ _ hb) rfl (Pp rfl (Pj 4 (oi _ _ hb) rfl ⟨u,c,Pp rfl ⟨yf h5,.inl ⟨t,gS.mono oi,JJ h4,rfl⟩,fun G2 s2=>(Pq rfl rfl ⟨jU (by rw[bK,bK];omega),?_⟩)⟩⟩)))⟩⟩)⟩;obtain⟨k1,k2,k3⟩:=app (v3:=some (.ref b)) (v4:=some (.str (Jd (.at_ r x0 d)))) (v5:=u5) (oi.trans s2) ez;exact⟨rl,Pq rfl rfl ⟨k1,k2,k3⟩⟩
   | any x0=>
    obtain⟨b,rfl,hb⟩:=JT (show Na G (.tup [.str "any",.str x0]) x from dI);have h8:=kN (show j5 (cd x0)=true from fS);have ez:Zz (n:=n) m (.leaf (.any x0))=[m++aa "any "++x0]:=by show [m++(aa "any "++x0)]=_;rw[<- tK]
    have l4:(aa "any ").length=4:=rfl;(iterate 4 refine Pp rfl (Pj 0 hb rfl ⟨rfl,Pp rfl (kT ?_)⟩));refine Pp rfl (Pj 0 hb rfl ⟨rfl,Pp rfl (k9 ?_)⟩);refine Pp rfl ⟨.inl ⟨rfl,_,ES.of hG⟩,Pp rfl (Pq rfl rfl ⟨jU N4,Pp rfl (Pj 1 hb rfl (Pq rfl rfl ⟨jU (by rw[bK];omega),?_⟩))⟩)⟩;obtain⟨k1,k2,k3⟩:=app (v3:=some (.ref b)) (v4:=u4) (v5:=u5) (ML.refl G) ez;exact⟨rl,Pq rfl rfl ⟨k1,k2,k3⟩⟩
   | claim C=>
    obtain⟨b,u,rfl,hb,gS⟩:=jhQ (show Na G (Sm.claim C).toD x from dI);have gu:=Zj (show Qh C from fS);have pb:=zc gu;have ez:Zz (n:=n) m (.leaf (.claim C))=[m++aa "claim "++kb C]:=by show [m++(aa "claim "++kb C)]=_;rw[<- tK]
    have l4:(aa "claim ").length=6:=rfl;(iterate 5 refine Pp rfl (Pj 0 hb rfl ⟨rfl,Pp rfl (kT ?_)⟩));refine Pp rfl (Pj 0 hb rfl ⟨rfl,Pp rfl (k9 ?_)⟩);refine Pp rfl ⟨.inl ⟨rfl,_,ES.of hG⟩,Pp rfl (Pq rfl rfl ⟨jU N4,Pp rfl (Pj 1 hb rfl ⟨u,C,rfl,gS,gu,fun G1 s1=>(Pq rfl rfl ⟨jU (by rw[bK];omega),?_⟩)⟩)⟩)⟩;obtain⟨k1,k2,k3⟩:=app (v3:=some (.ref b)) (v4:=u4) (v5:=u5) s1 ez;exact⟨rl,Pq rfl rfl ⟨k1,k2,k3⟩⟩
   | call x0 g as rs=>
    obtain⟨b,b2,b3,rfl,hb,gy,IQ⟩:=jj4 (show Na G (Sm.call x0 g as rs).toD x from dI);obtain⟨h1,h2⟩:=fS;have df:=jgX (S:=.call x0 g as rs) ⟨h1,h2⟩;have ez:Zz (n:=n) m (.leaf (.call x0 g as rs))=[m++ql (aa "call" :: x0 :: g :: as) rs]:=rfl;simp only[az,aM]at h2;(iterate 6 refine Pp rfl (Pj 0 hb rfl ⟨rfl,Pp rfl (kT ?_)⟩));refine Pp rfl (Pj 1 hb rfl (Pp rfl (Pj 2 hb rfl ⟨sm rfl,fun l1 cT=>?_⟩)));have s1:=jd cT (.lst ([aa "call",x0,g].map V.str));have px:=Pn (H:=G) l1 (.lst ([aa "call",x0,g].map V.str));refine Pp rfl (Pj 3 (s1 _ _ hb) rfl ⟨b2,Pp rfl ⟨.inr (Nu.of (s1 _ _ gy)),fun l2 cD=>?_⟩⟩);have s2:=jd cD (.lst (as.map V.str));refine Jr (s2 _ _ px) jc (by show 3+_<=_;omega) fun l3 G3 s3 _ e3=>⟨sm rfl,fun l4 eN=>?_⟩
    obtain⟨s4,e4⟩:=yO eN (aa ";");have iz:=s1.trans (s2.trans (s3.trans s4));refine Jr (s4 _ _ e3) e4 (by rw[az];show 3+_+1<=_;omega) fun l5 G5 s5 _ e5=>?_
    have de:=iz.trans s5;refine Pp rfl (Pj 4 (de _ _ hb) rfl ⟨b3,Pp rfl ⟨.inr (Nu.of (de _ _ IQ)),fun l6 mK=>?_⟩⟩);have s6:=jd mK (.lst (rs.map V.str));refine Jr (s6 _ _ e5) jc (by rw[az,az];show 3+_+1+_<=_;omega) fun l7 G7 s7 _ e7=>?_
    have i8:=de.trans (s6.trans s7);refine gQ ?_;have uX:∀r∈[aa "call",x0,g]++as++[aa ";"]++rs,r.length<=8:=fun r hr=>by
     simp only[aL,aA,fC,or_false]at hr;rcases hr with (((h | h | h) | h) | h) | h
     .rw[h];decide +kernel
     .exact kN (h1 r (by simp[h]))
     .exact kN (h1 r (by simp[h]))
     .exact kN (h1 r (by simp[h]))
     .rw[h];decide +kernel
     .exact kN (h1 r (by simp[h]))
    have hj:gb (aa " ") ([aa "call",x0,g]++as++[aa ";"]++rs)=ql (aa "call" :: x0 :: g :: as) rs:=by rw[show gb (aa " ") ([aa "call",x0,g]++as++[aa ";"]++rs)=(aa " ").join ([aa "call",x0,g]++as++[aa ";"]++rs) from pG _ _];unfold ql;rw[bq ([aa "call",x0,g]++as)];rfl
    refine Pp rfl ⟨.inl ⟨rfl,_,ES.of (i8 _ _ hG)⟩,Pp rfl ⟨rfl,Pp rfl ⟨_,l7,Pp rfl ⟨rfl,ES.of e7,?_,?_⟩⟩⟩⟩
    .have h9:=YQ uX
     have bp:(aa " ").length=1:=rfl;rw[bp];simp only[az,aM,cZ]at h9 |-;omega
    rw[hj];refine Pq rfl rfl ⟨jU (by have:(ql (aa "call" :: x0 :: g :: as) rs).length<=600:=df;omega),?_⟩;obtain⟨k1,k2,k3⟩:=app (v3:=some (.ref b)) (v4:=u4) (v5:=some (.ref l7)) i8 ez;exact⟨rl,Pq rfl rfl ⟨k1,k2,k3⟩⟩
  .obtain⟨t,u,p,q',ut,Fy,rfl,ht,gS,hp,fL,hq,uY⟩:=jlq (show Na G (Nd.ite a' b' c' (x'.map (Re n)) (y'.map (Re n))).toD x from dI)
   obtain⟨f1,f2,f3⟩:=(show Qh (.least a' b' c')/\(∀t∈x',QR n t)/\∀t∈y',QR n t from fS)
   have gu:=Zj f1;have pb:=zc gu;have cW:R.length+((kD n (m++aa "  ") x').length+(kD n (m++aa "  ") y').length+3)<=100000:=by
    have:(Zz m (.ite a' b' c' x' y':Fo (Qi n))).length=(kD n (m++aa "  ") x').length+(kD n (m++aa "  ") y').length+3:=by show ((m++aa "if "++kb (.least a' b' c')) :: (kD n (m++aa "  ") x'++(m++aa "else") :: (kD n (m++aa "  ") y'++[m++aa "end"]))).length=_;simp only[az,aM,cZ];omega
    rw[<- this];exact mQ
   refine Pp rfl (Pj 0 ht rfl ⟨rfl,Pp rfl (k9 ?_)⟩);refine Ps rfl rfl (Pq rfl rfl ⟨jU (aw (bD fP (show (aa "if ").length<=3 from N3)) N5),Pp rfl (Pj 1 ht rfl ⟨u,.least a' b' c',rfl,gS,gu,fun G1 s1=>(Pq rfl rfl ⟨jU (by rw[bK];have:(aa "if ").length=3:=rfl;omega),sm rfl,fun l1 cT=>?_⟩)⟩)⟩);obtain⟨s2,gz⟩:=yO cT (m++aa "if "++kb (.least a' b' c'));generalize upd G1 l1 _=G2 at *;have bR:=s1.trans s2;refine Jr (bR _ _ hG) gz (by show _+1<=_;omega) fun l2 G3 s3 _ e3=>?_
   have br:=bR.trans s3;refine Pp rfl (Pj 2 (br _ _ ht) rfl (Pp rfl (Pq rfl rfl ⟨jU (by rw[e2];omega),.ref p,m++aa "  ",x',rfl,jK (br _ _ hp) (fL.mono br),f2,vH,N4,fun a1 G4 s4 e4=>?_⟩)));refine Jr (s4 _ _ e3) e4 (by rw[az];show _+1+_<=_;omega) fun l3 G5 s5 _ e5=>?_
   have de:=br.trans (s4.trans s5);refine gQ ?_;refine Ps rfl rfl (Pq rfl rfl ⟨jU (aw (bD fP (show (aa "else").length<=4 from N3)) N5),sm rfl,fun l4 eN=>?_⟩);obtain⟨s6,e6⟩:=yO eN (m++aa "else");generalize upd G5 l4 _=G6 at *;refine Jr (s6 _ _ e5) e6 (by rw[az,az];show _+1+_+1<=_;omega) fun l5 G7 s7 _ e7=>?_
   have i8:=de.trans (s6.trans s7);refine Pp rfl (Pj 3 (i8 _ _ ht) rfl (Pp rfl (Pq rfl rfl ⟨jU (by rw[e2];omega),.ref q',m++aa "  ",y',rfl,jK (i8 _ _ hq) (uY.mono i8),f3,vH,N4,fun a2 G8 s8 e8=>?_⟩)));refine Jr (s8 _ _ e7) e8 (by rw[az,az,az];show _+1+_+1+_<=_;omega) fun l6 G9 s9 _ e9=>?_
   refine Pp rfl (Pq rfl rfl ⟨jU (aw (bD fP (show (aa "end").length<=3 from N3)) N5),sm rfl,fun l7 mJ=>?_⟩);obtain⟨sa,ea⟩:=yO mJ (m++aa "end");generalize upd G9 l7 _=Ga at *;have oh:=i8.trans (s8.trans (s9.trans sa));refine Jr (sa _ _ e9) ea (by rw[az,az,az,az];show _+1+_+1+_+1<=_;omega) fun l8 Gb sb gV eb=>?_
   refine gQ ?_;refine fin (sG.trans (oh.trans sb)) (ja5 (sG.trans oh) gV) ?_;rw[eb];show _=some (HO.lst ((R++((m++aa "if "++kb (.least a' b' c')) :: (kD n (m++aa "  ") x'++(m++aa "else") :: (kD n (m++aa "  ") y'++[m++aa "end"])))).map V.str));simp only[bq,cJ,tZ]
  .obtain⟨t,u,p,q',ut,Fy,rfl,ht,gS,hp,fL,hq,uY⟩:=jkq (show Na G (Nd.whl a' b' c' ks (x'.map (Re n))).toD x from dI)
   obtain⟨f1,f2,f4,f3⟩:=(show Qh (.least a' b' c')/\(∀k∈ks,Qh k)/\ks.length<=20/\∀t∈x',QR n t from fS)
   have gu:=Zj f1;have pb:=zc gu;have cW:R.length+(ks.length+(kD n (m++aa "  ") x').length+2)<=100000:=by
    have:(Zz m (.whl a' b' c' ks x':Fo (Qi n))).length=ks.length+(kD n (m++aa "  ") x').length+2:=by show ((m++aa "while "++kb (.least a' b' c')) :: (ks.map (fun k=>m++aa "  keep "++kb k)++(kD n (m++aa "  ") x'++[m++aa "end"]))).length=_;simp only[az,aM,cZ,av];omega
    rw[<- this];exact mQ
   refine Pp rfl (Pj 0 ht rfl ⟨rfl,Pp rfl (kT ?_)⟩);refine Pp rfl (Pj 0 ht rfl ⟨rfl,Pp rfl (k9 ?_)⟩);refine Ps rfl rfl (Pq rfl rfl ⟨jU (aw (bD fP (show (aa "while ").length<=6 from N3)) N5),Pp rfl (Pj 1 ht rfl ⟨u,.least a' b' c',rfl,gS,gu,fun G1 s1=>(Pq rfl rfl ⟨jU (by rw[bK];have:(aa "while ").length=6:=rfl;omega),sm rfl,fun l1 cT=>?_⟩)⟩)⟩);obtain⟨s2,gz⟩:=yO cT (m++aa "while "++kb (.least a' b' c'));generalize upd G1 l1 _=G2 at *;have bR:=s1.trans s2;refine Jr (bR _ _ hG) gz (by show _+1<=_;omega) fun l2 G3 s3 _ e3=>?_
   have br:=bR.trans s3;refine gQ ?_;have oU:ut.length=ks.length:=by rw[<- fL.length,av]
   refine Ps rfl rfl (Pj 2 (br _ _ ht) rfl ⟨p,rfl,⟨_,Nu.of (br _ _ hp)⟩,fun cp o_=>?_⟩);refine jei (xs:=ut) (fun i σ' G=>∃u,σ'=[u,some (.str m)]/\ML G3 G/\G cp=some (.lst (((ks.take i).map (fun k=>m++aa "  keep "++kb k)).map V.str))) ⟨none,rfl,jd o_ _,jc⟩ ?_ ?_ ?_
   .rintro i σ' G _ ⟨u,rfl,sG,_⟩
    exact Nu.of (sG _ _ (br _ _ hp))
   .rintro i x σ' X cL ⟨u,rfl,sX,hX⟩
    have hi:i < ks.length:=by rw[<- oU];exact (dY.mp cL).1
    obtain⟨x2,dJ,Ho⟩:=fL.get (j:=i) (d:=ks[i].toD) (by rw[bP,aP hi];rfl);rw[cL]at dJ
    cases dJ
    have oX:=Zj (f2 ks[i] (cH hi));have vK:=zc oX;unfold qz K9;refine k9 ?_;refine Pp rfl (Pq rfl rfl ⟨jU (aw (bD fP (show (aa "  keep ").length<=7 from N3)) N5),Pp rfl ⟨x,ks[i],rfl,Ho.mono (br.trans sX),oX,fun X1 AO=>(Pq rfl rfl ⟨jU (by rw[bK];have:(aa "  keep ").length=7:=rfl;omega),_,AO _ _ hX,kA (by rw[av,av,cq];omega),Pp rfl ⟨?_,?_⟩⟩)⟩⟩)
    .intro c o e
     rw[jq (jm e o_)];exact AO _ _ (sX _ _ e)
    .rw[jc,gI,aP hi,bj,bj]
     rfl
   rintro σ' X ⟨u9,rfl,sX,hX⟩;rw[oU,iq]at hX;refine Jr (sX _ _ e3) hX (by rw[az,av];show _+1+_<=_;omega) fun l3 G5 s5 _ e5=>?_
   have de:=br.trans (sX.trans s5);refine gQ ?_;refine Ps rfl rfl (Pj 3 (de _ _ ht) rfl (Pp rfl (Pq rfl rfl ⟨jU (by rw[e2];omega),.ref q',m++aa "  ",x',rfl,jK (de _ _ hq) (uY.mono de),f3,vH,N4,fun a2 G8 s8 e8=>?_⟩)));refine Jr (s8 _ _ e5) e8 (by rw[az,az,av];show _+1+_+_<=_;omega) fun l6 G9 s9 _ e9=>?_
   refine Pp rfl (Pq rfl rfl ⟨jU (aw (bD fP (show (aa "end").length<=3 from N3)) N5),sm rfl,fun l7 mJ=>?_⟩);obtain⟨sa,ea⟩:=yO mJ (m++aa "end");generalize upd G9 l7 _=Ga at *;have oh:=de.trans (s8.trans (s9.trans sa));refine Jr (sa _ _ e9) ea (by rw[az,az,az,av];show _+1+_+_+1<=_;omega) fun l8 Gb sb gV eb=>?_
   refine gQ ?_;refine fin (sG.trans (oh.trans sb)) (ja5 (sG.trans oh) gV) ?_;rw[eb];show _=some (HO.lst ((R++((m++aa "while "++kb (.least a' b' c')) :: (ks.map (fun k=>m++aa "  keep "++kb k)++(kD n (m++aa "  ") x'++[m++aa "end"])))).map V.str));simp only[bq,cJ,tZ]
 .rintro σ G ⟨rl,u3,u4,u5,rfl,sG,iE,hG⟩
  rw[iI,iq]at hG;exact Pp rfl (q _ _ sG hG)
end
abbrev yz:ay:=NS 69
def jfM:Sp:=fun vs H Q _=>∃(v:V) (ps:List Pc),vs=[v]/\Na H (.tup (ps.map Pc.toD)) v/\(∀p∈ps,So p/\p.lv=4)/\(kR ps).length<=10000/\∀a H',ML H H'->H' a=some (.lst ((kR ps).map V.str))->Q (.ref a) H'
theorem jej{cp:ac}{ks:List Cl}{xs:List V}{pre:Str}(oM:pre.length<=100)(ha:H a=some (.tup xs))(hx:MN H (ks.map Cl.toD) xs)(hf:∀k∈ks,Qh k)(hk:ks.length<=20)(o_:H cp=none)(q:∀G,ML H G->G cp=some (.lst ((ks.map (fun k=>pre++kb k)).map V.str))->Q (.ref cp) G):
  YF (RY K a) cp (qz 0) K9 (R4 (fun x y H Q=>∃i j,x=.str i/\y=.str j/\i.length+j.length<=aF/\Q (.str (i++j)) H) (tC (.str pre)) (zM JW [] E0 (yM (RJ 0) RI))) Q [none] (upd H cp (.lst [])):=by
 have oU:xs.length=ks.length:=by rw[<- hx.length,av]
 refine jei (xs:=xs) (fun i σ' G=>∃u,σ'=[u]/\ML H G/\G cp=some (.lst (((ks.take i).map (fun k=>pre++kb k)).map V.str))) ⟨none,rfl,jd o_ _,jc⟩ ?_ ?_ ?_
 .rintro i σ' G _ ⟨u,rfl,sG,_⟩
  exact Nu.of (sG _ _ ha)
 .rintro i x σ' G cL ⟨u,rfl,sG,hG⟩
  have hi:i < ks.length:=by rw[<- oU];exact (dY.mp cL).1
  obtain⟨x2,dJ,dI⟩:=hx.get (j:=i) (d:=ks[i].toD) (by rw[bP,aP hi];rfl)
  rw[cL]at dJ
  cases dJ
  have oX:=Zj (hf ks[i] (cH hi))
  have vK:=zc oX
  unfold qz K9
  refine k9 ?_
  refine Pp rfl ⟨x,ks[i],rfl,dI.mono sG,oX,fun G1 AR=>(Pq rfl rfl ⟨jU N4,_,AR _ _ hG,kA (by rw[av,av,cq];omega),Pp rfl ⟨?_,?_⟩⟩)⟩
  .intro c o e
   rw[jq (jm e o_)]
   exact AR _ _ (sG _ _ e)
  .rw[jc,gI,aP hi,bj,bj]
   rfl
 .rintro σ' G ⟨u9,rfl,sG,hG⟩
  rw[oU,iq]at hG
  exact q G sG hG
section
theorem jdP{f:ac}{fd:aE}(U:Fun K "_law_rows_of" "_law_rows_of" J4 f fd)(b:Nr K fd MW [])(m:mg "_law_rows_of" = some (.ref f))(B:Ni mg)(eD:Fn P w K mg base 4 "_law_claim_text" M3 JW)(eB:Fn P w K mg base 3 "_law_term_text" MV Z7):∀n:Nat,Fn P w K mg base (n+5) "_law_rows_of" MW (Z8 n)
 | 0=>Fn.mk' U b m (jbS (n:=0) U B (jn2 U b m) eD eB)
 | n+1=>Fn.mk' U b m (jbS (n:=n+1) U B (jdP U b m B eD eB n) eD eB)
theorem jiU(F:Fun K "_law_text_rows" "_law_text_rows" yz f fd)(B:Ni mg)(lH:Fn P w K mg base 9 "_law_rows_of" MW (Z8 4))(eD:Fn P w K mg base 4 "_law_claim_text" M3 JW):MT P w K mg base PU 10 f fd DV jfM:=by
 have sc:tS X0 DV (jo yz):=fQ;refine F.okZ sc (fun aB A iw s H vs Q E hr h=>?_);obtain⟨v,ps,rfl,hv,hF,hl,q⟩:=h;refine⟨_,(ja (jh 1 sc.nd (jI qf)) (ja (yn il rfl (KA (bB 0)) (jt 2 sc.nd) (ja (jP (jV bL cg cf ke (bB 1) (jp (jV bi pQ pO KM jb (jp (jn j9 (jn j9 (jn j9 (jI (jj jb (js j0 (bB 2) je))) (kJ zL N9 B.list_ Zm (jp (js j0 (bB 2) je)))) (jI (jp jb))) (kJ zL N9 B.list_ Zm (jp (js j0 (bB 2) je))))))))) (ja (jh 1 sc.nd (jn j9 (bB 1) (qT M3 [] rfl (qr (sc:=jo yz) (N:=X0) rfl rfl N3) (KA (js j0 (bB 2) je)) (fun s H ex=>⟨(kU (i:=0) (show cv (M3:List Str) from N3) rfl oQ),qt,(jn jw jb (jB eD hr (jp (bB 0))))⟩)))) (ja (jh 1 sc.nd (jn j9 (bB 1) (qT M3 [] rfl (qr (sc:=jo yz) (N:=X0) rfl rfl N3) (KA (js j0 (bB 2) je)) (fun s H ex=>⟨(kU (i:=0) (show cv (M3:List Str) from N3) rfl oQ),qt,(jn jw jb (jB eD hr (jp (bB 0))))⟩)))) (jg (jh 1 sc.nd (jn j9 (jn j9 (bB 1) (jB lH hr (jj (js j0 (bB 2) je) jb))) (jI (jp jb))))))))) (jg (jy (bB 1))))),?_⟩
 try dsimp only[qF]
 refine Y7 ?_;intro _ _;obtain⟨a,us,rfl,ha,hu⟩:=jJ hv;refine kK ?_;refine⟨sm rfl,fun tl ck=>?_⟩;have s1:=jd ck (.lst []);have e1:=Pn (H:=H) tl (.lst []);generalize upd H tl _=H1 at *;refine gQ ?_;refine Pp rfl ⟨a,rfl,⟨_,Nu.of (s1 _ _ ha)⟩,?_⟩;have iI:us.length=ps.length:=by rw[<- hu.length,av]
 let Pv:Nat->St->Hp->Prop:=fun i σ G=>∃rl u2,σ=[some (.ref a),some (.ref rl),u2]/\ML H G/\H rl=none/\G rl=some (.lst ((kR (ps.take i)).map V.str))
 refine jam (xs:=us) Pv ⟨tl,none,rfl,s1,ck,e1⟩ ?_ ?_ ?_
 .rintro i σ G _ ⟨rl,u2,rfl,sG,_⟩
  exact Nu.of (sG _ _ ha)
 .rintro i x σ G hx ⟨rl,u2,rfl,sG,iE,hG⟩
  have hi:i < ps.length:=by rw[<- iI];exact (dY.mp hx).1
  obtain⟨x',cL,dI⟩:=hu.get (j:=i) (d:=ps[i].toD) (by rw[bP,aP hi];rfl);rw[hx]at cL
  cases cL
  have lg:kR (ps.take (i+1))=kR (ps.take i)++zj ps[i]:=by unfold kR;rw[gI,aP hi,Aq];simp
  have mQ:(kR (ps.take i)).length+(zj ps[i]).length<=10000:=by
   rw[<- az,<- lg];refine aw ?_ hl;have:kR ps=kR (ps.take (i+1))++kR (ps.drop (i+1)):=by unfold kR;rw[<- Aq,E5]
   rw[this,az];omega
  obtain⟨hf,Ht⟩:=hF ps[i] (cH hi);have dI:=dI.mono sG;generalize ps[i]=p at *;obtain⟨f,eY,fK,A1,A6,F1,uG⟩:=p
  cases (show F1=4 from Ht)
  generalize kR (ps.take i)=R at *;obtain⟨b,ap,ar,an,ag,ab,vn,vg,vb,rfl,hb,v9,v8,v_,hn,wa,hg,lC,pc⟩:=jms dI;have hd:P9 (f :: eY++fK):=hf.hd;have ID:(f :: eY++fK).length<=20:=hf.hl;have mQ:R.length+(ql (aa "proc" :: f :: eY) fK :: (A1.map (fun k=>aa "  need "++kb k)++(A6.map (fun k=>aa "  give "++kb k)++(kD 4 (aa "  ") uG++[aa "back"])))).length<=10000:=mQ;have lg:kR (ps.take (i+1))=R++(ql (aa "proc" :: f :: eY) fK :: (A1.map (fun k=>aa "  need "++kb k)++(A6.map (fun k=>aa "  give "++kb k)++(kD 4 (aa "  ") uG++[aa "back"])))):=lg;simp only[az,aM,cZ,av]at mQ ID;dsimp only at hb v9 v8 v_ hn wa hg lC pc;refine gQ ?_;refine Pp rfl ⟨.inl ⟨rfl,_,ES.of hG⟩,rfl,Pp rfl (Pj 1 hb rfl ⟨sm rfl,fun l1 cT=>?_⟩)⟩;have s2:=jd cT (.lst ([aa "proc",f].map V.str));have e2:=Pn (H:=G) l1 (.lst ([aa "proc",f].map V.str));refine Pp rfl (Pj 2 (s2 _ _ hb) rfl ⟨ap,Pp rfl ⟨.inr (Nu.of (s2 _ _ v9)),fun l2 cD=>?_⟩⟩);have s3:=jd cD (.lst (eY.map V.str));refine Jr (s3 _ _ e2) jc (by show 2+_<=_;omega) fun l3 G3 s4 _ e3=>⟨sm rfl,fun l4 eN=>?_⟩
  obtain⟨s5,e4⟩:=yO eN (aa ";");have AS:=s2.trans (s3.trans (s4.trans s5));refine Jr (s5 _ _ e3) e4 (by rw[az];show 2+_+1<=_;omega) fun l5 G5 s6 _ e5=>?_
  have re:=AS.trans s6;refine Pp rfl (Pj 3 (re _ _ hb) rfl ⟨ar,Pp rfl ⟨.inr (Nu.of (re _ _ v8)),fun l6 mK=>?_⟩⟩);have s7:=jd mK (.lst (fK.map V.str));refine Jr (s7 _ _ e5) jc (by rw[az,az];show 2+_+1+_<=_;omega) fun l7 G7 s8 _ e7=>?_
  have fJ:=re.trans (s7.trans s8);have uX:∀r∈[aa "proc",f]++eY++[aa ";"]++fK,r.length<=8:=fun r hr=>by
   simp only[aL,aA,fC,or_false]at hr;rcases hr with (((h | h) | h) | h) | h
   .rw[h];decide +kernel
   .exact kN (hd r (by simp[h]))
   .exact kN (hd r (by simp[h]))
   .rw[h];decide +kernel
   .exact kN (hd r (by simp[h]))
  have hj:gb (aa " ") ([aa "proc",f]++eY++[aa ";"]++fK)=ql (aa "proc" :: f :: eY) fK:=by rw[show gb (aa " ") ([aa "proc",f]++eY++[aa ";"]++fK)=(aa " ").join ([aa "proc",f]++eY++[aa ";"]++fK) from pG _ _];unfold ql;rw[bq ([aa "proc",f]++eY)];rfl
  refine⟨_,l7,Pp rfl ⟨rfl,ES.of e7,?_,?_⟩⟩
  .have h9:=YQ uX
   have bp:(aa " ").length=1:=rfl;rw[bp];simp only[az,aM,cZ]at h9 |-;omega
  rw[hj];generalize ql (aa "proc" :: f :: eY) fK=hw at *;refine⟨rl,Pq rfl rfl ⟨fJ _ _ hG,y9 (by rw[av];omega),?_⟩⟩;have s9:=ML.touch (o:=.lst ((R++[hw]).map V.str)) (sG.trans fJ) iE;have e9:=Pn (H:=G7) rl (.lst ((R++[hw]).map V.str));rw[show R.map V.str++[V.str hw]=(R++[hw]).map V.str by rw[bj];rfl];have tk:TK G7 (upd G7 rl (.lst ((R++[hw]).map V.str))):=(uo.upd rl G7 _).tk (fJ _ _ hG);have vZ:=tk _ _ (fJ _ _ hb);have Ce:=tk _ _ (fJ _ _ v_);have HW:=tk.heldL (hn.mono fJ);have Cf:=tk _ _ (fJ _ _ wa);have Ir:=tk.heldL (hg.mono fJ);have IS:=tk _ _ (fJ _ _ lC);have IP:=tk.heldL (pc.mono fJ);generalize upd G7 rl _=G9 at *;clear hb v_ hn wa hg lC pc v9 v8 fJ re AS e7 e5 e3;refine Ps rfl rfl (Pj 4 vZ rfl ⟨an,rfl,⟨_,Nu.of Ce⟩,fun c1 Cc=>jej N3 Ce HW hf.nd hf.nl Cc fun Ga sa ea=>?_⟩);refine Jr (sa _ _ e9) ea (by rw[az,av];show _+1+_<=_;omega) fun l8 Gb sb _ eb=>?_
  have og:=sa.trans sb;refine gQ ?_;refine Ps rfl rfl (Pj 5 (og _ _ vZ) rfl ⟨ag,rfl,⟨_,Nu.of (og _ _ Cf)⟩,fun c2 cW=>jej N3 (og _ _ Cf) (Ir.mono og) hf.gv hf.gl cW fun Gc AM ec=>?_⟩);refine Jr (AM _ _ eb) ec (by rw[az,az,av,av];show _+1+_+_<=_;omega) fun l9 Gd sd _ ed=>?_
  have rc:=og.trans (AM.trans sd);refine gQ ?_;refine Ps rfl rfl (Pj 6 (rc _ _ vZ) rfl ⟨.ref ab,aa "  ",uG,rfl,jK (rc _ _ IS) (IP.mono rc),hf.bd,(by show 2+2 * 4<=60;decide),N4,fun a2 Ge se ee=>?_⟩);refine Jr (se _ _ ed) ee (by rw[az,az,az,av,av];show _+1+_+_+_<=_;omega) fun la Gf sf _ ef=>⟨sm rfl,fun lb cx=>?_⟩
  obtain⟨sg,eg⟩:=yO cx (aa "back");have AN:=rc.trans (se.trans (sf.trans sg));refine Jr (sg _ _ ef) eg (by rw[az,az,az,az,av,av];show _+1+_+_+_+1<=_;omega) fun lc Gh sh Ic eh=>?_
  refine gQ ?_;refine⟨lc,Pp rfl ⟨s9.trans (AN.trans sh),ja5 (s9.trans AN) Ic,?_⟩⟩;rw[eh,lg];simp only[bq,cJ,tZ]
 .rintro σ G ⟨rl,u2,rfl,sG,iE,hG⟩
  rw[iI,iq]at hG;exact Pp rfl (q _ _ sG hG)
end
inductive Tk | proc | need | give | keep | back | stm | ite | whl | els | fin | bad
 deriving DecidableEq
def jz:Tk->List Fr->Option (List Fr)
 | .proc,[]=>some [⟨"proc",false,false⟩]
 | .need,F :: fs=>if (decide (F.kind = "proc") && (!F.gv && !F.st))=true then some (F :: fs) else none
 | .give,F :: fs=>if (decide (F.kind = "proc") && !F.st)=true then some ({ F with gv:=true } :: fs) else none
 | .keep,F :: fs=>if (decide (F.kind = "while") && !F.st)=true then some (F :: fs) else none
 | .back,F :: fs=>if decide (F.kind = "proc")=true then some fs else none
 | .stm,F :: fs=>some (Qk F :: fs)
 | .ite,F :: fs=>some (⟨"if",false,false⟩ :: F :: fs)
 | .whl,F :: fs=>some (⟨"while",false,false⟩ :: F :: fs)
 | .els,F :: fs=>if decide (F.kind = "if")=true then some ({ F with kind:="else",st:=false } :: fs) else none
 | .fin,F :: fs=>if decide (F.kind = "else"\/F.kind = "while")=true then match fs with
  | []=>none
  | G :: fs=>some (Qk G :: fs) else none
 | _,_=>none
def PX:Tk->Str
 | .proc=>"proc"
 | .need=>"need"
 | .give=>"give"
 | .keep=>"keep"
 | .back=>"back"
 | .ite=>"if"
 | .whl=>"while"
 | .els=>"else"
 | .fin=>"end"
 | _=>""
def QP:List Str:=["proc","need","give","keep","back","if","while","else","end"]
def QF(r:Str):List Nat:=(OC [32] (km (cd r))).1
structure QX(r:Str)(t:Tk):Prop where
 ne:km (cd r)≠[]
 g:∀fs,JO fs (mS (km (cd r)))=jz t fs
 w:t≠.bad->t≠.stm->QF r=cd (PX t)
 s:t=.stm->mS (QF r) ∉ QP
 el:t=.els->km (cd r)=cd (aa "else")
 bk:t=.back->r = "back"
 pr:t≠.bad->((cd (aa "proc")).isPrefixOf (cd r)=decide (t=.proc))
def QY:List Str->List Tk->Prop
 | [],[]=>True
 | r :: R,t :: T=>QX r t/\QY R T
 | _,_=>False
def kO:List Tk->List Fr->Option (List Fr)
 | [],fs=>some fs
 | t :: T,fs=>(jz t fs).bind (kO T)
theorem yg:∀(A B:List Tk) (fs:List Fr),kO (A++B) fs=(kO A fs).bind (kO B)
 | [],_,_=>rfl
 | t :: A,B,fs=>by
  show (jz t fs).bind (kO (A++B))=((jz t fs).bind (kO A)).bind (kO B)
  cases jz t fs with
  | none=>rfl
  | some gs=>exact yg A B gs
theorem QY.app:∀{A B:List Str} {S T:List Tk},QY A S->QY B T->QY (A++B) (S++T)
 | [],_,[],_,_,k=>k
 | _ :: _,_,_ :: _,_,h,k=>⟨h.1,QY.app h.2 k⟩
 | [],_,_ :: _,_,h,_=>h.elim
 | _ :: _,_,[],_,h,_=>h.elim
def P8(R:List Str)(fs gs:List Fr):Prop:=∃T,QY R T/\kO T fs=some gs
variable {gs hs:List Fr}
def P8.app{fs:List Fr}(h:P8 A fs gs)(k:P8 B gs hs):P8 (A++B) fs hs:=by obtain⟨S,h1,h2⟩:=h;obtain⟨T,k1,k2⟩:=k;exact⟨S++T,h1.app k1,by rw[yg,h2];exact k2⟩
def P8.one{t:Tk}{fs:List Fr}(h:QX r t)(e:jz t fs=some gs):P8 [r] fs gs:=⟨[t],⟨h,True.intro⟩,by unfold kO;rw[e];rfl⟩
def P8.nil(fs:List Fr):P8 [] fs fs:=⟨[],True.intro,rfl⟩
def rwt{t:Tk}{k:Nat}{l:List Nat}(er:cd r=aS k 32++l)(hl:RS l)(g:∀fs,JO fs (mS l)=jz t fs)(w:t≠.bad->t≠.stm->(OC [32] l).1=cd (PX t))(s:t=.stm->mS (OC [32] l).1 ∉ QP)(el:t=.els->l=cd (aa "else"))(bk:t=.back->r = "back")(pr:t≠.bad->((cd (aa "proc")).isPrefixOf (cd r)=decide (t=.proc))):QX r t:=by
 have es:km (cd r)=l:=by have:=YR hl k 0;rw[OY,bE]at this;rw[er,this]
 refine⟨?_,by rw[es];exact g,by unfold QF;rw[es];exact w,by unfold QF;rw[es];exact s,by rw[es];exact el,bk,pr⟩;rw[es];obtain⟨⟨c,l,e,_⟩,_⟩:=hl;rw[e];simp
def JB{k:Nat}{l:List Nat}(er:cd r=aS (k+1) 32++l):(cd (aa "proc")).isPrefixOf (cd r)=false:=by rw[er,iZ];rfl
def ZB{l:List Nat}(h:32 ∉ l):OC [32] l=(l,[]):=by unfold OC;rw[jcK (aZ.mpr rfl) h];rfl
variable {wd:Str}{g:Qx}
def Zg{l:List Nat}(hd:JM wd=some g)(hb:32 ∉ cd wd)(ez:cd z=cd wd++32 :: l)(fs:List Fr):JO fs z=g fs (mS l):=by unfold JO;rw[ez,qC _ _ hb];dsimp only;rw[qc,hd]
def jbe(hd:JM wd=some g)(hb:32 ∉ cd wd)(fs:List Fr):JO fs wd=g fs (aa ""):=by unfold JO;rw[ZB hb];dsimp only;rw[qc,hd];rfl
def jgg:∀p∈jgx.map (·.1),p∈zH/\91 ∉ cd p:=N3
def jb7(h:x ∉ jgx.map (·.1)):JM x=none:=by
 have:∀{l:List (Str×Qx)},x ∉ l.map (·.1)->l.lookup x=none:=by
  intro l;induction l with
  | nil=>intro _;rfl
  | cons p l ih=>
   intro h;rw[bn,aA,not_or]at h;rw[gj,show (x == p.1)=false from PQ.mpr h.1];exact ih h.2
 exact this h
def jlg(h:j5 (cd x)=true):JM x=none:=jb7 fun hx=>by have:=(jgg x hx).1;unfold j5 at h;simp only[bg,fG]at h;have h2:=h.2;rw[<- q_,uj]at h2;exact h2 (fD.mpr ⟨x,this,rfl⟩)
variable {b:List Nat}
def jls{a:List Nat}(h:58 ∉ a):OC [32,58,61,32] (a++32 :: 58 :: 61 :: 32 :: b)=(a,b):=by unfold OC;rw[JA N5 h,show kZ [32,58,61,32] (32 :: 58 :: 61 :: 32 :: b)=some ([],b) from YY (s:=[58,61,32])];simp
def jcV{l:List Nat}(h:j5 l=true):58 ∉ l:=qM h rfl
def jhn{x:List Nat}(h:58 ∉ x)(c:Int):58 ∉ ky x c:=by
 unfold ky;split
 .exact KO rfl N5
 split
 .intro z
  rcases aL.mp z with z | z
  .exact h z
  .exact zU (k:=58) rfl (by simpa using z)
 split
 .intro z
  rcases aL.mp z with z | z
  .exact h z
  .exact zU (k:=58) rfl (by simpa using z)
 .exact h
def YK(A B:List Str):cd (ql A B)=qE 32 ((A++aa ";" :: B).map cd):=JG rfl _
def jaq(x:Str)(A B:List Str):cd (ql (x :: A) B)=cd x++32 :: cd (ql A B):=by
 rw[YK,YK,cJ,bn]
 cases e:(A++aa ";" :: B).map cd with
 | nil=>simp at e
 | cons y r=>rfl
def jbC(h:P9 (A++B)):P0 (cd (ql A B)):=by
 have key:∀{R:List Str},R≠[]->(∀r∈R,P0 (cd r))->P0 (qE 32 (R.map cd)):=by
  intro R;induction R with
  | nil=>intro h;exact absurd rfl h
  | cons r R ih=>
   intro _ hR
   cases R with
   | nil=>exact hR r (aZ.mpr rfl)
   | cons s R=>exact (ih NZ fun x hx=>hR x (aH _ hx)).cons.app _
 rw[YK];refine key NZ fun r hr=>?_
 rcases aL.mp hr with hr | hr
 .exact jbc (h r (cB _ hr))
 .rcases aA.mp hr with rfl | hr
  .exact⟨59,[],rfl,N5⟩
  .exact jbc (h r (bV _ hr))
def jlI:∀p∈QP,p∈zH/\91 ∉ cd p/\p≠"any"/\p≠"claim"/\p≠"call":=N3
def jnM(h:j5 (cd x)=true):x ∉ QP:=fun hx=>by have:=(jlI x hx).1;unfold j5 at h;simp only[bg,fG]at h;have h2:=h.2;rw[<- q_,uj]at h2;exact h2 (fD.mpr ⟨x,this,rfl⟩)
def jfi(h:P9 A):q8 (A++zR :: B)=(A,B):=by
 have:(A++zR :: B).takeWhile (fun x=>decide (x≠zR))=A:=by
  induction A with
  | nil=>rfl
  | cons a A ih=>
   rw[cJ,OS,PP (PL (jlf (h a (aJ ..)))),ih fun x hx=>h x (aH _ hx)]
 unfold q8;rw[this];refine Prod.ext rfl ?_;show (A++zR :: B).drop (A.length+1)=B;rw[<- eW,nY];rfl
def jkf(h:P9 A):A.all Rn=true:=c_.mpr h
def Y0{k:Nat}(h:P9 (A++B))(hk:k<=A.length):zF k (ql A B)=some (A,B):=by
 have hA:P9 A:=fun x hx=>h x (cB _ hx)
 have hB:P9 B:=fun x hx=>h x (bV _ hx)
 unfold zF;rw[jdl h,PP (bV _ (aJ ..)),jfi hA,PP (jkf hA),PP (jkf hB),PP hk]
def jgo{l m:List Nat}{t u:Tm}(ez:cd z=l++32 :: 58 :: 61 :: 32 :: m)(wn:58 ∉ l)(hn:JM (mS (OC [32] (cd z)).1)=none)(h1:zf l=some t)(h2:JK m=some (u,c))(fs:List Fr):JO fs z=jz .stm fs:=by
 unfold JO;rw[hn]
 cases fs with
 | nil=>rfl
 | cons F fs=>
  show (match zf (OC [32,58,61,32] (cd z)).1,JK (OC [32,58,61,32] (cd z)).2 with | some _,some _=>some (Qk F :: fs) | _,_=>none)=_;rw[ez,jls wn,h1,h2];rfl
def jkD{t:Tm}(h:Rt (.set x t c)):(∀fs,JO fs (qo (.set x t c))=jz .stm fs)/\RS (cd (qo (.set x t c)))/\mS (OC [32] (cd (qo (.set x t c)))).1 ∉ QP:=by
 obtain⟨h1,h2,h3⟩:=h;have ez:cd (qo (.set x t c))=cd x++32 :: 58 :: 61 :: 32 :: zr t c:=by show cd (x++aa " := "++zC t c)=_;rw[jW,jW,YO,bq];rfl
 have ew:(OC [32] (cd (qo (.set x t c)))).1=cd x:=by rw[ez,qC _ _ (qM h1 rfl)]
 exact⟨jgo ez (jcV h1) (by rw[ew,qc];exact jlg h1) (jaU h1) (KD h2 h3),by rw[ez];exact⟨jgn h1 _,(jbb h2 c).cons.cons.cons.cons.app _⟩,by rw[ew,qc];exact jnM h1⟩
def jkN{t:Tm}(h:Rt (.put r x d t c)):(∀fs,JO fs (qo (.put r x d t c))=jz .stm fs)/\RS (cd (qo (.put r x d t c)))/\mS (OC [32] (cd (qo (.put r x d t c)))).1 ∉ QP:=by
 obtain⟨h1,h2,h3,h4,h5⟩:=h;have ez:cd (qo (.put r x d t c))=qi (.at_ r x d)++32 :: 58 :: 61 :: 32 :: zr t c:=by show cd (r++aa "["++qp x d++aa "] := "++zC t c)=(cd r++91 :: (ky (cd x) d++[93]))++32 :: 58 :: 61 :: 32 :: zr t c;rw[jW,jW,jW,jW,YO,yr];show cd r++[91]++ky (cd x) d++[93,32,58,61,32]++zr t c=_;simp
 have hn:58 ∉ qi (.at_ r x d):=by
  intro z;have z:58∈cd r++91 :: (ky (cd x) d++[93]):=z;rcases aL.mp z with z | z
  .exact jcV h1 z
  .rcases aA.mp z with z | z
   .cases z
   .rcases aL.mp z with z | z
    .refine jhn ?_ d z
     rcases h2 with rfl | h2
     .exact fun z=>nomatch z
     .exact jcV h2
    .exact absurd (aZ.mp z) N5
 have e2:qi (.at_ r x d)++32 :: 58 :: 61 :: 32 :: zr t c=cd r++91 :: ((ky (cd x) d++[93])++32 :: 58 :: 61 :: 32 :: zr t c):=by show (cd r++91 :: (ky (cd x) d++[93]))++_=_;rw[bq];rfl
 have Cp:91∈(OC [32] (cd (qo (.put r x d t c)))).1:=by
  rw[ez,e2];unfold OC;rw[Yq (qM h1 rfl)]
  cases e:kZ [32] (91 :: ((ky (cd x) d++[93])++32 :: 58 :: 61 :: 32 :: zr t c)) with
  | none=>exact bV _ (aJ ..)
  | some p=>
   obtain⟨k1,_⟩:=zq (a:=p.1) (b:=p.2) e;show 91∈cd r++p.1
   cases e2:p.1 with
   | nil=>rw[e2]at k1;exact absurd (md k1).1 N5
   | cons z a=>rw[e2]at k1;rw[<- (md k1).1];exact bV _ (aJ ..)
 exact⟨jgo ez hn (jb7 fun hx=>(jgg _ hx).2 (by rw[kS];exact Cp)) (jaV h1 h2 h3) (KD h4 h5),by rw[ez];exact⟨by rw[e2];exact jgn h1 _,(jbb h4 c).cons.cons.cons.cons.app _⟩,fun hx=>(jlI _ hx).2.1 (by rw[kS];exact Cp)⟩
def jgW(h:Rt S):(∀fs,JO fs (qo S)=jz .stm fs)/\RS (cd (qo S))/\mS (OC [32] (cd (qo S))).1 ∉ QP:=by
 cases S with
 | set x t c=>exact jkD h
 | put r x d t c=>exact jkN h
 | any x=>
  have h:j5 (cd x)=true:=h;have ez:cd (qo (.any x))=cd (aa "any")++32 :: cd x:=by show cd (aa "any "++x)=_;rw[jW];rfl
  refine⟨fun fs=>?_,by rw[ez];exact⟨⟨97,Pp rfl (by decide)⟩,((jbc h).cons.app _)⟩,by rw[ez,qC _ _ N3,qc];decide +kernel⟩;rw[Zg (g:=Sw) rfl N3 ez]
  cases fs with
  | nil=>rfl
  | cons F fs=>exact PP (by rw[kS];exact h)
 | claim C=>
  have h:Qh C:=h;have ez:cd (qo (.claim C))=cd (aa "claim")++32 :: yl C:=by show cd (aa "claim "++kb C)=_;rw[jW,yJ];rfl
  refine⟨fun fs=>?_,by rw[ez];exact⟨⟨99,Pp rfl (by decide)⟩,((P0.cons (show P0 _ from (zW h).2)).app _)⟩,by rw[ez,qC _ _ N3,qc];decide +kernel⟩;rw[Zg (g:=YA) rfl N3 ez]
  cases fs with
  | nil=>rfl
  | cons F fs=>simp only[YA,kS,JF h];rfl
 | call x f as rs=>
  obtain⟨h1,h2⟩:=h;have ez:cd (qo (.call x f as rs))=cd (aa "call")++32 :: cd (ql (x :: f :: as) rs):=jaq _ _ _;refine⟨fun fs=>?_,by rw[ez];exact⟨⟨99,Pp rfl (by decide)⟩,((jbC h1).cons.app _)⟩,by rw[ez,qC _ _ N3,qc];decide +kernel⟩;rw[Zg (g:=Sj) rfl N3 ez]
  cases fs with
  | nil=>rfl
  | cons F fs=>simp only[Sj,qc,Y0 (k:=2) h1 NZ];rfl
def YL{t:Tk}:32 ∉ cd (PX t):=by cases t <;> decide +kernel
def jlc{l m:List Nat}(h:32 ∉ l)(hl:l≠[])(hm:P0 m):RS (l++32 :: m):=by
 refine⟨?_,hm.cons.app _⟩
 cases l with
 | nil=>exact absurd rfl hl
 | cons c k=>exact⟨c,Pp rfl (fun z=>h (z ▸ aJ ..))⟩
def jbU{l:List Nat}(h:32 ∉ l)(hl:l≠[]):RS l:=by
 refine⟨?_,jda hl h⟩
 cases l with
 | nil=>exact absurd rfl hl
 | cons c k=>exact⟨c,Pp rfl (fun z=>h (z ▸ aJ ..))⟩
def yo{t:Tk}{k:Nat}{m:List Nat}(h1:t≠.stm)(h2:t≠.els)(h3:t≠.back)(hn:cd (PX t)≠[])(hd:JM (PX t)=some g)(er:cd r=aS k 32++(cd (PX t)++32 :: m))(hm:P0 m)(hg:∀fs,g fs (mS m)=jz t fs)(pr:(cd (aa "proc")).isPrefixOf (cd r)=decide (t=.proc)):QX r t:=
 rwt er (jlc YL hn hm) (fun fs=>by rw[Zg hd YL (kS _)];exact hg fs) (fun _ _=>by rw[qC _ _ YL]) (fun z=>absurd z h1) (fun z=>absurd z h2) (fun z=>absurd z h3) fun _=>pr
def jab{t:Tk}{k:Nat}(h1:t≠.stm)(h3:t=.back->r = "back")(hn:cd (PX t)≠[])(hd:JM (PX t)=some g)(er:cd r=aS k 32++cd (PX t))(hg:∀fs,g fs (aa "")=jz t fs)(pr:(cd (aa "proc")).isPrefixOf (cd r)=decide (t=.proc)):QX r t:=
 rwt er (jbU YL hn) (fun fs=>by rw[qc,jbe hd YL];exact hg fs) (fun _ _=>by rw[ZB YL]) (fun z=>absurd z h1) (fun z=>by rw[z];rfl) h3 fun _=>pr
def jaZ{a b:Tm}(h:Qh (.least a b c)):zg (yl (.least a b c))=some (.least a b c):=by obtain⟨h1,h2,h3⟩:=h;show zg (qi a++32 :: 62 :: 61 :: 32 :: zr b c)=_;unfold zg;rw[jad N5 (jdK h1).2];dsimp only;rw[KD h2 h3,jbo h1]
variable {j:Nat}{y:Str}
def jfu{m:Str}{k:Nat}(hm:cd m=aS k 32)(C:Cl)(hy:cd y=aS j 32++(cd wd++[32])):cd (m++y++kb C)=aS (k+j) 32++(cd wd++32 :: yl C):=by rw[jW,jW,yJ,hm,hy,<- E7];simp only[bq];rfl
section
def jjC(h:qh (cd z)=some C)(fs:List Fr):Y9 fs z=jz .need fs:=by
 cases fs with
 | nil=>rfl
 | cons F fs=>simp only[Y9,h];rfl
def jjE(h:qh (cd z)=some C)(fs:List Fr):Zb fs z=jz .give fs:=by
 cases fs with
 | nil=>rfl
 | cons F fs=>simp only[Zb,h];rfl
def jjD(h:qh (cd z)=some C)(fs:List Fr):Za fs z=jz .keep fs:=by
 cases fs with
 | nil=>rfl
 | cons F fs=>simp only[Za,h];rfl
def jom(h:zg (cd z)=some C)(fs:List Fr):RW fs z=jz .ite fs:=by
 cases fs with
 | nil=>rfl
 | cons F fs=>simp only[RW,h];rfl
def jlu(h:zg (cd z)=some C)(fs:List Fr):Ku fs z=jz .whl fs:=by
 cases fs with
 | nil=>rfl
 | cons F fs=>simp only[Ku,h];rfl
def jjG(fs:List Fr):Zc fs (aa "")=jz .els fs:=by
 cases fs with
 | nil=>rfl
 | cons F fs=>simp only[Zc,jz,decide_true,Av]
def jjF(fs:List Fr):Rz fs (aa "")=jz .fin fs:=by
 cases fs with
 | nil=>rfl
 | cons F fs=>simp only[Rz,jz,decide_true,Av];try (cases fs <;> rfl)
def jjH(fs:List Fr):Zd fs (aa "")=jz .back fs:=by
 cases fs with
 | nil=>rfl
 | cons F fs=>simp only[Zd,jz,decide_true,Av]
def jmP(h:P9 (A++B))(hk:1<=A.length)(fs:List Fr):ZW fs (ql A B)=jz .proc fs:=by
 cases fs with
 | nil=>simp only[ZW,Y0 h hk];rfl
 | cons F fs=>rfl
end
theorem KZ{t:Tk}{f:Cl->Str}{F:Fr}{fs:List Fr}(hr:∀C,Qh C->QX (f C) t)(hF:jz t (F :: fs)=some (F :: fs)):∀ks:List Cl,(∀C∈ks,Qh C)->P8 (ks.map f) (F :: fs) (F :: fs)
 | [],_=>P8.nil _
 | C :: ks,h=>(P8.one (hr C (h C (aJ ..))) hF).app (KZ hr hF ks fun D hD=>h D (aH _ hD))
theorem Ky:∀(n:Nat) {m:Str} {k:Nat},cd m=aS (k+1) 32->∀(l:List (Qi n)),(∀s∈l,QR n s)->∀(F:Fr) (fs:List Fr),P8 (kD n m l) (F :: fs) ({ F with st:=F.st || !l.isEmpty } :: fs)
 | 0,m,k,hm,l,_,F,fs=>by
  cases jnq (l:=l)
  rw[show ({ F with st:=F.st || !([]:List (Qi 0)).isEmpty }:Fr)=F by simp];exact P8.nil _
 | n+1,m,k,hm,[],_,F,fs=>by
  rw[show ({ F with st:=F.st || !([]:List (Qi (n+1))).isEmpty }:Fr)=F by simp];exact P8.nil _
 | n+1,m,k,hm,s :: l,h,F,fs=>by
  have ih:=Ky (n+1) hm l (fun t ht=>h t (aH _ ht)) (Qk F) fs;rw[show ({ Qk F with st:=(Qk F).st || !l.isEmpty }:Fr)={ F with st:=F.st || !(s :: l).isEmpty } by simp[Qk]]at ih;have dP:cd (m++aa "  ")=aS (k+2+1) 32:=by rw[jW,hm,show cd (aa "  ")=aS 2 32 from rfl,E7]
  have hs:=h s (aJ ..);have er:∀wd:Str,cd (m++wd)=aS (k+1) 32++cd wd:=fun wd=>by rw[jW,hm]
  rcases ja8 s with⟨S,rfl⟩ | ⟨a,b,c,x,y,rfl⟩ | ⟨a,b,c,ks,x,rfl⟩
  .have hs:Rt S:=hs
   obtain⟨h1,h2,h3⟩:=jgW hs;exact P8.app (A:=[m++qo S]) (P8.one (rwt (t:=.stm) (er _) h2 (by rw[qc];exact h1) (fun _ z=>absurd rfl z) (fun _=>h3) nofun nofun fun _=>JB (er _)) rfl) ih
  .obtain⟨f1,f2,f3⟩:=(show Qh (.least a b c)/\(∀t∈x,QR n t)/\∀t∈y,QR n t from hs)
   have e1:=jfu (wd:=aa "if") (y:=aa "if ") hm (.least a b c) (j:=0) rfl;have r1:P8 [m++aa "if "++kb (.least a b c)] (F :: fs) (⟨"if",false,false⟩ :: F :: fs):=P8.one (yo (t:=.ite) (g:=RW) nofun nofun nofun N3 rfl e1 (zW f1).2 (fun fs=>jom (by rw[kS];exact jaZ f1) fs) (JB e1)) rfl;have r2:=Ky n dP x f2 ⟨"if",false,false⟩ (F :: fs);have r3:P8 [m++aa "else"] (⟨"if",false,false || !x.isEmpty⟩ :: F :: fs) (⟨"else",false,false⟩ :: F :: fs):=P8.one (jab (t:=.els) (g:=Zc) nofun nofun N3 rfl (er _) jjG (JB (er _))) rfl;have r4:=Ky n dP y f3 ⟨"else",false,false⟩ (F :: fs);have r5:P8 [m++aa "end"] (⟨"else",false,false || !y.isEmpty⟩ :: F :: fs) (Qk F :: fs):=P8.one (jab (t:=.fin) (g:=Rz) nofun nofun N3 rfl (er _) jjF (JB (er _))) rfl;exact P8.app (A:=_ :: (_++_ :: (_++[_]))) (r1.app (r2.app (r3.app (r4.app r5)))) ih
  .obtain⟨f1,f2,_,f3⟩:=(show Qh (.least a b c)/\(∀k∈ks,Qh k)/\ks.length<=20/\∀t∈x,QR n t from hs)
   have e1:=jfu (wd:=aa "while") (y:=aa "while ") hm (.least a b c) (j:=0) rfl;have r1:P8 [m++aa "while "++kb (.least a b c)] (F :: fs) (⟨"while",false,false⟩ :: F :: fs):=P8.one (yo (t:=.whl) (g:=Ku) nofun nofun nofun N3 rfl e1 (zW f1).2 (fun fs=>jlu (by rw[kS];exact jaZ f1) fs) (JB e1)) rfl;have e2:=fun C=>jfu (wd:=aa "keep") (y:=aa "  keep ") hm C (j:=2) rfl
   have r2:=KZ (t:=.keep) (f:=fun k=>m++aa "  keep "++kb k) (F:=⟨"while",false,false⟩) (fs:=F :: fs) (fun C hC=>yo (g:=Za) nofun nofun nofun N3 rfl (e2 C) (zW hC).2 (fun fs=>jjD (by rw[kS];exact JF hC) fs) (JB (k:=k+2) (e2 C))) rfl ks f2;have r3:=Ky n dP x f3 ⟨"while",false,false⟩ (F :: fs);have r4:P8 [m++aa "end"] (⟨"while",false,false || !x.isEmpty⟩ :: F :: fs) (Qk F :: fs):=P8.one (jab (t:=.fin) (g:=Rz) nofun nofun N3 rfl (er _) jjF (JB (er _))) rfl;exact P8.app (A:=_ :: (_++(_++[_]))) (r1.app (r2.app (r3.app r4))) ih
def jkg{p:Pc}(h:So p):P8 (zj p) [] []:=by
 have e0:cd (ql (aa "proc" :: p.f :: p.ps) p.rs)=aS 0 32++(cd (PX .proc)++32 :: cd (ql (p.f :: p.ps) p.rs)):=jaq _ _ _;have hd:=h.hd;have r1:P8 [ql (aa "proc" :: p.f :: p.ps) p.rs] [] [⟨"proc",false,false⟩]:=P8.one (yo (t:=.proc) (g:=ZW) nofun nofun nofun N3 rfl e0 (jbC hd) (fun fs=>by rw[qc];exact jmP hd NZ fs) (by rw[e0];rfl)) rfl;have e2:∀C,cd (aa "  need "++kb C)=aS (1+1) 32++(cd (PX .need)++32 :: yl C):=fun C=>by rw[jW,yJ];rfl
 have r2:=KZ (t:=.need) (f:=fun k=>aa "  need "++kb k) (F:=⟨"proc",false,false⟩) (fs:=[]) (fun C hC=>yo (g:=Y9) nofun nofun nofun N3 rfl (e2 C) (zW hC).2 (fun fs=>jjC (by rw[kS];exact JF hC) fs) (JB (e2 C))) rfl p.nd h.nd;have e3:∀C,cd (aa "  give "++kb C)=aS (1+1) 32++(cd (PX .give)++32 :: yl C):=fun C=>by rw[jW,yJ];rfl
 have oK:∀C,Qh C->QX (aa "  give "++kb C) .give:=fun C hC=>yo (g:=Zb) nofun nofun nofun N3 rfl (e3 C) (zW hC).2 (fun fs=>jjE (by rw[kS];exact JF hC) fs) (JB (e3 C))
 have r3:∃b,P8 (p.gv.map fun k=>aa "  give "++kb k) [⟨"proc",false,false⟩] [⟨"proc",b,false⟩]:=by
  have hg:=h.gv
  cases e:p.gv with
  | nil=>exact⟨false,P8.nil _⟩
  | cons C ks=>
   rw[e]at hg;exact⟨true,(P8.one (oK C (hg C (aJ ..))) rfl).app (KZ (F:=⟨"proc",true,false⟩) oK rfl ks fun D hD=>hg D (aH _ hD))⟩
 obtain⟨b,r3⟩:=r3;have r4:=Ky p.lv (m:=aa "  ") (k:=1) rfl p.bd h.bd ⟨"proc",b,false⟩ [];have r5:P8 [aa "back"] [⟨"proc",b,false || !p.bd.isEmpty⟩] []:=P8.one (jab (t:=.back) (k:=0) (g:=Zd) nofun (fun _=>rfl) N3 rfl rfl jjH rfl) rfl;exact r1.app (r2.app (r3.app (r4.app r5)))
theorem jer:∀{ps:List Pc},(∀p∈ps,So p)->P8 (kR ps) [] []
 | [],_=>P8.nil _
 | p :: ps,h=>P8.app (A:=zj p) (jkg (h p (aJ ..))) (jer fun q hq=>h q (aH _ hq))
def QC:List Fr->Prop
 | []=>True
 | [F]=>F.kind = "proc"
 | F :: G :: fs=>F.kind≠"proc"/\QC (G :: fs)
def dp(fs:List Fr):Int:=((fs.length - 1:Nat):Int)
def PZ:Tk->Int
 | .ite=>1
 | .whl=>1
 | .fin=>-1
 | _=>0
variable {F:Fr}
def QC.tl{fs:List Fr}(h:QC (F :: fs)):QC fs:=by
 cases fs with
 | nil=>exact True.intro
 | cons G fs=>exact h.2
def QC.low{fs:List Fr}(h:QC (F :: fs))(e:F.kind = "proc"):fs=[]:=by
 cases fs with
 | nil=>rfl
 | cons G fs=>exact absurd e h.1
def QC.sub{G:Fr}{fs:List Fr}(h:QC (F :: fs))(e:F.kind = "proc"↔G.kind = "proc"):QC (G :: fs):=by
 cases fs with
 | nil=>exact e.mp h
 | cons H fs=>exact⟨fun z=>h.1 (e.mpr z),h.2⟩
theorem zX{t:Tk}{fs:List Fr}(h:QC fs)(e:jz t fs=some gs):QC gs/\dp gs=dp fs+PZ t/\(gs=[]->t=.back)/\(t=.back->gs=[])/\(fs=[]->t=.proc):=by
 cases fs with
 | nil=>cases t <;> first | (cases e;done) | (cases e;exact⟨rfl,rfl,nofun,nofun,fun _=>rfl⟩)
 | cons F fs=>
  cases t with
  | proc=>cases e
  | bad=>cases e
  | stm=>cases e;exact⟨h.sub Iff.rfl,by simp[dp,PZ],nofun,nofun,nofun⟩
  | ite=>cases e;exact⟨⟨by show ¬(("if" : Str) = "proc");decide,h⟩,by simp[dp,PZ],nofun,nofun,nofun⟩
  | whl=>cases e;exact⟨⟨by show ¬(("while" : Str) = "proc");decide,h⟩,by simp[dp,PZ],nofun,nofun,nofun⟩
  | need=>
   simp only[jz]at e;split at e
   .cases e;exact⟨h,by simp[PZ],nofun,nofun,nofun⟩
   .cases e
  | give=>
   simp only[jz]at e;split at e
   .cases e;exact⟨h.sub Iff.rfl,by simp[dp,PZ],nofun,nofun,nofun⟩
   .cases e
  | keep=>
   simp only[jz]at e;split at e
   .cases e;exact⟨h,by simp[PZ],nofun,nofun,nofun⟩
   .cases e
  | back=>
   simp only[jz]at e;split at e
   .rename_i hk
    have hf:=h.low (PK hk)
    cases e
    rw[hf];exact⟨True.intro,by simp[dp,PZ],fun _=>rfl,fun _=>rfl,nofun⟩
   .cases e
  | els=>
   simp only[jz]at e;split at e
   .rename_i hk
    have hk:=PK hk
    cases e
    refine⟨h.sub ⟨fun z=>?_,fun z=>?_⟩,by simp[dp,PZ],nofun,nofun,nofun⟩
    .rw[hk]at z;exact absurd z N5
    .exact absurd (show ("else" : Str) = "proc" from z) N5
   .cases e
  | fin=>
   simp only[jz]at e;split at e
   .cases fs with
    | nil=>cases e
    | cons G fs=>
     cases e
     exact⟨(QC.tl h).sub Iff.rfl,by simp[dp,PZ];omega,nofun,nofun,nofun⟩
   .cases e
theorem jaH:∀{T:List Tk} {fs gs:List Fr},QC fs->kO T fs=some gs->QC gs/\dp gs=dp fs+(T.map PZ).sum
 | [],fs,gs,h,e=>by cases e;exact⟨h,NZ⟩
 | t :: T,fs,gs,h,e=>by
  unfold kO at e
  cases e1:jz t fs with
  | none=>rw[e1]at e;cases e
  | some hs=>
   rw[e1]at e;obtain⟨h1,h2,_⟩:=zX h e1;obtain⟨h3,h4⟩:=jaH h1 e;exact⟨h3,by rw[h4,h2,bn,Ai];omega⟩
variable {T:List Tk}
def yW(h:kO T []=some [])(k:Nat):∃fs,kO (T.take k) []=some fs/\kO (T.drop k) fs=some []/\QC fs:=by
 have e:=h;rw[<- E5 k T,yg]at e
 cases e1:kO (T.take k) [] with
 | none=>rw[e1]at e;cases e
 | some fs=>rw[e1]at e;exact⟨fs,rfl,e,(jaH (fs:=[]) True.intro e1).1⟩
def Ke{k:Nat}{fs:List Fr}(h:kO (T.drop k) fs=some gs)(hk:k < T.length):∃hs,jz T[k] fs=some hs/\kO (T.drop (k+1)) hs=some gs:=by
 rw[At hk]at h;unfold kO at h
 cases e1:jz T[k] fs with
 | none=>rw[e1]at h;cases h
 | some hs=>rw[e1]at h;exact⟨hs,rfl,h⟩
def jdC{k:Nat}(h:kO (T.take (k+1)) []=some gs)(hk:k < T.length):∃fs,QC fs/\kO (T.take k) []=some fs/\jz T[k] fs=some gs:=by
 rw[gI,aP hk,yg]at h
 cases e1:kO (T.take k) [] with
 | none=>rw[e1]at h;cases h
 | some fs=>
  rw[e1]at h;have h:(jz T[k] fs).bind (kO [])=some gs:=h
  cases e2:jz T[k] fs with
  | none=>rw[e2]at h;cases h
  | some hs=>rw[e2]at h;cases h;exact⟨fs,(jaH (fs:=[]) True.intro e1).1,rfl,e2⟩
def j4:List Tk->List Fr->Option Nat
 | [],fs=>if fs.isEmpty=true then none else some 0
 | t :: T,fs=>match jz t fs with
  | none=>some 0
  | some gs=>(j4 T gs).map (·+1)
theorem zw:∀{A B:List Tk} {fs gs:List Fr},kO A fs=some gs->j4 (A++B) fs=(j4 B gs).map (·+A.length)
 | [],B,fs,gs,h=>by
  cases h
  show j4 B fs=_
  cases j4 B fs <;> rfl
 | t :: A,B,fs,gs,h=>by
  unfold kO at h
  cases e1:jz t fs with
  | none=>rw[e1]at h;cases h
  | some hs=>
   rw[e1]at h;show (match jz t fs with | none=>some 0 | some gs=>(j4 (A++B) gs).map (·+1))=_;rw[e1];show (j4 (A++B) hs).map (·+1)=_;rw[zw (B:=B) (show kO A hs=some gs from h),Aa];rfl
def YB{fs:List Fr}(h:kO T fs=some []):j4 T fs=none:=by have:=zw (B:=[]) h;rw[bE]at this;rw[this];rfl
variable {u:Tk}
section
variable {k:Nat}
def jkP(h:kO T []=some []):j4 (T.take k++.bad :: T.drop k) []=some (T.take k).length:=by obtain⟨fs,h1,_,_⟩:=yW h k;rw[zw h1];show some (0+_)=_;rw[nR]
def jaK{t:Tk}{fs:List Fr}(h:kO T []=some [])(h1:kO (T.take k) []=some fs)(ht:jz t fs=some fs):j4 (T.take k++t :: T.drop k) []=none:=by
 obtain⟨gs,g1,g2,_⟩:=yW h k;rw[h1]at g1
 cases g1
 refine YB ?_;rw[yg,h1];show (jz t fs).bind (kO (T.drop k))=_;rw[ht];exact g2
def Ji{t:Tk}{fs:List Fr}{B:List Tk}(h1:kO (T.take k) []=some fs)(hk:k<=T.length)(ht:jz t fs=none):j4 (T.take k++t :: B) []=some k:=by rw[zw h1];unfold j4;rw[ht];show some (0+(T.take k).length)=_;rw[cq,fz hk,nR]
def jbN{t:Tk}{fs:List Fr}{B:List Tk}(h1:kO (T.take k) []=some fs)(hk:k<=T.length)(ht:jz t fs=some gs)(hu:jz u gs=none):j4 (T.take k++t :: u :: B) []=some (k+1):=by rw[zw h1];unfold j4;rw[ht];unfold j4;dsimp only;rw[hu];show some (0+1+(T.take k).length)=_;rw[cq,fz hk,nR,Ah]
end
def jn1(h1:F.kind = "proc")(h2:F.gv=false)(h3:F.st=false):F=⟨"proc",false,false⟩:=by
 obtain⟨a,b,c⟩:=F
 cases h1;cases h2;cases h3;rfl
def Sk{t:Tk}{fs:List Fr}(h:QC fs)(e:jz t fs=some gs):jz .keep gs=(if t=.whl\/t=.keep then some gs else none)/\jz .need gs=(if t=.proc\/t=.need then some gs else none)/\((t=.proc\/t=.need)->gs=[⟨"proc",false,false⟩])/\(¬(t=.proc\/t=.need)->jz .give gs=if t=.give then some gs else none):=by
 cases fs with
 | nil=>cases t <;> first | (cases e;done) | (cases e;exact⟨rfl,rfl,fun _=>rfl,fun z=>absurd (.inl rfl) z⟩)
 | cons F fs=>
  cases t with
  | proc=>cases e
  | bad=>cases e
  | stm=>cases e;exact⟨by simp[jz,Qk],by simp[jz,Qk],nofun,by simp[jz,Qk]⟩
  | ite=>
   cases e
   have n1:¬(aa "if" = aa "while"):=by decide
   have n2:¬(aa "if" = aa "proc"):=by decide
   exact⟨by simp[jz,n1],by simp[jz,n2],nofun,by simp[jz,n2]⟩
  | whl=>
   cases e
   have n2:¬(aa "while" = aa "proc"):=by decide
   exact⟨by simp[jz],by simp[jz,n2],nofun,by simp[jz,n2]⟩
  | need=>
   simp only[jz]at e;split at e
   .rename_i hk
    simp only[bg,decide_eq_true_eq,fG]at hk
    cases e
    have hf:=h.low hk.1;have hF:=jn1 hk.1 hk.2.1 hk.2.2;rw[hf,hF];exact⟨rfl,rfl,fun _=>rfl,fun z=>absurd (.inr rfl) z⟩
   .cases e
  | give=>
   simp only[jz]at e;split at e
   .rename_i hk
    simp only[bg,decide_eq_true_eq,fG]at hk
    cases e
    have n1:¬(aa "proc" = aa "while"):=by decide
    exact⟨by simp[jz,hk.1,n1],by simp[jz],nofun,by simp[jz,hk.1,hk.2]⟩
   .cases e
  | keep=>
   simp only[jz]at e;split at e
   .rename_i hk
    simp only[bg,decide_eq_true_eq,fG]at hk
    cases e
    have n2:¬(aa "while" = aa "proc"):=by decide
    exact⟨by simp[jz,hk.1,hk.2],by simp[jz,hk.1,n2],nofun,by simp[jz,hk.1,n2]⟩
   .cases e
  | back=>
   have:=(zX h e).2.2.2.1 rfl;rw[this];exact⟨by simp[jz],by simp[jz],nofun,by simp[jz]⟩
  | els=>
   simp only[jz]at e;split at e
   .cases e
    have n1:¬(aa "else" = aa "while"):=by decide
    have n2:¬(aa "else" = aa "proc"):=by decide
    exact⟨by simp[jz,n1],by simp[jz,n2],nofun,by simp[jz,n2]⟩
   .cases e
  | fin=>
   simp only[jz]at e;split at e
   .cases fs with
    | nil=>cases e
    | cons G fs=>cases e;exact⟨by simp[jz,Qk],by simp[jz,Qk],nofun,by simp[jz,Qk]⟩
   .cases e
def Sim(fs gs:List Fr):Prop:=fs=gs\/∃(A:List Fr) (p:Fr),fs=A++[p]/\gs=A++[{ p with gv:=true }]/\p.kind = "proc"/\(A=[]->p.st=true)
def jii{t:Tk}{fs:List Fr}(ho:QC fs)(h:Sim fs gs)(e:jz t fs=some hs):∃ks,jz t gs=some ks/\Sim hs ks:=by
 rcases h with rfl | ⟨A,p,rfl,rfl,hp,bZ⟩
 .exact⟨hs,e,.inl rfl⟩
 cases A with
 | nil=>
  have bZ:=bZ rfl;have n1:¬(aa "proc" = aa "while"):=by decide
  have n2:¬(aa "proc" = aa "if"):=by decide
  have n3:¬(aa "proc" = aa "else"):=by decide
  have hp:p.kind=aa "proc":=hp
  cases t with
  | proc=>cases e
  | bad=>cases e
  | stm=>cases e;exact Pp rfl (.inr ⟨[],Qk p,rfl,rfl,hp,fun _=>rfl⟩)
  | ite=>cases e;exact Pp rfl (.inr ⟨[_],p,rfl,rfl,hp,nofun⟩)
  | whl=>cases e;exact Pp rfl (.inr ⟨[_],p,rfl,rfl,hp,nofun⟩)
  | need=>simp[jz,bZ]at e
  | give=>simp[jz,bZ]at e
  | keep=>simp[jz,bZ]at e
  | back=>
   simp[jz,hp]at e;subst e;exact⟨[],by simp[jz,hp],.inl rfl⟩
  | els=>simp[jz,hp,n2]at e
  | fin=>simp[jz,hp,n1,n3]at e
 | cons F A=>
  cases t with
  | proc=>cases e
  | bad=>cases e
  | stm=>cases e;exact Pp rfl (.inr ⟨Qk F :: A,p,rfl,rfl,hp,nofun⟩)
  | ite=>cases e;exact Pp rfl (.inr ⟨_ :: F :: A,p,rfl,rfl,hp,nofun⟩)
  | whl=>cases e;exact Pp rfl (.inr ⟨_ :: F :: A,p,rfl,rfl,hp,nofun⟩)
  | need=>
   simp only[cJ,jz]at e |-;split at e
   .rename_i c;cases e;exact⟨_,PP c,.inr ⟨F :: A,p,rfl,rfl,hp,nofun⟩⟩
   .cases e
  | give=>
   simp only[cJ,jz]at e |-;split at e
   .rename_i c;cases e;exact⟨_,PP c,.inr ⟨{ F with gv:=true } :: A,p,rfl,rfl,hp,nofun⟩⟩
   .cases e
  | keep=>
   simp only[cJ,jz]at e |-;split at e
   .rename_i c;cases e;exact⟨_,PP c,.inr ⟨F :: A,p,rfl,rfl,hp,nofun⟩⟩
   .cases e
  | back=>
   simp only[cJ,jz]at e |-;split at e
   .rename_i c
    have:=QC.low (fs:=A++[p]) ho (PK c);simp at this
   .cases e
  | els=>
   simp only[cJ,jz]at e |-;split at e
   .rename_i c;cases e;exact⟨_,PP c,.inr ⟨{ F with kind:="else",st:=false } :: A,p,rfl,rfl,hp,nofun⟩⟩
   .cases e
  | fin=>
   simp only[cJ,jz]at e |-;split at e
   .rename_i c
    rw[PP c]
    cases A with
    | nil=>cases e;exact Pp rfl (.inr ⟨[],Qk p,rfl,rfl,hp,fun _=>rfl⟩)
    | cons G A=>cases e;exact Pp rfl (.inr ⟨Qk G :: A,p,rfl,rfl,hp,nofun⟩)
   .cases e
theorem Z9:∀{T:List Tk} {fs gs:List Fr},QC fs->Sim fs gs->kO T fs=some []->kO T gs=some []
 | [],fs,gs,_,h,e=>by
  cases e
  rcases h with rfl | ⟨A,p,h,_⟩
  .rfl
  .cases A <;> cases h
 | t :: T,fs,gs,ho,h,e=>by
  unfold kO at e |-
  cases e1:jz t fs with
  | none=>rw[e1]at e;cases e
  | some hs=>
   rw[e1]at e;obtain⟨ks,h1,h2⟩:=jii ho h e1;rw[h1];exact Z9 (zX ho e1).1 h2 e
def jjB(h:kO T [⟨"proc",false,false⟩]=some [])(hn:∀t U,T=t :: U->t≠.need):kO T [⟨"proc",true,false⟩]=some []:=by
 cases T with
 | nil=>cases h
 | cons t T=>
  have n1:¬(aa "proc" = aa "while"):=by decide
  have n2:¬(aa "proc" = aa "if"):=by decide
  have n3:¬(aa "proc" = aa "else"):=by decide
  cases t with
  | proc=>cases h
  | bad=>cases h
  | need=>exact absurd rfl (hn _ _ rfl)
  | give=>exact h
  | back=>exact h
  | stm=>exact Z9 (T:=T) (show QC [⟨"proc",false,true⟩] from rfl) (.inr ⟨[],⟨"proc",false,true⟩,rfl,rfl,rfl,fun _=>rfl⟩) h
  | ite=>exact Z9 (T:=T) (show QC [⟨"if",false,false⟩,⟨"proc",false,false⟩] from⟨by show ¬(("if" : Str) = "proc");decide,rfl⟩) (.inr ⟨[_],⟨"proc",false,false⟩,rfl,rfl,rfl,nofun⟩) h
  | whl=>exact Z9 (T:=T) (show QC [⟨"while",false,false⟩,⟨"proc",false,false⟩] from⟨by show ¬(("while" : Str) = "proc");decide,rfl⟩) (.inr ⟨[_],⟨"proc",false,false⟩,rfl,rfl,rfl,nofun⟩) h
  | keep=>simp[kO,jz,n1]at h
  | els=>simp[kO,jz,n2]at h
  | fin=>simp[kO,jz,n1,n3]at h
def jm5(n:Nat)(fs gs:List Fr):Prop:=∃(A:List Fr) (E I:Fr) (B:List Fr),fs=A++E :: B/\gs=A++I :: B/\E.kind = "else"/\I.kind = "if"/\B.length=n
def jdE{t:Tk}{fs:List Fr}(h:jm5 n fs gs)(e:jz t fs=some hs):(jz t gs=none/\hs.length<=n)\/∃ks,jz t gs=some ks/\jm5 n hs ks:=by
 obtain⟨A,E,I,B,rfl,rfl,hE,hI,rfl⟩:=h
 cases A with
 | nil=>
  have hE:E.kind=aa "else":=hE;have hI:I.kind=aa "if":=hI;have n1:¬(aa "else" = aa "while"):=by decide
  have n2:¬(aa "else" = aa "proc"):=by decide
  have n3:¬(aa "else" = aa "if"):=by decide
  have n4:¬(aa "if" = aa "while"):=by decide
  have n5:¬(aa "if" = aa "else"):=by decide
  cases t with
  | proc=>cases e
  | bad=>cases e
  | stm=>cases e;exact .inr ⟨_,rfl,[],Qk E,Qk I,B,rfl,rfl,hE,hI,rfl⟩
  | ite=>cases e;exact .inr ⟨_,rfl,[_],E,I,B,rfl,rfl,hE,hI,rfl⟩
  | whl=>cases e;exact .inr ⟨_,rfl,[_],E,I,B,rfl,rfl,hE,hI,rfl⟩
  | need=>simp[jz,hE,n2]at e
  | give=>simp[jz,hE,n2]at e
  | keep=>simp[jz,hE,n1]at e
  | back=>simp[jz,hE,n2]at e
  | els=>simp[jz,hE,n3]at e
  | fin=>
   simp only[tZ,jz]at e;refine .inl ⟨by simp[jz,hI,n4,n5],?_⟩;split at e
   .cases B with
    | nil=>cases e
    | cons G B=>cases e;exact aK _
   .cases e
 | cons F A=>
  cases t with
  | proc=>cases e
  | bad=>cases e
  | stm=>cases e;exact .inr ⟨_,rfl,Qk F :: A,E,I,B,rfl,rfl,hE,hI,rfl⟩
  | ite=>cases e;exact .inr ⟨_,rfl,_ :: F :: A,E,I,B,rfl,rfl,hE,hI,rfl⟩
  | whl=>cases e;exact .inr ⟨_,rfl,_ :: F :: A,E,I,B,rfl,rfl,hE,hI,rfl⟩
  | need=>
   simp only[cJ,jz]at e |-;split at e
   .rename_i c;cases e;exact .inr ⟨_,PP c,F :: A,E,I,B,rfl,rfl,hE,hI,rfl⟩
   .cases e
  | give=>
   simp only[cJ,jz]at e |-;split at e
   .rename_i c;cases e;exact .inr ⟨_,PP c,{ F with gv:=true } :: A,E,I,B,rfl,rfl,hE,hI,rfl⟩
   .cases e
  | keep=>
   simp only[cJ,jz]at e |-;split at e
   .rename_i c;cases e;exact .inr ⟨_,PP c,F :: A,E,I,B,rfl,rfl,hE,hI,rfl⟩
   .cases e
  | back=>
   simp only[cJ,jz]at e |-;split at e
   .rename_i c;cases e;exact .inr ⟨_,PP c,A,E,I,B,rfl,rfl,hE,hI,rfl⟩
   .cases e
  | els=>
   simp only[cJ,jz]at e |-;split at e
   .rename_i c;cases e;exact .inr ⟨_,PP c,{ F with kind:="else",st:=false } :: A,E,I,B,rfl,rfl,hE,hI,rfl⟩
   .cases e
  | fin=>
   simp only[cJ,jz]at e |-;split at e
   .rename_i c
    rw[PP c]
    cases A with
    | nil=>cases e;exact .inr ⟨_,rfl,[],Qk E,Qk I,B,rfl,rfl,hE,hI,rfl⟩
    | cons G A=>cases e;exact .inr ⟨_,rfl,Qk G :: A,E,I,B,rfl,rfl,hE,hI,rfl⟩
   .cases e
theorem jfZ{n:Nat}:∀{m:Nat} {R:List Tk} {fs gs:List Fr},jm5 n fs gs->m < R.length->(∀i,1<=i->i<=m->∃hs,kO (R.take i) fs=some hs/\n < hs.length)->(∃hs,kO (R.take (m+1)) fs=some hs/\hs.length<=n)->j4 R gs=some m
 | m,[],_,_,_,h,_,_=>absurd h (tW _)
 | 0,t :: R,fs,gs,h,_,_,⟨hs,h1,h2⟩=>by
  have h1:(jz t fs).bind (kO [])=some hs:=h1
  cases e:jz t fs with
  | none=>rw[e]at h1;cases h1
  | some ks=>
   rw[e]at h1
   cases h1
   unfold j4;rcases jdE h e with⟨k1,_⟩ | ⟨ls,k1,A,E,I,B,rfl,_,_,_,rfl⟩
   .rw[k1]
   .simp only[az,aM]at h2
    omega
 | m+1,t :: R,fs,gs,h,hm,hi,⟨hs,h1,h2⟩=>by
  obtain⟨ks,k1,k2⟩:=hi 1 (aK _) N4;have k1:(jz t fs).bind (kO [])=some ks:=k1
  cases e:jz t fs with
  | none=>rw[e]at k1;cases k1
  | some ls=>
   rw[e]at k1
   cases k1
   have h1:(jz t fs).bind (kO (R.take (m+1)))=some hs:=h1;rw[e]at h1;rcases jdE h e with⟨_,h5⟩ | ⟨ms,h5,h6⟩
   .omega
   .unfold j4
    rw[h5];dsimp only;rw[jfZ (m:=m) (R:=R) h6 (Ae hm) (fun i i1 i2=>?_) ⟨hs,h1,h2⟩]
    .rfl
    .obtain⟨us,u1,u2⟩:=hi (i+1) N4 N4
     have u1:(jz t fs).bind (kO (R.take i))=some us:=u1;rw[e]at u1;exact⟨us,u1,u2⟩
def kC{a:List Nat}(h:10 ∉ a)(k:10 ∉ b):10 ∉ a++b:=fun z=>(aL.mp z).elim h k
def qL{x:Nat}(h:x≠10)(k:10 ∉ b):10 ∉ x :: b:=fun z=>(aA.mp z).elim (fun e=>h e.symm) k
def jjg:10 ∉ ([]:List Nat):=fun z=>nomatch z
def jld(n:Nat):10 ∉ dg n:=zU rfl
def yq{l:List Nat}(h:j5 l=true):10 ∉ l:=qM h rfl
def Yx(h:Qo x):10 ∉ cd x:=by
 rcases h with rfl | h
 .exact jjg
 .exact yq h
def zu{x:List Nat}(h:10 ∉ x)(c:Int):10 ∉ ky x c:=by
 have k:∀n,10 ∉ dg n:=jld;unfold ky;split
 .exact KO rfl N5
 split
 .exact kC h (qL N5 (qL N5 (qL N5 (k _))))
 split
 .exact kC h (qL N5 (qL N5 (qL N5 (k _))))
 .exact h
def jga(hr:j5 (cd r)=true)(hx:Qo x)(d:Int):10 ∉ cd r++91 :: (ky (cd x) d++[93]):=kC (yq hr) (qL N5 (kC (zu (Yx hx) d) N5))
def je0{t:Tm}(h:Q8 t):10 ∉ qi t:=by
 cases t with
 | is x=>
  show 10 ∉ if cd x=[] then [48] else cd x
  split
  .decide
  .exact Yx h
 | at_ r x d=>exact jga h.1 h.2.1 d
def ZG{t:Tm}(h:Q8 t)(c:Int):10 ∉ zr t c:=by
 cases t with
 | is x=>exact zu (Yx h) c
 | at_ r x d=>exact zu (jga h.1 h.2.1 d) c
def jeZ{b:Bd}(h:SO b)(c:Int):10 ∉ yK b c:=by
 cases b with
 | is x=>exact zu (Yx h) c
 | row r=>exact zu (kC (yq h) N5) c
def jaQ{e:Int}(h1:Qo x)(h2:Qo y)(h3:j5 (cd r)=true):10 ∉ qK x d y e r:=kC (zu (Yx h1) d) (qL N5 (qL N5 (qL N5 (qL N5 (kC (zu (Yx h2) e) (qL N5 (yq h3)))))))
def Yy(h:Qh C):10 ∉ yl C:=by
 cases C with
 | least a b c=>exact kC (je0 h.1) (qL N5 (qL N5 (qL N5 (qL N5 (ZG h.2.1 c)))))
 | rise x d y e r=>
  obtain⟨h1,h2,h3,h4,h5⟩:=h;exact kC (a:=[114,105,115,101,32]) N5 (jaQ h1 h3 h5)
 | each x d y e r aT b c=>
  obtain⟨⟨h1,h2,h3,h4,h5⟩,h6,h7,h8⟩:=h;refine kC (a:=[101,97,99,104,32]) N5 (kC (jaQ h1 h3 h5) (qL N5 (kC ?_ (qL N5 (jeZ h7 c)))));rcases h6 with rfl | rfl <;> decide +kernel
def ZP(r:Str):Prop:=10 ∉ cd r/\r.length<=900
theorem jeL{a b:Str}{m:Nat}(ha:10 ∉ cd a)(hb:10 ∉ cd b)(la:a.length<=n)(lb:b.length<=m)(h:n+m<=900):ZP (a++b):=⟨by rw[jW];exact kC ha hb,by rw[bK];omega⟩
def jf9{m:Str}{k:Nat}(h:cd m=aS k 32):10 ∉ cd m:=by rw[h];intro z;exact absurd (Ar z) N5
variable {R:List Str}
def jho(h:∀r∈R,10 ∉ cd r):10 ∉ qE 32 (R.map cd):=by
 induction R with
 | nil=>exact jjg
 | cons r R ih=>
  have h1:=h r (aJ ..);have h2:=ih fun x hx=>h x (aH _ hx)
  cases R with
  | nil=>exact h1
  | cons s R=>exact kC h1 (qL N5 h2)
theorem jdm(hw:10 ∉ cd wd)(hl:wd.length<=8)(h:P9 (A++B))(hk:(A++B).length<=20):10 ∉ cd (ql (wd :: A) B)/\(ql (wd :: A) B).length<=198:=by
 have key:∀r∈(wd :: A)++aa ";" :: B,10 ∉ cd r/\r.length<=8:=by
  intro r hr;rcases aL.mp hr with hr | hr
  .rcases aA.mp hr with rfl | hr
   .exact⟨hw,hl⟩
   .have:=h r (cB _ hr)
    exact⟨yq this,kN this⟩
  .rcases aA.mp hr with rfl | hr
   .exact⟨N3,N3⟩
   .have:=h r (bV _ hr)
    exact⟨yq this,kN this⟩
 refine⟨by rw[YK];exact jho fun r hr=>(key r hr).1,?_⟩;have:=Ks (y:=aa " ") rfl (k:=8) fun r hr=>(key r hr).2
 refine aw this ?_;simp only[az,aM]at hk |-;omega
theorem jdJ(h:Rt S):10 ∉ cd (qo S)/\(qo S).length<=500:=by
 cases S with
 | set x t c=>
  obtain⟨h1,h2,h3⟩:=h;refine⟨?_,?_⟩
  .show 10 ∉ cd (x++aa " := "++zC t c)
   rw[jW,jW,YO];exact kC (kC (yq h1) N3) (ZG h2 c)
  .show (x++aa " := "++zC t c).length<=500
   have:=kN h1;have:=yc (JJ h2) (yf h3);have:(aa " := ").length=4:=rfl;rw[bK,bK];omega
 | put r x d t c=>
  obtain⟨h1,h2,h3,h4,h5⟩:=h;refine⟨?_,?_⟩
  .show 10 ∉ cd (r++aa "["++qp x d++aa "] := "++zC t c)
   rw[jW,jW,jW,jW,YO,yr];exact kC (kC (kC (kC (yq h1) N3) (zu (Yx h2) d)) N3) (ZG h4 c)
  .show (r++aa "["++qp x d++aa "] := "++zC t c).length<=500
   have:=kN h1;have:=qj (JE h2) (yf h3);have:=yc (JJ h4) (yf h5);have:(aa "[").length=1:=rfl;have:(aa "] := ").length=5:=rfl;rw[bK,bK,bK,bK];omega
 | any x=>
  have h:j5 (cd x)=true:=h;refine⟨?_,?_⟩
  .show 10 ∉ cd (aa "any "++x)
   rw[jW];exact kC N3 (yq h)
  .show (aa "any "++x).length<=500
   have:=kN h;have:(aa "any ").length=4:=rfl;rw[bK];omega
 | claim C=>
  have h:Qh C:=h;refine⟨?_,?_⟩
  .show 10 ∉ cd (aa "claim "++kb C)
   rw[jW,yJ];exact kC N3 (Yy h)
  .show (aa "claim "++kb C).length<=500
   have:=zc (Zj h);have:(aa "claim ").length=6:=rfl;rw[bK];omega
 | call x f as rs=>
  obtain⟨h1,h2⟩:=h;have:=jdm (wd:=aa "call") N3 N3 h1 h2;exact⟨this.1,aw this.2 N5⟩
theorem jj2{m:Str}{k:Nat}(hm:cd m=aS k 32)(hk:k<=100)(hy:10 ∉ cd y)(ly:y.length<=20)(h:Qh C):ZP (m++y++kb C):=by
 have lm:m.length=k:=by rw[<- jY,hm,ua]
 exact jeL (n:=120) (m:=400) (by rw[jW];exact kC (jf9 hm) hy) (by rw[yJ];exact Yy h) (by rw[bK];omega) (zc (Zj h)) N5
theorem jac:∀(n:Nat) {m:Str} {k:Nat},cd m=aS k 32->k+2 * n<=100->∀(l:List (Qi n)),(∀s∈l,QR n s)->∀r∈kD n m l,ZP r
 | 0,m,k,hm,hk,l,_,r,hr=>nomatch (show r∈([]:List Str) from hr)
 | n+1,m,k,hm,hk,l,h,r,hr=>by
  obtain⟨s,hs,hr⟩:=Fa.mp hr;have h:=h s hs;have dP:cd (m++aa "  ")=aS (k+2) 32:=by rw[jW,hm,show cd (aa "  ")=aS 2 32 from rfl,E7]
  have lm:m.length=k:=by rw[<- jY,hm,ua]
  have rG:∀wd:Str,10 ∉ cd wd->wd.length<=500->ZP (m++wd):=fun wd h1 h2=>jeL (jf9 hm) h1 (n:=100) N4 h2 N5
  rcases ja8 s with⟨S,rfl⟩ | ⟨a,b,c,x,y,rfl⟩ | ⟨a,b,c,ks,x,rfl⟩
  .have h:Rt S:=h
   rw[aZ.mp (show r∈[m++qo S] from hr)];exact rG _ (jdJ h).1 (jdJ h).2
  .obtain⟨f1,f2,f3⟩:=(show Qh (.least a b c)/\(∀t∈x,QR n t)/\∀t∈y,QR n t from h)
   have hr:r∈(m++aa "if "++kb (.least a b c)) :: (kD n (m++aa "  ") x++(m++aa "else") :: (kD n (m++aa "  ") y++[m++aa "end"])):=hr;rcases aA.mp hr with rfl | hr
   .exact jj2 hm N4 N3 N3 f1
   rcases aL.mp hr with hr | hr
   .exact jac n dP N4 x f2 r hr
   rcases aA.mp hr with rfl | hr
   .exact rG _ N3 N3
   rcases aL.mp hr with hr | hr
   .exact jac n dP N4 y f3 r hr
   .rw[aZ.mp hr]
    exact rG _ N3 N3
  .obtain⟨f1,f2,_,f3⟩:=(show Qh (.least a b c)/\(∀k∈ks,Qh k)/\ks.length<=20/\∀t∈x,QR n t from h)
   have hr:r∈(m++aa "while "++kb (.least a b c)) :: (ks.map (fun k=>m++aa "  keep "++kb k)++(kD n (m++aa "  ") x++[m++aa "end"])):=hr;rcases aA.mp hr with rfl | hr
   .exact jj2 hm N4 N3 N3 f1
   rcases aL.mp hr with hr | hr
   .obtain⟨C,hC,rfl⟩:=fD.mp hr
    exact jj2 hm N4 N3 N3 (f2 C hC)
   rcases aL.mp hr with hr | hr
   .exact jac n dP N4 x f3 r hr
   .rw[aZ.mp hr]
    exact rG _ N3 N3
theorem jkR{p:Pc}(h:So p)(hl:p.lv<=4):∀r∈zj p,ZP r:=by
 intro r hr;have e0:∀(y:Str) (C:Cl),10 ∉ cd y->y.length<=20->Qh C->ZP (y++kb C):=fun y C h1 h2 h3=>jeL h1 (by rw[yJ];exact Yy h3) h2 (zc (Zj h3)) N5
 unfold zj at hr;rcases aA.mp hr with rfl | hr
 .have:=jdm (wd:=aa "proc") N3 N3 h.hd h.hl
  exact⟨this.1,aw this.2 N5⟩
 rcases aL.mp hr with hr | hr
 .obtain⟨C,hC,rfl⟩:=fD.mp hr
  exact e0 _ _ N3 N3 (h.nd C hC)
 rcases aL.mp hr with hr | hr
 .obtain⟨C,hC,rfl⟩:=fD.mp hr
  exact e0 _ _ N3 N3 (h.gv C hC)
 rcases aL.mp hr with hr | hr
 .exact jac p.lv (k:=2) rfl N4 p.bd h.bd r hr
 .rw[aZ.mp hr]
  exact⟨N3,N3⟩
def jkQ{ps:List Pc}(h:∀p∈ps,So p/\p.lv<=4):∀r∈kR ps,ZP r:=by intro r hr;obtain⟨p,hp,hr⟩:=Fa.mp hr;exact jkR (h p hp).1 (h p hp).2 r hr
def jie(k:Nat):km (aS k 32)=[]:=by
 unfold km;have:∀k:Nat,(aS k 32).dropWhile (· == 32)=[]:=by
  intro k;induction k with
  | zero=>rfl
  | succ k ih=>rw[iZ,ui,PP (show ((32:Nat) == 32)=true from rfl),ih]
 rw[this];rfl
theorem jcP(w:Int)(n:Dl)(h:0 < xs.length):qY xs (jk w n (xs.length:Nat)).1∈xs:=zk (jN w n N4) (jL w n N4)
def jjl(e:Int):0 < JL e/\JL e<=5:=by unfold JL;split <;> exact⟨N5,N5⟩
def jjm(e:Int):0 < Kl e/\Kl e<=6:=by unfold Kl;split <;> exact⟨N5,N5⟩
theorem Zh{xs rs:List Str}(h:P9 xs)(hr:P9 rs)(L:List (Int×Dl)):∀m,(qa xs rs L m).1.length=m/\∀C∈(qa xs rs L m).1,Qh C
 | 0=>⟨rfl,fun _ h=>(nomatch h)⟩
 | m+1=>by
  obtain⟨h1,h2⟩:=Zh h hr L m;refine⟨?_,fun C hC=>?_⟩
  .show (_++[_]).length=_
   rw[az,h1];rfl
  .rcases aL.mp (show C∈(qa xs rs L m).1++[_] from hC) with hC | hC
   .exact h2 C hC
   .rw[aZ.mp hC];exact jgB h hr _ _
theorem jke(w:Int){xs:List Str}(h:0 < xs.length)(n:Dl):∀i,∀x∈(yi w xs n i).1,x∈xs
 | 0,x,hx=>(nomatch hx)
 | i+1,x,hx=>by
  rcases aL.mp (show x∈(yi w xs n i).1++[_] from hx) with hx | hx
  .exact jke w h n i x hx
  .rw[aZ.mp hx];exact jcP _ _ h
theorem jiC(w:Int)(rs:List Str)(n:Dl):∀i,i<=rs.length->(∀x∈(qy w rs n i).1,x∈rs)/\∀x∈(qy w rs n i).2.2,x∈rs
 | 0,_=>⟨fun _ h=>(nomatch h),fun _ h=>h⟩
 | i+1,h=>by
  obtain⟨-,h2⟩:=KK w rs n i N4;obtain⟨i1,i2⟩:=jiC w rs n i N4;show (∀x∈(qy w rs n i).1++[_],x∈rs)/\∀x∈(qy w rs n i).2.2.eraseIdx _,x∈rs;refine⟨fun x hx=>?_,fun x hx=>i2 x (List.mem_of_mem_eraseIdx hx)⟩;rcases aL.mp hx with hx | hx
  .exact i1 x hx
  .rw[aZ.mp hx]
   exact i2 _ (jcP _ _ N4)
structure Rx(xs fr rs:List Str)(Et:List Hd):Prop where
 f0:0 < fr.length
 fx:∀x∈fr,x∈xs
 x0:0 < xs.length
 hd:∀h∈Et,h.2.1<=4/\h.2.2<=3
 hn:∀h∈Et,j5 (cd h.1)=true
 xn:P9 xs
 rn:P9 rs
variable {Et:List Hd}
theorem jm0{fr:List Str}(F:Rx xs fr rs Et)(w:Int)(n:Dl)(hx:x∈fr):Rt (Sz w n x xs rs Et).1:=by
 have fL:=F.xn x (F.fx x hx);unfold Sz;dsimp only;split
 .exact⟨fL,.inr fL,by unfold QB;decide⟩
 rename_i h0;have hj:(jk w n ((Jq rs Et).length:Nat)).1.toNat < (Jq rs Et).length:=by have lo:=jN w n (m:=((Jq rs Et).length:Nat)) N4;have hi:=jL w n (m:=((Jq rs Et).length:Nat)) N4;omega
 have hm:(Jq rs Et).getD (jk w n ((Jq rs Et).length:Nat)).1.toNat ("",0,0)∈Jq rs Et:=by rw[eI,aP hj];exact cH hj
 generalize (Jq rs Et).getD (jk w n ((Jq rs Et).length:Nat)).1.toNat ("",0,0)=h at *;generalize (jk w n ((Jq rs Et).length:Nat)).2=n2 at *;obtain⟨fO,dP⟩:=pV.mp hm;have dP:h.2.2<=rs.length:=PK dP;obtain⟨b1,b2⟩:=F.hd h fO;have al:=ZN w xs n2 h.2.1;have ai:=jke w F.x0 n2 h.2.1;generalize yi w xs n2 h.2.1=as at *;obtain⟨pl,-⟩:=KK w rs as.2 h.2.2 dP;have pp:=(jiC w rs as.2 h.2.2 dP).1;generalize qy w rs as.2 h.2.2=q at *;refine⟨fun y hy=>?_,?_⟩
 .rcases aL.mp (show y∈(x :: h.1 :: as.1)++q.1 from hy) with hy | hy
  .rcases aA.mp hy with rfl | hy
   .exact fL
   rcases aA.mp hy with rfl | hy
   .exact F.hn h fO
   .exact F.xn y (ai y hy)
  .exact F.rn y (pp y hy)
 .show ((x :: h.1 :: as.1)++q.1).length<=20
  rw[az,aM,aM];omega
def RO(lv:Nat)(l:List (Qi lv))(a b:Nat):Prop:=(∀s∈l,QR lv s)/\∀m,(kD lv m l).length+8 * a<=8 * b
variable {lv:Nat}
def jcS{s:Qi (lv+1)}{a b:Nat}(h:QR (lv+1) s)(k:∀m,(kD (lv+1) m [s]).length+8 * a<=8 * b):RO (lv+1) [s] a b:=⟨fun t ht=>by rw[aZ.mp ht];exact h,k⟩
theorem Kk{a:Nat}(h:Rt S):RO (lv+1) [(Fo.leaf S:Fo (Qi lv))] a (a+1):=jcS h fun m=>by show 1+8 * a<=8 * (a+1);omega
section
variable {fr:List Str}
theorem jmQ(F:Rx xs fr rs Et){bf:Q3->List (Qi lv)×Q3}(hb:∀S,RO lv (bf S).1 (bf S).2.2 S.2)(L:List (Int×Dl))(left:Nat)(w:Int)(n:Dl)(f:Int)(hx:x∈fr):RO (lv+1) [(Sh lv bf xs rs Et L left w n f x).1] (Sh lv bf xs rs Et L left w n f x).2.2 (left+1):=by
 have fL:=F.xn x (F.fx x hx);have ls:Qh (.least (lsA w n xs rs) (lsB w n xs rs) (lsC w n xs rs)):=jgf F.xn F.rn w n;unfold Sh;split
 .rename_i h
  exact Kk ⟨Kg F.rn h.2 _ _,(zE F.xn _ _).1,(zE F.xn _ _).2,jas F.xn F.rn _ _,Y3 _ _⟩
 split
 .exact Kk fL
 split
 .exact Kk (jgB F.xn F.rn _ _)
 split
 .obtain⟨b1,b2⟩:=hb (L,left)
  obtain⟨c1,c2⟩:=hb (bf (L,left)).2;refine jcS ⟨ls,b1,c1⟩ fun m=>?_
  have b2:=b2 (m++aa "  ");have c2:=c2 (m++aa "  ");show ((_ :: (kD lv (m++aa "  ") (bf (L,left)).1++_ :: (kD lv (m++aa "  ") (bf (bf (L,left)).2).1++[_])))++[]).length+8 * (bf (bf (L,left)).2).2.2<=_;simp only[az,aM,cZ];dsimp only at b2 c2;omega
 split
 .have hm:(jk w (jk w (zS w n xs rs).2 4).2 (if (jk w (zS w n xs rs).2 4).1 / 3=0 then 3 else 7)).1.toNat<=6:=by
   have key:∀mm:Int,0 < mm->mm<=7->(jk w (jk w (zS w n xs rs).2 4).2 mm).1.toNat<=6:=fun mm h1 h2=>by have:=jL w (jk w (zS w n xs rs).2 4).2 h1;omega
   exact key _ (by split <;> decide) (by split <;> decide)
  dsimp only;generalize (jk w (jk w (zS w n xs rs).2 4).2 (if (jk w (zS w n xs rs).2 4).1 / 3=0 then 3 else 7)).1.toNat=k at *;obtain⟨k1,k2⟩:=Zh F.xn F.rn L k;obtain⟨b1,b2⟩:=hb ((qa xs rs L k).2,left);refine jcS ⟨ls,k2,N4,b1⟩ fun m=>?_
  have b2:=b2 (m++aa "  ");show ((_ :: ((qa xs rs L k).1.map _++(kD lv (m++aa "  ") (bf ((qa xs rs L k).2,left)).1++[_])))++[]).length+8 * (bf ((qa xs rs L k).2,left)).2.2<=_;simp only[az,aM,cZ,av];dsimp only at b2;omega
 split
 .exact Kk (jm0 F _ _ hx)
 .exact Kk ⟨fL,jas F.xn F.rn _ _,Y3 _ _⟩
def jme(F:Rx xs fr rs Et){bf:Q3->List (Qi lv)×Q3}(hb:∀S,RO lv (bf S).1 (bf S).2.2 S.2)(L:List (Int×Dl)){left:Nat}(h:0 < left):RO (lv+1) [(qH lv bf xs fr rs Et L left).1] (qH lv bf xs fr rs Et L left).2.2 left:=by have:=jmQ F hb (qI L).2 (left - 1) (qI L).1.1 (jk (qI L).1.1 (jk (qI L).1.1 (qI L).1.2 8).2 (fr.length:Nat)).2 (jk (qI L).1.1 (qI L).1.2 8).1 (jcP (qI L).1.1 (jk (qI L).1.1 (qI L).1.2 8).2 F.f0);rw[OJ h]at this;exact this
theorem jju{lv:Nat}{f:List (Int×Dl)->Nat->Qi (lv+1)×Q3}(hf:∀L left,0 < left->RO (lv+1) [(f L left).1] (f L left).2.2 left)(L:List (Int×Dl))(left:Nat):∀k,RO (lv+1) (kY f L left k).1 (kY f L left k).2.2 left
 | 0=>⟨fun _ h=>(nomatch h),fun m=>by show 0+8 * left<=8 * left;omega⟩
 | k+1=>by
  obtain⟨h1,h2⟩:=jju hf L left k;have es:kY f L left (k+1)=if 0 < (kY f L left k).2.1.length/\0 < (kY f L left k).2.2 then ((kY f L left k).1++[(f (kY f L left k).2.1 (kY f L left k).2.2).1],(f (kY f L left k).2.1 (kY f L left k).2.2).2) else kY f L left k:=rfl
  rw[es];split
  .rename_i c
   obtain⟨g1,g2⟩:=hf (kY f L left k).2.1 (kY f L left k).2.2 c.2;refine⟨fun s hs=>(aL.mp hs).elim (h1 s) (g1 s),fun m=>?_⟩;have h2:=h2 m;have g2:=g2 m;have e:kD (lv+1) m ((kY f L left k).1++[(f (kY f L left k).2.1 (kY f L left k).2.2).1])=kD (lv+1) m (kY f L left k).1++kD (lv+1) m [(f (kY f L left k).2.1 (kY f L left k).2.2).1]:=Aq;dsimp only;rw[e,az];omega
  .exact⟨h1,h2⟩
theorem jj8(F:Rx xs fr rs Et):∀(lv:Nat) (S:Q3),RO lv (qk xs fr rs Et lv S).1 (qk xs fr rs Et lv S).2.2 S.2
 | 0,S=>⟨fun _ h=>(nomatch h),fun m=>by show 0+8 * S.2<=8 * S.2;omega⟩
 | lv+1,S=>jju (fun L left h=>jme F (jj8 F lv) L h) _ _ _
end
theorem jai(w:Int)(n:Dl){tk:List Str}(h:Qe tk):∀i,tk.length+i<=26->(ko w n tk i).1.length=i/\P9 (ko w n tk i).1/\Qe (tk++(ko w n tk i).1)
 | 0,_=>⟨rfl,fun _ z=>(nomatch z),by show Qe (tk++[]);rw[bE];exact h⟩
 | i+1,hi=>by
  obtain⟨h1,h2,h3⟩:=jai w n h i N4;obtain⟨k1,k2⟩:=h3.name (by rw[az];omega) w (ko w n tk i).2;show ((ko w n tk i).1++[_]).length=_/\P9 ((ko w n tk i).1++[_])/\Qe (tk++((ko w n tk i).1++[_]));refine⟨by rw[az,h1];rfl,fun z hz=>?_,by rw[<- bq];exact k2⟩;rcases aL.mp hz with hz | hz
  .exact h2 z hz
  .rw[aZ.mp hz];exact k1
theorem jgm(w:Int)(n:Dl){tk:List Str}(h:Qe tk):∀i,tk.length+i<=26->(j8 w n tk i).1.length=i/\P9 ((j8 w n tk i).1.map (·.1))/\Qe (tk++(j8 w n tk i).1.map (·.1))
 | 0,_=>⟨rfl,fun _ z=>(nomatch z),by show Qe (tk++[]);rw[bE];exact h⟩
 | i+1,hi=>by
  obtain⟨h1,h2,h3⟩:=jgm w n h i N4;obtain⟨k1,k2⟩:=h3.name (by rw[az,av];omega) w (j8 w n tk i).2;show ((j8 w n tk i).1++[_]).length=_/\P9 (((j8 w n tk i).1++[_]).map fun x:Hd=>x.1)/\Qe (tk++((j8 w n tk i).1++[_]).map fun x:Hd=>x.1);rw[bj];refine⟨by rw[az,h1];rfl,fun z hz=>?_,by rw[<- bq];exact k2⟩;rcases aL.mp hz with hz | hz
  .exact h2 z hz
  .rw[aZ.mp hz];exact k1
def jiN:j5 (cd (aa "out"))=true:=N3
def jcW(h:P9 xs)(k:P9 ys):P9 (xs++ys):=fun x hx=>(aL.mp hx).elim (h x) (k x)
def jaR(h:j5 (cd x)=true)(k:P9 ys):P9 (x :: ys):=fun y hy=>(aA.mp hy).elim (fun e=>by rw[e];exact h) (k y)
structure PcG(p:Pc):Prop where
 f:So p
 l:p.lv=4
 n:(zj p).length<=260
theorem jmp(hh:∀h∈Et,h.2.1<=4/\h.2.2<=3)(hn:∀h∈Et,j5 (cd h.1)=true){h:Hd}(hm:h∈Et)(L:List (Int×Dl)):PcG (SG Et h L).1:=by
 unfold SG;dsimp only;generalize qI L=y;obtain⟨⟨w,n⟩,L2⟩:=y;dsimp only;obtain⟨m1,m2⟩:=hh h hm;have uA:jO.length=16:=rfl;obtain⟨p1,p2,p3⟩:=jai w n tk0 h.2.1 N4;generalize ko w n jO h.2.1=ps at *;have uy:(jO++ps.1).length=16+h.2.1:=by rw[az,p1];rfl
 obtain⟨r1,r2,r3⟩:=jai w ps.2 p3 h.2.2 N4;generalize ko w ps.2 (jO++ps.1) h.2.2=rs at *;have FI:(jO++ps.1++rs.1).length=16+h.2.1+h.2.2:=by rw[az,uy,r1]
 have lo:=jN w rs.2 (m:=4) N5;have hi:=jL w rs.2 (m:=4) N5;generalize jk w rs.2 4=e at *;obtain⟨f1,f2,f3⟩:=jai w e.2 r3 e.1.toNat N4;generalize ko w e.2 (jO++ps.1++rs.1) e.1.toNat=fs at *;generalize jk w fs.2 4=mo at *;obtain⟨oz,GG⟩:=jjl mo.1;generalize JL mo.1=most at *;have iK:=jL w mo.2 oz;have bX:=jL w (jk w mo.2 most).2 oz;generalize jk w (jk w mo.2 most).2 most=b at *;generalize jk w mo.2 most=a at *;obtain⟨n1,n2⟩:=Zh p2 r2 L2 a.1.toNat;generalize qa ps.1 rs.1 L2 a.1.toNat=nd at *;obtain⟨g1,g2⟩:=Zh (jcW p2 (jaR jiN fun x (z:x∈([]:List Str))=>nomatch z)) r2 nd.2 b.1.toNat;generalize qa (ps.1++[aa "out"]) rs.1 nd.2 b.1.toNat=gv at *;have F:Rx (ps.1++aa "out" :: fs.1) (aa "out" :: fs.1) rs.1 Et:=⟨by rw[aM];omega,fun x hx=>aL.mpr (.inr hx),by rw[az,aM];omega,hh,hn,jcW p2 (jaR jiN f2),r2⟩
 obtain⟨b1,b2⟩:=jj8 F 4 (gv.2,30);refine⟨⟨jcW (jaR (hn h hm) p2) r2,?_,n2,g2,?_,?_,b1⟩,rfl,?_⟩
 .show (h.1 :: ps.1++rs.1).length<=20
  rw[az,aM];omega
 .show nd.1.length<=20
  omega
 .show gv.1.length<=20
  omega
 .have b2:=b2 (aa "  ")
  unfold zj;simp only[az,aM,cZ,av];dsimp only at b2 |-;omega
theorem jf3{Et:List Hd}(hh:∀h∈Et,h.2.1<=4/\h.2.2<=3)(hn:∀h∈Et,j5 (cd h.1)=true)(L:List (Int×Dl)):∀i,i<=Et.length->(yX Et L i).1.length=i/\∀p∈(yX Et L i).1,PcG p
 | 0,_=>⟨rfl,fun _ h=>(nomatch h)⟩
 | i+1,hi=>by
  obtain⟨h1,h2⟩:=jf3 hh hn L i N4;have cM:i < Et.length:=hi;have e:Et.getD i ("",0,0)=Et[i]:=by rw[eI,aP cM];rfl
  have k1:=jmp hh hn (h:=Et.getD i ("",0,0)) (by rw[e];exact cH cM) (yX Et L i).2;show ((yX Et L i).1++[_]).length=_/\∀p∈(yX Et L i).1++[_],PcG p;refine⟨by rw[az,h1];rfl,fun p hp=>?_⟩;rcases aL.mp hp with hp | hp
  .exact h2 p hp
  .rw[aZ.mp hp];exact k1
theorem jhz(ns:List Int)(m:Nat):(1<=(zZ ns m).length/\(zZ ns m).length<=6)/\(∀h∈zZ ns m,j5 (cd h.1)=true)/\∀h∈zZ ns m,h.2.1<=4/\h.2.2<=3:=by unfold zZ;dsimp only;generalize qI (Ja ns m)=y;obtain⟨oz,GG⟩:=jjm (jk y.1.1 y.1.2 4).1;generalize Kl (jk y.1.1 y.1.2 4).1=most at *;have lo:=jN y.1.1 (jk y.1.1 y.1.2 4).2 oz;have hi:=jL y.1.1 (jk y.1.1 y.1.2 4).2 oz;generalize jk y.1.1 (jk y.1.1 y.1.2 4).2 most=c at *;have uA:jO.length=16:=rfl;obtain⟨h1,-,-,-,h5⟩:=KQ y.1.1 c.2 Sc zG (1+c.1).toNat N4;obtain⟨-,h2,-⟩:=jgm y.1.1 c.2 tk0 (1+c.1).toNat N4;exact⟨⟨N4,N4⟩,fun h hh=>h2 h.1 (fD.mpr ⟨h,hh,rfl⟩),h5⟩
def jmo(ns:List Int)(m:Nat):(1<=(Sf ns m).length/\(Sf ns m).length<=6)/\∀p∈Sf ns m,PcG p:=by obtain⟨h1,h2,h3⟩:=jhz ns m;obtain⟨k1,k2⟩:=jf3 h3 h2 (qI (Ja ns m)).2 (zZ ns m).length (aK _);exact⟨by rw[show (Sf ns m).length=(zZ ns m).length from k1];exact h1,k2⟩
theorem jiw{ps:List Pc}(h:∀p∈ps,PcG p):(kR ps).length<=ps.length * 260:=by
 induction ps with
 | nil=>exact aK _
 | cons p ps ih=>
  have h1:=(h p (aJ ..)).n;have h2:=ih fun q hq=>h q (aH _ hq)
  show (zj p++kR ps).length<=_;rw[az,aM,Ab];omega
def qU:List Nat->List (List Nat)
 | []=>[[]]
 | c :: l=>if c=32 then [] :: qU l else match qU l with
  | []=>[[c]]
  | w :: ws=>(c :: w) :: ws
def Zp(l:List Nat):qU l≠[]:=by
 cases l with
 | nil=>simp[qU]
 | cons c l=>
  unfold qU;split
  .simp
  .split <;> simp
theorem JQ:∀l:List Nat,qE 32 (qU l)=l/\∀r∈qU l,32 ∉ r
 | []=>⟨rfl,fun r hr=>by rw[aZ.mp (show r∈[[]] from hr)];exact fun z=>nomatch z⟩
 | c :: l=>by
  obtain⟨h1,h2⟩:=JQ l;have hn:=Zp l;unfold qU;by_cases hc:c=32
  .rw[PP hc]
   refine⟨?_,fun r hr=>(aA.mp hr).elim (fun e=>by rw[e];exact fun z=>nomatch z) (h2 r)⟩
   cases e:qU l with
   | nil=>exact absurd e hn
   | cons w ws=>
    rw[e]at h1;show []++32 :: qE 32 (w :: ws)=_;rw[h1,hc];rfl
  .rw[PN hc]
   cases e:qU l with
   | nil=>exact absurd e hn
   | cons w ws=>
    rw[e]at h1 h2;dsimp only;refine⟨?_,fun r hr=>?_⟩
    .cases ws with
     | nil=>show c :: w=_;rw[<- h1];rfl
     | cons v vs=>show (c :: w)++32 :: qE 32 (v :: vs)=_;rw[<- h1];rfl
    .rcases aA.mp hr with rfl | hr
     .intro z
      rcases aA.mp z with z | z
      .exact hc z.symm
      .exact h2 w (aJ ..) z
     .exact h2 r (aH _ hr)
def ZR(z:Str):Txt.split z (aa " ")=(qU (cd z)).map mS:=by
 obtain⟨h1,h2⟩:=JQ (cd z);have e:z=cA (aa " ") ((qU (cd z)).map mS):=by refine JH ?_;rw[JG (c:=32) rfl,O6,show cd ∘ mS=id from funext kS,List.map_id,h1]
 conv=>lhs;rw[e]
 refine Ya (c:=32) rfl (by simp[Zp]) fun r hr=>?_
 obtain⟨s,hs,rfl⟩:=fD.mp hr;rw[kS];exact h2 s hs
def jif(z:Str):∃ws,Txt.split z (aa " ")=mS (OC [32] (cd z)).1 :: ws:=by
 rw[ZR];obtain⟨h1,h2⟩:=JQ (cd z)
 cases e:qU (cd z) with
 | nil=>exact absurd e (Zp _)
 | cons w ws=>
  rw[e]at h1 h2;have hw:=h2 w (aJ ..);refine⟨ws.map mS,?_⟩;rw[bn,<- h1]
  cases ws with
  | nil=>rw[show qE 32 [w]=w from rfl,ZB hw]
  | cons v vs=>rw[show qE 32 (w :: v :: vs)=w++32 :: qE 32 (v :: vs) from rfl,qC _ _ hw]
def jaf(k:Nat)(ws:List Str):Bool:=decide (zR∈ws) && (q8 ws).1.all Rn && (q8 ws).2.all Rn && decide (k<=(q8 ws).1.length)
def jbP{k:Nat}(h:jaf k ((qU (cd z)).map mS)=false):zF k z=none:=by
 unfold zF;rw[ZR];generalize (qU (cd z)).map mS=ws at *;unfold jaf at h;split
 .rename_i h1
  split
  .rename_i h2
   split
   .rename_i h3
    split
    .rename_i h4
     rw[PL h1,h2,h3,PL h4]at h
     cases h
    .rfl
   .rfl
  .rfl
 .rfl
def Sv:List (Str×Qx×(Str->Bool)):=[("proc",ZW,fun z=>!jaf 1 ((qU (cd z)).map mS)),("need",Y9,fun z=>(qh (cd z)).isNone),("give",Zb,fun z=>(qh (cd z)).isNone),("keep",Za,fun z=>(qh (cd z)).isNone),("back",Zd,fun z=>!decide (z=aa "")),("any",Sw,fun z=>!j5 (cd z)),("claim",YA,fun z=>(qh (cd z)).isNone),("call",Sj,fun z=>!jaf 2 ((qU (cd z)).map mS)),("if",RW,fun z=>(zg (cd z)).isNone),("while",Ku,fun z=>(zg (cd z)).isNone),("else",Zc,fun z=>!decide (z=aa "")),("end",Rz,fun z=>!decide (z=aa ""))]
def jlC:∀p∈Sv,∀z,p.2.2 z=true->∀fs,p.2.1 fs z=none:=by
 have n:∀{α:Type} {o:Option α},o.isNone=true->o=none:=fun h=>OF.mp h
 intro p hp;simp only[Sv,aA,fC,or_false]at hp;rcases hp with rfl | rfl | rfl | rfl | rfl | rfl | rfl | rfl | rfl | rfl | rfl | rfl <;> intro z h fs <;> cases fs with
 | nil=>first | rfl | (simp only[fG]at h;simp only[ZW,jbP h];rfl)
 | cons F fs=>first | rfl | (simp only[Y9,Zb,Za,YA,RW,Ku,n h,OE,ite_self]) | (simp only[fG]at h;first | (simp only[Sj,jbP h];rfl) | (simp only[Sw,h];rfl) | (simp only[Zd,Zc,Rz,h,Bool.and_false];rfl))
def jmd(z:Str):Bool:=match Sv.find? fun p=>p.1 == mS (OC [32] (cd z)).1 with
 | some p=>p.2.2 (mS (OC [32] (cd z)).2)
 | none=>(zf (OC [32,58,61,32] (cd z)).1).isNone || (JK (OC [32,58,61,32] (cd z)).2).isNone
def jhL(x:Str):JM x=(Sv.find? fun p=>p.1 == x).map (·.2.1):=by
 have:∀L:List (Str×Qx×(Str->Bool)),(L.map fun p=>(p.1,p.2.1)).lookup x=(L.find? fun p=>p.1 == x).map (·.2.1):=by
  intro L;induction L with
  | nil=>rfl
  | cons p L ih=>
   rw[bn,gj,iu,show (x == p.1)=(p.1 == x) from BEq.comm]
   cases p.1 == x with
   | true=>rfl
   | false=>exact ih
 exact this Sv
def jmc(h:jmd z=true)(fs:List Fr):JO fs z=none:=by
 unfold jmd at h;unfold JO;rw[jhL]
 cases e:Sv.find? fun p=>p.1 == mS (OC [32] (cd z)).1 with
 | some p=>
  rw[e]at h;exact jlC p (List.mem_of_find?_eq_some e) _ h fs
 | none=>
  rw[e]at h;rcases Au _ _ ▸ h with h | h
  all_goals
   have h:=OF.mp h
   cases fs with
   | nil=>rfl
   | cons F fs=>
    simp only[OE,ja2,h]
    try (cases zf (OC [32,58,61,32] (cd z)).1 <;> rfl)
def jlD(z:Str):Bool:=(km (cd z) == cd z) && !(cd z).isEmpty && jmd z && !(cd z).contains 10 && decide (z.length<=900)
structure RG(r:Str)(t:Tk):Prop where
 ne:km (cd r)≠[]
 g:∀fs,JO fs (mS (km (cd r)))=jz t fs
 ok:ZP r
def jgD(h:jlD z=true):RG z .bad:=by
 unfold jlD at h;simp only[bg,beq_iff_eq,fG,decide_eq_true_eq]at h;obtain⟨⟨⟨⟨h1,h2⟩,h3⟩,h4⟩,h5⟩:=h;refine⟨(by rw[h1];intro e;rw[e]at h2;cases h2),fun fs=>by rw[h1,qc];exact (jmc h3 fs).trans (by cases fs <;> rfl),fun z=>?_,h5⟩;rw[uj.mpr z]at h4
 cases h4
def jhm:List Str:=["x","x :=","x := 1 2","x  := 1","x := 01","x := -0","x := y + 0","x := y + -1","x := y +1"]
def jnL:List Str:=["x := 12345678901234567890","X := 1","abcdefghi := 1","to := 1","x1 := 1","5 := 1"]
def jnK:List Str:=["r[ x] := 1","r[x+1] := 1","r[] := 1","r[x := 1","x := s[]","any","any x y","claim x"]
def jnJ:List Str:=["claim 5 >= x","claim x + 1 >= y","claim each 0 to 5 r > x","claim rise 0 5 r","if x >= 0 else"]
def jnI:List Str:=["while rise 0 to 1 r","call x f a","call x ; r","proc f x","proc f ; r ; s"]
def jnH:List Str:=["x := 0 + 5","claim x >= 3 - 1","r[0 + 1] := 2","claim each 0 + 1 to 5 r >= 0"]
def jnG:List Str:=["x := +1","x := 1_0","x := y - 0","r[x - 0] := 1","call x f 5 ; r","call 5 f y ; r"]
def jnF:List Str:=["any 5","call x 5 y ; r","call x f a  b ; r","call x f y ; 5","call x f ; to","call x to ; r"]
def jnE:List Str:=["proc f to ; r","proc f X ; r","proc f x ; 5","proc 5 ; r","proc f x  y ;","proc f"]
def jnD:List Str:=["call x f","x = 1","x := 1 ;","call x f , r","end x","claim","if","while x"]
def jlW:List Str:=["else x","call x f ;;","x := y + 1_0","any x ;","r[x] := 1 2","claim x >= 1 1"]
def ZF:List Str:=(((((((((jhm++jnL)++jnK)++jnJ)++jnI)++jnH)++jnG)++jnF)++jnE)++jnD)++jlW
def yC:List Str:=X5
def RU(w:Str):List Str:=[w++aa " := 1",aa "x := "++w,aa "any "++w,aa "x := "++w++aa "[1]"]
def jmE:ZF.all jlD=true:=N3
def jkK:(yC.flatMap RU).all jlD=true:=N3
def jmD(h:z∈ZF):RG z .bad:=jgD (c_.mp jmE z h)
def jkJ{w:Str}(hw:w∈yC)(h:z∈RU w):RG z .bad:=jgD (c_.mp jkK z (Fa.mpr ⟨w,hw,h⟩))
def Zi:∃C,qh (cd (aa "x >= 0"))=some C:=pT.mp N3
def QX.rg{t:Tk}(h:QX r t)(k:ZP r):RG r t:=⟨h.ne,h.g,k⟩
def jiy(t:Tk):Str:=PX t++aa " x >= 0"
def jmn{t:Tk}(h:t=.keep\/t=.need\/t=.give):RG (jiy t) t:=by
 have e:∀wd:Str,cd (wd++aa " x >= 0")=aS 0 32++(cd wd++32 :: cd (aa "x >= 0")):=fun wd=>by rw[jW];rfl
 have he:P0 (cd (aa "x >= 0")):=⟨48,cd (aa "x >= "),N3,N5⟩
 obtain⟨C,Zi⟩:=Zi;rcases h with rfl | rfl | rfl
 .exact (yo (t:=.keep) (g:=Za) nofun nofun nofun N3 rfl (e _) he (fun fs=>by rw[qc];exact jjD Zi fs) N3).rg ⟨N3,N3⟩
 .exact (yo (t:=.need) (g:=Y9) nofun nofun nofun N3 rfl (e _) he (fun fs=>by rw[qc];exact jjC Zi fs) N3).rg ⟨N3,N3⟩
 .exact (yo (t:=.give) (g:=Zb) nofun nofun nofun N3 rfl (e _) he (fun fs=>by rw[qc];exact jjE Zi fs) N3).rg ⟨N3,N3⟩
def jlm{t:Tk}(h:t=.els\/t=.fin\/t=.back):RG (aa "  "++PX t) t:=by
 have e:∀wd:Str,32 ∉ cd wd->cd wd≠[]->km (cd (aa "  "++wd))=cd wd:=fun wd h1 h2=>by have:=YR (jbU h1 h2) 2 0;rw[OY,bE]at this;rw[jW];exact this
 have key:∀{t:Tk} {g:Qx},cd (PX t)≠[]->JM (PX t)=some g->(∀fs,g fs (aa "")=jz t fs)->ZP (aa "  "++PX t)->RG (aa "  "++PX t) t:=fun {t g} h1 h2 h3 h4=>⟨by rw[e _ YL h1];exact h1,fun fs=>by rw[e _ YL h1,qc,jbe h2 YL];exact h3 fs,h4⟩
 rcases h with rfl | rfl | rfl
 .exact key (g:=Zc) N3 rfl jjG ⟨N3,N3⟩
 .exact key (g:=Rz) N3 rfl jjF ⟨N3,N3⟩
 .exact key (g:=Zd) N3 rfl jjH ⟨N3,N3⟩
def Qp:List Str->List Tk->Prop
 | [],[]=>True
 | r :: R,t :: T=>RG r t/\Qp R T
 | _,_=>False
theorem Qp.app:∀{A B:List Str} {S T:List Tk},Qp A S->Qp B T->Qp (A++B) (S++T)
 | [],_,[],_,_,k=>k
 | _ :: _,_,_ :: _,_,h,k=>⟨h.1,Qp.app h.2 k⟩
 | [],_,_ :: _,_,h,_=>h.elim
 | _ :: _,_,[],_,h,_=>h.elim
theorem QY.rg:∀{R:List Str} {T:List Tk},QY R T->(∀r∈R,ZP r)->Qp R T
 | [],[],_,_=>True.intro
 | r :: _,_ :: _,h,k=>⟨h.1.rg (k r (aJ ..)),QY.rg h.2 fun x hx=>k x (aH _ hx)⟩
 | [],_ :: _,h,_=>h.elim
 | _ :: _,[],h,_=>h.elim
theorem Qp.ok:∀{R:List Str} {T:List Tk},Qp R T->∀r∈R,ZP r
 | [],_,_,_,h=>nomatch h
 | r :: _,_ :: _,h,x,hx=>(aA.mp hx).elim (fun e=>by rw[e];exact h.1.ok) (Qp.ok h.2 x)
 | _ :: _,[],h,_,_=>h.elim
theorem Qp.take:∀{R:List Str} {T:List Tk} (k:Nat),Qp R T->Qp (R.take k) (T.take k)
 | _,_,0,_=>True.intro
 | [],[],_+1,_=>True.intro
 | _ :: _,_ :: _,k+1,h=>⟨h.1,Qp.take k h.2⟩
 | [],_ :: _,_+1,h=>h.elim
 | _ :: _,[],_+1,h=>h.elim
theorem Qp.drop:∀{R:List Str} {T:List Tk} (k:Nat),Qp R T->Qp (R.drop k) (T.drop k)
 | _,_,0,h=>h
 | [],[],_+1,_=>True.intro
 | _ :: _,_ :: _,k+1,h=>Qp.drop k h.2
 | [],_ :: _,_+1,h=>h.elim
 | _ :: _,[],_+1,h=>h.elim
theorem QY.len:∀{R:List Str} {T:List Tk},QY R T->R.length=T.length
 | [],[],_=>rfl
 | _ :: _,_ :: _,h=>PR Nat.succ (QY.len h.2)
 | [],_ :: _,h=>h.elim
 | _ :: _,[],h=>h.elim
theorem QY.at_:∀{R:List Str} {T:List Tk},QY R T->∀(k:Nat) (h1:k < R.length) (h2:k < T.length),QX R[k] T[k]
 | _ :: _,_ :: _,h,0,_,_=>h.1
 | _ :: _,_ :: _,h,k+1,h1,h2=>QY.at_ h.2 k (Ae h1) (Ae h2)
 | [],_ :: _,h,_,_,_=>h.elim
 | _ :: _,[],h,_,_,_=>h.elim
inductive NE:Nat->List Str->List Str->List Nat->Prop
 | nil {n:Nat}:NE n [] [] []
 | row {n:Nat} {r s:Str} {R T:List Str} {N:List Nat} (e:km (cd s)=km (cd r)) (h:NE (n+1) R T N):NE n (r :: R) (s :: T) (n :: N)
 | bl {n:Nat} {s:Str} {R T:List Str} {N:List Nat} (e:km (cd s)=[]) (h:NE (n+1) R T N):NE n R (s :: T) N
variable {N:List Nat}
def NE.app{C D:List Str}{M:List Nat}(h:NE n A B N)(k:NE (n+B.length) C D M):NE n (A++C) (B++D) (N++M):=by
 induction h with
 | nil=>exact k
 | @row n r s R T N e _ ih=>exact .row e (ih (by rw[OP,Ah 1];exact k))
 | @bl n s R T N e _ ih=>exact .bl e (ih (by rw[OP,Ah 1];exact k))
theorem jeP{T:List Str}(h:NE n R T N):∀{TB:List Tk} (fs:List Fr),Qp R TB->zN n fs T=(j4 TB fs).map fun i=>(N++[n+T.length]).getD i 0:=by
 induction h with
 | nil=>
  intro TB fs k
  cases TB with
  | cons _ _=>exact k.elim
  | nil=>
   unfold zN j4;split <;> rfl
 | @row n r s R T N e _ ih=>
  intro TB fs k
  cases TB with
  | nil=>exact k.elim
  | cons t TB=>
   unfold zN j4;rw[e,PN k.1.ne,k.1.g]
   cases jz t fs with
   | none=>rfl
   | some gs=>
    dsimp only;rw[ih gs k.2,Aa];congr 1;funext i;show _=((n :: N)++[n+(T.length+1)]).getD (i+1) 0;rw[show n+1+T.length=n+(T.length+1) by omega];rfl
 | @bl n s R T N e _ ih=>
  intro TB fs k;unfold zN;rw[PP e,ih fs k,show n+1+T.length=n+(T.length+1) by omega];rfl
def ZI{T:List Str}(h:NE n R T N):N.length=R.length/\R.length<=T.length:=by
 induction h with
 | nil=>exact⟨rfl,aK _⟩
 | row _ _ ih=>exact⟨PR Nat.succ ih.1,iX ih.2⟩
 | bl _ _ ih=>exact⟨ih.1,fA ih.2⟩
abbrev jaD:ay:=NS 70
abbrev Zx:ay:=NS 71
abbrev jir:ay:=NS 75
abbrev jcz:ay:=NS 72
inductive Qy:List V->Hp->VK->XK->Prop
 | mk {H:Hp} {Q:VK} {E:XK} (q:∀a H',ML H H'->H' a=some (.lst (ZF.map V.str))->Q (.ref a) H'):Qy [] H Q E
def RT{b:ac}(ha:H a=some (.lst (xs.map V.str)))(hb:H b=some (.lst (ys.map V.str)))(hz:xs.length+ys.length<=100000)(q:∀l H',ML H H'->H' l=some (.lst ((xs++ys).map V.str))->Q (.ref l) H'):RL (.ref a) (.ref b) H Q:=Jr ha hb hz fun l H' s _ e=>q l H' s e
def jmt{ta tb:TE}{σ:L2.St}{b c:Bool}(ha:∀q:VK,q (.bl b) H->ta σ H q)(hb:∀q:VK,q (.bl c) H->tb σ H q)(h:Q (.bl (b || c)) H):jmb ta tb σ H Q:=ha _ ⟨b,rfl,by
 cases b with
 | true=>exact k9 h
 | false=>exact kT (hb _ h)⟩
def Q6{d:ac}{w:Int}{n:Dl}{m:Int}(hd:H d=some (Nl w n))(h0:0 < m):∃x n' H',jk w n m=(x,n')/\upd H d (Nl w (jk w n m).2)=H'/\0<=x/\x < m/\uo d H H'/\H' d=some (Nl w n'):=⟨(jk w n m).1,(jk w n m).2,_,rfl,rfl,jN w n h0,jL w n h0,uo.upd d H _,jc⟩
def jnd{t:Tk}(h1:t≠.stm)(h2:t≠.bad):PX t∈QP:=by cases t <;> first | exact absurd rfl h1 | exact absurd rfl h2 | decide +kernel
def jl9{t:Tk}(ht:PX t∈QP)(hu:PX u∈QP)(h:PX t=PX u):t=u:=by
 cases t <;> first | (exact absurd ht N3) | (cases u <;> first | rfl | (exact absurd h N3) | exact absurd hu N3)
def ZL{t:Tk}(h:QX r t)(hb:t≠.bad)(hu:PX u∈QP):decide (mS (QF r)=PX u)=decide (t=u):=by
 refine decide_eq_decide.mpr ?_;by_cases hs:t=.stm
 .refine⟨fun e=>absurd (e ▸ hu) (h.s hs),fun e=>?_⟩
  rw[<- e,hs]at hu;exact absurd hu N3
 .rw[h.w hb hs,qc]
  exact⟨jl9 (jnd hs hb) hu,PR _⟩
def jl2{t:Tk}(h:QX r t)(hb:t≠.bad)(hu:PX u∈QP):decide (V.str (mS (QF r))=V.str (PX u))=decide (t=u):=by rw[<- ZL h hb hu];exact decide_eq_decide.mpr ⟨fun h=>by injection h,fun h=>by rw[h]⟩
def jl1{t:Tk}(h:QX r t)(hb:t≠.bad)(hu:PX u∈QP)(q:Q (.bl (decide (t=u))) H):rEq (.str (mS (QF r))) (.str (PX u)) H Q:=RN (by rw[ZL h hb hu];exact q)
def jgp(r:Str):Qd ((Txt.split (mS (km (cd r))) (aa " ")).map V.str) 0=some (.str (mS (QF r))):=by obtain⟨ws,e⟩:=jif (mS (km (cd r)));rw[e,kS];exact ju (j:=0) rfl
def jne(t:Tk):(if (decide (t=.ite) || decide (t=.whl))=true then (1:Int) else 0) - (if decide (t=.fin)=true then 1 else 0)=PZ t:=by cases t <;> rfl
def jdr(h:i < T.length):((T.take (i+1)).map PZ).sum=((T.take i).map PZ).sum+PZ T[i]:=by rw[gI,aP h,bj,List.sum_append];simp
structure Q9(R:List Str)(T:List Tk):Prop where
 w:QY R T
 nb:∀t∈T,t≠.bad
 ok:∀r∈R,ZP r
 n:R.length<=5000
inductive P7:List V->Hp->VK->XK->Prop
 | mk {H:Hp} {Q:VK} {E:XK} (d:ac) (w:Int) (n:Dl) (hd:H d=some (Nl w n)) (q:∀z wd n' H',wd∈yC->z∈RU wd->uo d H H'->H' d=some (Nl w n')->Q (.str z) H'):P7 [.ref d] H Q E
inductive Ql:List V->Hp->VK->XK->Prop
 | mk {H:Hp} {Q:VK} {E:XK} (rl:ac) (R:List Str) (T:List Tk) (k:Nat) (hl:H rl=some (.lst (R.map V.str))) (hR:Q9 R T) (q:∀H',ML H H'->Q (.int ((T.take k).map PZ).sum) H'):Ql [.ref rl,.int (k:Nat)] H Q E
section
def jha(F:Fun K "_law_no_rows" "_law_no_rows" jaD f fd):MT P w K mg base PU 1 f fd [] Qy:=by
 have sc:tS ["_law_some"] [] (jo jaD):=fQ;refine F.okZ sc (fun aB A iw s H vs Q E hr h=>?_);cases h with
 | mk q=>?_
 refine⟨_,(ja (jh 0 sc.nd (jI (jr jb (jr jb (jr jb (jr jb (jr jb (jr jb (jr jb (jj jb jb)))))))))) (ja (jh 0 sc.nd (jn j9 (bB 0) (jI (jr jb (jr jb (jr jb (jr jb (jj jb jb)))))))) (ja (jh 0 sc.nd (jn j9 (bB 0) (jI (jr jb (jr jb (jr jb (jr jb (jr jb (jr jb (jj jb jb)))))))))) (ja (jh 0 sc.nd (jn j9 (bB 0) (jI (jr jb (jr jb (jr jb (jj jb jb))))))) (ja (jh 0 sc.nd (jn j9 (bB 0) (jI (jr jb (jr jb (jr jb (jj jb jb))))))) (ja (jh 0 sc.nd (jn j9 (bB 0) (jI (jr jb (jr jb (jj jb jb)))))) (ja (jh 0 sc.nd (jn j9 (bB 0) (jI (jr jb (jr jb (jr jb (jr jb (jj jb jb)))))))) (ja (jh 0 sc.nd (jn j9 (bB 0) (jI (jr jb (jr jb (jr jb (jr jb (jj jb jb)))))))) (ja (jh 0 sc.nd (jn j9 (bB 0) (jI (jr jb (jr jb (jr jb (jr jb (jj jb jb)))))))) (ja (jh 0 sc.nd (jn j9 (bB 0) (jI (jr jb (jr jb (jr jb (jr jb (jr jb (jr jb (jj jb jb)))))))))) (jg (jy (jn j9 (bB 0) (jI (jr jb (jr jb (jr jb (jr jb (jj jb jb))))))))))))))))))),?_⟩
 refine kK ?_
 try dsimp only[qF]
 refine jmO ?_;intro _ _ _ _ _ _ _ _ _ _;have key:∀{X Y:List Str} {a b:ac} {G:Hp} {R:VK},ML H G->G a=some (.lst (X.map V.str))->G b=none->X.length+Y.length<=1000->(∀l G',ML H G'->G' l=some (.lst ((X++Y).map V.str))->R (.ref l) G')->RL (.ref a) (.ref b) (upd G b (.lst (Y.map V.str))) R:=fun {X Y a b G R} s ha hb hz q=>RT (jd hb _ _ _ ha) jc (aw hz N5) fun l G' s2 e=>q l G' (s.trans ((jd hb _).trans s2)) e
 refine⟨sm rfl,fun a0 h0=>?_⟩;have s0:=jd h0 (.lst (jhm.map V.str));have e0:=Pn (H:=H) a0 (.lst (jhm.map V.str));refine (?_:jC _ _ _ _ (upd H a0 (.lst (jhm.map V.str))));generalize upd H a0 _=G0 at *;refine gQ ?_;refine Pp rfl ⟨sm rfl,fun b hb=>key (Y:=jnL) s0 e0 hb N3 fun l1 G1 s1 e1=>?_⟩;refine gQ ?_;refine Pp rfl ⟨sm rfl,fun b hb=>key (Y:=jnK) s1 e1 hb N3 fun l2 G2 s2 e2=>?_⟩;refine gQ ?_;refine Pp rfl ⟨sm rfl,fun b hb=>key (Y:=jnJ) s2 e2 hb N3 fun l3 G3 s3 e3=>?_⟩;refine gQ ?_;refine Pp rfl ⟨sm rfl,fun b hb=>key (Y:=jnI) s3 e3 hb N3 fun l4 G4 s4 e4=>?_⟩;refine gQ ?_;refine Pp rfl ⟨sm rfl,fun b hb=>key (Y:=jnH) s4 e4 hb N3 fun l5 G5 s5 e5=>?_⟩;refine gQ ?_;refine Pp rfl ⟨sm rfl,fun b hb=>key (Y:=jnG) s5 e5 hb N3 fun l6 G6 s6 e6=>?_⟩;refine gQ ?_;refine Pp rfl ⟨sm rfl,fun b hb=>key (Y:=jnF) s6 e6 hb N3 fun l7 G7 s7 e7=>?_⟩;refine gQ ?_;refine Pp rfl ⟨sm rfl,fun b hb=>key (Y:=jnE) s7 e7 hb N3 fun l8 G8 s8 e8=>?_⟩;refine gQ ?_;refine Pp rfl ⟨sm rfl,fun b hb=>key (Y:=jnD) s8 e8 hb N3 fun l9 G9 s9 e9=>?_⟩;refine gQ ?_;exact Pp rfl ⟨sm rfl,fun b hb=>key (Y:=jlW) s9 e9 hb N3 fun l G s e=>q l G s e⟩
theorem jdN(F:Fun K "_law_reserved" "_law_reserved" Zx f fd)(aG:Fn P w K mg base 1 "_law_draw" Nx qJ):MT P w K mg base PU 2 f fd Ny P7:=by
 have sc:tS ["_law_deal_here","_law_words","_law_word"] Ny (jo Zx):=fQ;refine F.okZ sc (fun aB A iw s H vs Q E hr h=>?_);cases h with
 | mk d dw n hd q=>?_
 refine⟨_,(ja (jh 1 sc.nd (jI (jr jb (jr jb (jr jb (jr jb (jr jb (jr jb (jr jb (jr jb (jr jb (jr jb (jr jb (jr jb (jj jb jb))))))))))))))) (ja (jh 2 sc.nd (js jQ (jn j9 (bB 1) (jI (jp jb))) (jB aG hr (jj (bB 0) je)))) (jg (jy (js jQ (jI (jr (jn jw (bB 2) jb) (jr (jn jw jb (bB 2)) (jj (jn jw jb (bB 2)) (jn jw (jn jw jb (bB 2)) jb))))) (jB aG hr (jj (bB 0) je))))))),?_⟩
 refine kK ?_;refine⟨sm rfl,fun a ha=>?_⟩;have s0:=jd ha (.lst ((yC.take 14).map V.str));have e0:=Pn (H:=H) a (.lst ((yC.take 14).map V.str));refine (?_:jC _ _ _ _ (upd H a (.lst ((yC.take 14).map V.str))));generalize upd H a _=G0 at *;refine gQ ?_;refine Pp rfl ⟨sm rfl,fun b hb=>RT (ys:=["call"]) (jd hb _ _ _ e0) jc N3 fun l1 G1 s1 e1=>?_⟩;have s1:=s0.trans ((jd hb _).trans s1);have d1:=s1 _ _ hd;obtain⟨x,n1,G2,ex,eG,lo,hi,k2,d2⟩:=Q6 (m:=15) d1 N5;refine Pp rfl ⟨d,dw,n,15,rfl,d1,N5,N5,?_⟩;rw[eG,ex];have e1:G1 l1=some (.lst (yC.map V.str)):=e1;have e2:=k2.strs d1 e1;have k2:=(uo.same s1).trans k2;refine⟨l1,_,Pq rfl rfl ⟨ES.of e2,qS (xs:=yC) lo (show x < (15:Nat) from hi),?_⟩⟩;have hm:qY yC x∈yC:=zk (xs:=yC) lo (show x < (15:Nat) from hi);generalize qY yC x=wd at *;have hl:wd.length<=8:=by
  have:yC.all (fun z=>decide (z.length<=8))=true:=by decide +kernel
  exact PK (c_.mp this wd hm)
 refine gQ ?_;have h8:(aa " := 1").length=5/\(aa "x := ").length=5/\(aa "any ").length=4/\(aa "[1]").length=3:=⟨rfl,rfl,rfl,rfl⟩
 obtain⟨h5,h6,h7,h8⟩:=h8;refine Pp rfl (Pq rfl rfl ⟨jU N4,Pp rfl (Pq rfl rfl ⟨jU N4,Pp rfl (Pq rfl rfl ⟨jU N4,Pp rfl (Pq rfl rfl ⟨jU N4,Pq rfl rfl ⟨jU (by rw[bK];omega),sm rfl,fun r bS=>?_⟩⟩)⟩)⟩)⟩);have e3:=Pn (H:=G2) r (.lst ((RU wd).map V.str));have s3:=jd bS (.lst ((RU wd).map V.str));have d3:=s3 _ _ d2;refine (?_:zM _ _ _ _ _ (upd G2 r (.lst ((RU wd).map V.str))) _);generalize upd G2 r _=G3 at *;obtain⟨y,n2,G4,ex,eG,lo,hi,k4,d4⟩:=Q6 (m:=4) d3 N5;refine Pp rfl ⟨d,dw,n1,4,rfl,d3,N5,N5,?_⟩;rw[eG,ex];have e4:=k4.strs d3 e3;exact⟨r,_,Pq rfl rfl ⟨ES.of e4,qS (xs:=RU wd) lo (show y < (4:Nat) from hi),q _ wd _ _ hm (zk (xs:=RU wd) lo (show y < (4:Nat) from hi)) (k2.trans ((uo.same s3).trans k4)) d4⟩⟩
theorem jk5(F:Fun K "_law_deep" "_law_deep" jir f fd)(B:Ni mg):MT P w K mg base PU 1 f fd Ej Ql:=by
 have sc:tS ["_law_rows","_law_at","_law_deep_here","_law_row","_law_first"] Ej (jo jir):=fQ;refine F.okZ sc (fun aB A iw s H vs Q E hr h=>?_);cases h with
 | mk rl R T k hl hR q=>?_
 refine⟨_,(ja (jh 2 sc.nd je) (ja (yn il rfl (YJ (kq qv (bB 0) kF (kE (bB 1)))) (jt 3 sc.nd) (ja (jh 4 sc.nd (js jQ (jV bi iW pN Jl (jV bi pP pM yw (bB 3) (jp jb)) (jp jb)) je)) (jg (jh 2 sc.nd (jn Ki (jn qb (bB 2) (kJ Js N9 B.int_ JI (jp (Zo (ki j6 (bB 4) jb (jA _)) (qu (ki j6 (bB 4) jb (jA _))))))) (kJ Js N9 B.int_ JI (jp (ki j6 (bB 4) jb (jA _))))))))) (jg (jy (bB 2))))),?_⟩
 refine kK ?_
 try dsimp only[qF]
 refine Y7 ?_;intro _ _;refine Ps rfl rfl (Pp rfl (Pq rfl (ES.of hl) (fun l1 cT=>?_)));rw[zm,<- i3];have s1:=jd cT (.lst ((R.take k).map V.str));have e1:=Pn (H:=H) l1 (.lst ((R.take k).map V.str));generalize upd H l1 _=H1 at *;have bb:=hR.w.len;let Pv:Nat->St->Hp->Prop:=fun i σ G=>∃u3 u4,σ=[some (.ref rl),some (.int (k:Nat)),some (.int ((T.take (min k i)).map PZ).sum),u3,u4]/\ML H1 G
 refine⟨l1,rfl,⟨_,ES.of e1⟩,?_⟩;refine jjK (xs:=(R.take k).map V.str) Pv ⟨none,none,by rw[Nat.min_zero];rfl,fun _ _ e=>e⟩ ?_ ?_ ?_
 .rintro i σ G _ ⟨u3,u4,rfl,sG⟩
  exact ES.of (sG _ _ e1)
 .rintro i x σ G hx ⟨u3,u4,rfl,sG⟩
  rw[bP]at hx;obtain⟨r,bS,rfl⟩:=tT.mp hx;obtain⟨hi,vq⟩:=dY.mp bS;rw[cq]at hi;have B3:i < R.length:=by omega
  have fR:i < T.length:=by omega
  have hk:i < k:=by omega
  rw[List.getElem_take]at vq;have hw:=hR.w.at_ i B3 fR;rw[vq]at hw;have mH:=hR.nb _ (cH fR);have BP:=hR.ok r (vq ▸ cH B3);have Hz:=jdr fR;rw[pU (cP hk)];generalize T[i]=t at *;refine gQ ?_;refine Pp rfl ⟨rfl,Pq rfl rfl ⟨jU (aw BP.2 N5),?_⟩⟩;rw[Jg];refine⟨rfl,Pq rfl rfl ⟨rfl,aw (Ag (show (mS (km (cd r))).length<=900 by rw[qO];exact aw (Zq _) (by rw[jY];exact BP.2)) 2) N5,fun p hp=>?_⟩⟩;refine⟨p,_,Pq rfl rfl ⟨ES.of jc,jgp r,?_⟩⟩;have s2:=sG.trans (jd hp (.lst ((Txt.split (mS (km (cd r))) (aa " ")).map V.str)));generalize upd G p _=G2 at *;refine gQ ?_;refine Pp rfl ?_;refine jmt (b:=decide (t=.ite)) (c:=decide (t=.whl)) (fun q h=>⟨_,rfl,jl1 (u:=.ite) hw mH N3 h⟩) (fun q h=>⟨_,rfl,jl1 (u:=.whl) hw mH N3 h⟩) ?_;refine .inr ⟨_,rfl,_,_,rfl,rfl,_,rfl,rfl,?_⟩;rw[show decide (V.str (mS (QF r))=V.str (aa "end"))=decide (t=.fin) from jl2 (u:=.fin) hw mH N3];refine .inr ⟨_,rfl,_,_,rfl,rfl,?_⟩;refine gQ ?_;have es:((T.take i).map PZ).sum+(if (decide (t=.ite) || decide (t=.whl))=true then (1:Int) else 0) - (if decide (t=.fin)=true then 1 else 0)=((T.take (min k (i+1))).map PZ).sum:=by rw[pU (Nat.succ_le_of_lt hk),Hz,<- jne t,Int.add_sub_assoc]
  rw[es];exact⟨_,Pp rfl s2⟩
 .rintro σ G ⟨u3,u4,rfl,sG⟩
  have ek:T.take (min k ((R.take k).map V.str).length)=T.take k:=by
   rw[av,cq,bb];rcases E1 k T.length with h | h
   .rw[fz h,Nat.min_self]
   .rw[pU h,pU h,iq,ip h]
  rw[ek];exact Pp rfl (q _ (s1.trans sG))
end
def YT(t:Tk)(T:List Tk)(k:Nat):Bool:=!decide (k=0) && match t with
 | .keep=>decide (T.getD (k - 1) .bad=.whl) || decide (T.getD (k - 1) .bad=.keep)
 | .need=>decide (T.getD (k - 1) .bad=.proc) || decide (T.getD (k - 1) .bad=.need)
 | _=>decide (T.getD (k - 1) .bad=.give) || ((decide (T.getD (k - 1) .bad=.proc) || decide (T.getD (k - 1) .bad=.need)) && !decide (T.getD k .bad=.need))
inductive Qq:List V->Hp->VK->XK->Prop
 | mk {H:Hp} {Q:VK} {E:XK} (t:Tk) (rl:ac) (R:List Str) (T:List Tk) (k:Nat) (ht:t=.keep\/t=.need\/t=.give) (hk:k<=R.length) (hl:H rl=some (.lst (R.map V.str))) (hR:Q9 R T) (q:∀H',ML H H'->Q (.bl (YT t T k)) H'):Qq [.str (PX t),.ref rl,.int (k:Nat)] H Q E
def zp{k:Nat}(h:k < T.length):T.getD k .bad=T[k]:=by rw[eI,aP h];rfl
def Q9.fw(h:Q9 R T)(hu:PX u∈QP){k:Nat}(hk:k < R.length):decide (V.str (mS (QF R[k]))=V.str (PX u))=decide (T.getD k .bad=u):=by
 have hT:k < T.length:=by rw[<- h.w.len];exact hk
 rw[zp hT];exact jl2 (h.w.at_ k hk hT) (h.nb _ (cH hT)) hu
def Q9.fw1(h:Q9 R T)(hu:PX u∈QP){k:Nat}(hr:(R++[aa ""])[k]?=some r):decide (V.str (mS (QF r))=V.str (PX u))=decide (T.getD k .bad=u):=by
 rcases gf k R.length with hk | hk
 .rw[ug hk,aP hk]at hr
  cases hr
  exact h.fw hu hk
 .rw[pY hk]at hr
  have e:r=aa "":=by
   cases e:k - R.length with
   | zero=>rw[e]at hr;cases hr;rfl
   | succ j=>rw[e]at hr;cases hr
  rw[e,show T.getD k .bad=.bad by rw[eI,Ao (by rw[<- h.w.len];exact hk)];rfl]
  cases u <;> first | (exact absurd hu N3) | decide +kernel
def Q9.len(h:Q9 R T){k:Nat}(hr:(R++[aa ""])[k]?=some r):r.length<=900:=by
 rcases aL.mp (gJ hr) with hm | hm
 .exact (h.ok r hm).2
 .rw[aZ.mp hm];decide +kernel
def jjI{H:Hp}(h:r.length<=900):r.length<=aF/\(mS (km (cd r))).length+2<=aF:=⟨jU (aw h N5),aw (Ag (show (mS (km (cd r))).length<=900 by rw[qO];exact aw (Zq _) (by rw[jY];exact h)) 2) N5⟩
section
theorem jg3(F:Fun K "_law_stands" "_law_stands" jcz f fd):MT P w K mg base PU 1 f fd X2 Qq:=by
 have sc:tS ["_law_word","_law_rows","_law_at","_law_first","_law_behind"] X2 (jo jcz):=fQ;refine F.okZ sc (fun aB A iw s H vs Q E hr h=>?_);cases h with
 | mk t rl R T k ht hk hl hR q=>?_
 refine⟨_,(ja (jR (jx j6 (bB 2) je (jA _)) (jg (jy jap)) jH) (ja (jh 3 sc.nd (js jQ (jV bi iW pN Jl (jV bi pP pM yw (js jQ (bB 1) (jn Ki (bB 2) je)) (jp jb)) (jp jb)) je)) (ja (jR (jx j6 (bB 0) jb (jA _)) (jg (jy (Zo (ki j6 (bB 3) jb (jA _)) (qu (ki j6 (bB 3) jb (jA _)))))) jH) (ja (jR (jx j6 (bB 0) jb (jA _)) (jg (jy (Zo (ki j6 (bB 3) jb (jA _)) (qu (ki j6 (bB 3) jb (jA _)))))) jH) (ja (jh 4 sc.nd (js jQ (jV bi iW pN Jl (jV bi pP pM yw (js jQ (jn j9 (bB 1) (jI (jp jb))) (bB 2)) (jp jb)) (jp jb)) je)) (jg (jy (Zo (ki j6 (bB 3) jb (jA _)) (qu (qR (Zo (ki j6 (bB 3) jb (jA _)) (qu (ki j6 (bB 3) jb (jA _)))) (qu (ki SE (bB 4) jb (jA _))))))))))))),?_⟩
 refine kK ?_
 try dsimp only[qF]
 refine K4 ?_;intro _ _ _ _;unfold YT at q;refine Pp rfl ⟨rfl,Pp rfl (kW (fun c=>?_) (fun c=>?_))⟩
 .have c:k=0:=by have:=PK c;injection this with c;omega
  rw[c]at q;exact q H fun _ _ e=>e
 have h0:k≠0:=fun e=>c (by rw[e];rfl)
 rw[PM h0]at q;rw[Fm,gk]at q;obtain⟨j,rfl⟩:∃j,k=j+1:=⟨k - 1,N4⟩
 have hj:j < R.length:=hk;rw[nS]at q;have bF:Qd (R.map V.str) (((j+1:Nat):Int) - 1)=some (.str R[j]):=by rw[show ((j+1:Nat):Int) - 1=((j:Nat):Int) by omega];exact ju (by rw[bP,aP hj];rfl)
 have vQ:∀{u:Tk},PX u∈QP->decide (V.str (mS (QF R[j]))=V.str (PX u))=decide (T.getD j .bad=u):=fun {u} hu=>hR.fw hu hj
 obtain⟨z1,z2⟩:=jjI (H:=H) (hR.ok _ (cH hj)).2;generalize R[j]=r at *;refine Ps rfl rfl (Pq rfl rfl ⟨rl,_,Pq rfl rfl ⟨ES.of hl,bF,rfl,Pq rfl rfl ⟨z1,?_⟩⟩⟩);rw[Jg];refine⟨rfl,Pq rfl rfl ⟨rfl,z2,fun p hp=>⟨p,_,Pq rfl rfl ⟨ES.of jc,jgp r,?_⟩⟩⟩⟩;have s1:=jd hp (.lst ((Txt.split (mS (km (cd r))) (aa " ")).map V.str));generalize upd H p _=H1 at *;refine gQ ?_;have vC:∀{u v:Tk} {σ:L2.St} {G:Hp} {R':VK} {ta tb:TE},PX u∈QP->PX v∈QP->(∀q:VK,q (.bl (decide (V.str (mS (QF r))=V.str (PX u)))) G->ta σ G q)->(∀q:VK,q (.bl (decide (V.str (mS (QF r))=V.str (PX v)))) G->tb σ G q)->R' (.bl (decide (T.getD j .bad=u) || decide (T.getD j .bad=v))) G->jmb ta tb σ G R':=fun {u v σ G R' ta tb} hu hv ha hb h=>jmt ha hb (by rw[vQ hu,vQ hv];exact h)
 rcases ht with rfl | rfl | rfl
 .exact Pp rfl ⟨rfl,Pp rfl (k9 (vC (u:=.whl) (v:=.keep) N3 N3 (fun q h=>(Pp rfl ⟨rfl,h⟩)) (fun q h=>(Pp rfl ⟨rfl,h⟩)) (q _ s1)))⟩
 .exact Pp rfl ⟨rfl,Pp rfl (kT (Pp rfl ⟨rfl,Pp rfl (k9 (vC (u:=.proc) (v:=.need) N3 N3 (fun q h=>(Pp rfl ⟨rfl,h⟩)) (fun q h=>(Pp rfl ⟨rfl,h⟩)) (q _ s1)))⟩))⟩
 refine Pp rfl ⟨rfl,Pp rfl (kT (Pp rfl ⟨rfl,Pp rfl (kT ?_)⟩))⟩;have gx:j+1 < (R++[aa ""]).length:=by rw[az];exact Nat.succ_lt_succ hj
 have gT:(R++[aa ""])[j+1]?=some (R++[aa ""])[j+1]:=aP gx;have vT:=hR.fw1 (u:=.need) N3 gT;obtain⟨z3,z4⟩:=jjI (H:=H) (hR.len gT);have mU:Qd ((R++[aa ""]).map V.str) ((j+1:Nat):Int)=some (.str (R++[aa ""])[j+1]):=ju (by rw[bP,gT];rfl);refine Pp rfl ⟨sm rfl,fun b hb=>RT (ys:=[aa ""]) (jd hb _ _ _ (s1 _ _ hl)) jc (by have:=hR.n;simp only[aM,cZ];omega) fun l2 H2 s2 e2=>?_⟩;have s2:=s1.trans ((jd hb _).trans s2);refine Pp rfl ⟨l2,_,Pq rfl rfl ⟨ES.of e2,mU,rfl,Pq rfl rfl ⟨z3,?_⟩⟩⟩;rw[Jg];generalize (R++[aa ""])[j+1]=r2 at *;refine⟨rfl,Pq rfl rfl ⟨rfl,z4,fun p hp=>⟨p,_,Pq rfl rfl ⟨ES.of jc,jgp r2,?_⟩⟩⟩⟩;have s3:=s2.trans (jd hp (.lst ((Txt.split (mS (km (cd r2))) (aa " ")).map V.str)));generalize upd H2 p _=H3 at *;refine gQ ?_;dsimp only;unfold jkw;dsimp only;refine jmt (b:=decide (T.getD j .bad=.give)) (c:=(decide (T.getD j .bad=.proc) || decide (T.getD j .bad=.need)) && !decide (T.getD (j+1) .bad=.need)) (fun q h=>⟨_,rfl,rfl,by rw[show decide (V.str (mS (QF r))=V.str (aa "give"))=decide (T.getD j .bad=.give) from vQ (u:=.give) N3];exact h⟩) (fun q h=>Kx (fun q h=>vC (u:=.proc) (v:=.need) N3 N3 (fun q h=>⟨_,rfl,rfl,h⟩) (fun q h=>⟨_,rfl,rfl,h⟩) h) (fun q h=>⟨_,rfl,rfl,by rw[show decide (V.str (mS (QF r2))=V.str (aa "need"))=decide (T.getD (j+1) .bad=.need) from vT];exact h⟩) h) (q _ s3)
end
abbrev jim:ay:=NS 73
abbrev jit:ay:=NS 74
def Z1:Option Nat->V
 | none=>.non
 | some k=>.int (k:Nat)
inductive P4:List V->Hp->VK->XK->Prop
 | mk {H:Hp} {Q:VK} {E:XK} (d rl:ac) (w:Int) (n:Dl) (R:List Str) (T:List Tk) (hd:H d=some (Nl w n)) (hl:H rl=some (.lst (R.map V.str))) (hR:Q9 R T) (bw:kO T []=some []) (aR:R≠[]) (q:∀p b B TB n' H',uo d H H'->H' p=some (.tup [.ref b,Z1 (j4 TB [])])->H' b=some (.lst (B.map V.str))->Qp B TB->B.length<=R.length+1->H' d=some (Nl w n')->Q (.ref p) H'):P4 [.ref d,.ref rl] H Q E
def jeB{t:Tk}{k:Nat}(bw:kO T []=some [])(hk:k<=T.length)(ht:t=.keep\/t=.need\/t=.give):j4 (T.take k++t :: T.drop k) []=if YT t T k=true then none else some (k+if (decide (t=.give) && (!decide (k=0) && (decide (T.getD (k - 1) .bad=.proc) || decide (T.getD (k - 1) .bad=.need))))=true then 1 else 0):=by
 cases k with
 | zero=>
  rw[Ji (k:=0) (fs:=[]) rfl (cn _) (by rcases ht with rfl | rfl | rfl <;> rfl)];simp[YT]
 | succ j=>
  have hj:j < T.length:=hk;obtain⟨gs,g1,g2,_⟩:=yW bw (j+1);obtain⟨fs,o1,_,o3⟩:=jdC g1 hj;obtain⟨b1,b2,b3,b4⟩:=Sk o1 o3;unfold YT;rw[nS,zp hj];generalize T[j]=p at *;have n0:decide (j+1=0)=false:=rfl;rw[n0,Fm,gk,gk];rcases ht with rfl | rfl | rfl
  .dsimp only
   by_cases c:p=.whl\/p=.keep
   .rw[PP c]at b1
    rw[jaK bw g1 b1,PP (by simpa using c)]
   .rw[PN c]at b1
    rw[Ji g1 hk b1,PN (by simpa using c)];rfl
  .dsimp only
   by_cases c:p=.proc\/p=.need
   .rw[PP c]at b2
    rw[jaK bw g1 b2,PP (by simpa using c)]
   .rw[PN c]at b2
    rw[Ji g1 hk b2,PN (by simpa using c)];rfl
  .dsimp only
   by_cases c:p=.proc\/p=.need
   .have hg:=b3 c
    subst hg;have c':(decide (p=.proc) || decide (p=.need))=true:=by simpa using c
    have c2:decide (p=.give)=false:=by rcases c with rfl | rfl <;> rfl
    rw[c',c2,uq,gk];by_cases d:T.getD (j+1) .bad=.need
    .rw[PL d]
     have hl:j+1 < T.length:=by
      rcases gf (j+1) T.length with h | h
      .exact h
      .rw[eI,Ao h]at d;cases d
     rw[zp hl]at d;rw[At hl,d,jbN (gs:=[⟨"proc",true,false⟩]) g1 hk rfl rfl];rfl
    .rw[PM d]
     refine YB ?_;rw[yg,g1];show kO (T.drop (j+1)) [⟨"proc",true,false⟩]=some [];refine jjB g2 fun t U e=>?_
     rw[eI]at d;intro z;have:T[j+1]?=some t:=by rw[<- List.head?_drop,e];rfl
     rw[this]at d;exact d z
   .have b4:=b4 c
    have c':(decide (p=.proc) || decide (p=.need))=false:=by simpa using c
    rw[c',ra,Fl];by_cases d:p=.give
    .rw[PP d]at b4
     rw[jaK bw g1 b4,PP (PL d)]
    .rw[PN d]at b4
     rw[Ji g1 hk b4,PN (by simpa using d)];rfl
def Q9.fw0(h:Q9 R T){k:Nat}(hr:(aa "" :: R)[k]?=some r):decide (mS (QF r)∈[aa "proc",aa "need"])=(!decide (k=0) && (decide (T.getD (k - 1) .bad=.proc) || decide (T.getD (k - 1) .bad=.need)))/\r.length<=900:=by
 cases k with
 | zero=>cases hr;exact⟨(by rw[show decide (0=0)=true from rfl,Bool.not_true,ra];decide +kernel),N3⟩
 | succ j=>
  have hj:j < R.length:=by
   rcases gf j R.length with h | h
   .exact h
   .rw[Pe,Ao h]at hr;cases hr
  rw[Pe,aP hj]at hr
  cases hr
  refine⟨?_,(h.ok _ (cH hj)).2⟩;have hT:j < T.length:=by rw[<- h.w.len];exact hj
  have hw:=h.w.at_ j hj hT;have hb:=h.nb _ (cH hT);rw[nS,zp hT,show decide (j+1=0)=false from rfl,Fm,gk,<- ZL (u:=.proc) hw hb N3,<- ZL (u:=.need) hw hb N3,<- Bool.decide_or];refine decide_eq_decide.mpr ?_;simp only[aA,fC,or_false];rfl
def jcq(h:Q9 R T)(k:Nat):Qp (R.take k) (T.take k):=(h.w.rg h.ok).take k
def jfh{t:Tk}(h:Q9 R T)(k:Nat)(hz:RG z t):Qp (R.take k++z :: R.drop k) (T.take k++t :: T.drop k):=(jcq h k).app ⟨hz,(h.w.rg h.ok).drop k⟩
theorem jc3{α:Type}{R:List α}{z:α}{k:Nat}:(R.take k++z :: R.drop k).length<=R.length+1:=by rw[az,aM,cq,eF];omega
theorem Zk{rl l1 l2:ac}{k:Nat}{σ:L2.St}{Q':VK}(h1:σ[i]?=some (some (.ref rl)))(h2:σ[j]?=some (some (.int (k:Nat))))(hl:G rl=some (.lst (R.map V.str)))(g1:G l1=some (.lst ((R.take k).map V.str)))(g2:G l2=some (.lst ([z].map V.str)))(hn:R.length<=5000)(q:∀b G',ML G G'->G' b=some (.lst ((R.take k++z :: R.drop k).map V.str))->Q' (.ref b) G'):
  RL (.ref l1) (.ref l2) G fun y H1=>tSl (jnw K) (RJ i) (jlM (RJ j)) jfI σ H1 fun y2 H2=>RL y y2 H2 Q':=by
 refine RT g1 g2 (by rw[cq];simp only[aM,cZ];omega) fun l3 G3 s3 e3=>?_
 refine⟨_,h1,_,h2,Pp rfl (Pq rfl (ES.of (s3 _ _ hl)) (fun l4 eN=>?_))⟩
 rw[jbg,<- O7]
 refine RT (xs:=R.take k++[z]) (ys:=R.drop k) (jd eN _ _ _ e3) jc (by rw[az,cq,eF];simp only[aM,cZ];omega) fun b G5 s5 e5=>?_
 refine q b G5 (s3.trans ((jd eN _).trans s5)) ?_
 rw[bq]at e5
 exact e5
def jhO{k:Nat}(bw:kO T []=some [])(hk:k<=T.length):j4 (T.take k) []=if (decide (k=0) || decide (T.getD (k - 1) .bad=.back))=true then none else some k:=by
 cases k with
 | zero=>rfl
 | succ j=>
  have hj:j < T.length:=hk;obtain⟨gs,g1,_,_⟩:=yW bw (j+1);obtain⟨fs,o1,_,o3⟩:=jdC g1 hj;obtain⟨_,_,c1,c2,_⟩:=zX o1 o3;have:=zw (B:=[]) g1;rw[bE]at this;rw[this,show decide (j+1=0)=false from rfl,uq,nS,zp hj];by_cases c:T[j]=.back
  .rw[c2 c,PL c];rfl
  .rw[PM c]
   cases gs with
   | nil=>exact absurd (c1 rfl) c
   | cons G gs=>
    show some (0+(T.take (j+1)).length)=some (j+1);rw[cq,fz hk,nR]
def QX.back_is{t:Tk}(h:QX r t)(hb:t≠.bad):decide (V.str r=V.str (aa "back"))=decide (t=.back):=by refine decide_eq_decide.mpr ⟨fun e=>?_,fun e=>by rw[h.bk e]⟩;injection e with e;have:=ZL (u:=.back) h hb N3;rw[e]at this;exact PK (this.symm.trans N3)
section
theorem jmy(F:Fun K "_law_put" "_law_put" jim f fd)(B:Ni mg)(aG:Fn P w K mg base 1 "_law_draw" Nx qJ)(xg:Fn P w K mg base 2 "_law_reserved" Ny P7)(xl:Fn P w K mg base 1 "_law_no_rows" [] Qy)(xa:Fn P w K mg base 1 "_law_stands" X2 Qq):MT P w K mg base PU 3 f fd Nv P4:=by
 have sc:tS ["_law_deal_here","_law_rows","_law_at","_law_form","_law_none","_law_word","_law_new","_law_ahead"] Nv (jo jim):=fQ;refine F.okZ sc (fun aB A iw s H vs Q E hr h=>?_);cases h with
 | mk d rl dw n R T hd hl hR bw aR q=>?_
 refine⟨_,(ja (jh 2 sc.nd (jB aG hr (jj (bB 0) (jn qb (j7 jE N9 B.len_ ku (jp (bB 1))) je)))) (ja (jh 3 sc.nd (jB aG hr (jj (bB 0) je))) (ja (jR (jx j6 (bB 3) je (jA _)) (jg (jy (jG (jj (jn j9 (jn j9 (kq qv (bB 1) kF (kE (bB 2))) (jI (jp (jB xg hr (jp (bB 0)))))) (kq qv (bB 1) (kE (bB 2)) kF)) (bB 2))))) jH) (ja (jR (jx Se (bB 3) je (jA _)) (ja (jh 4 sc.nd (jck xl hr)) (jg (jy (jG (jj (jn j9 (jn j9 (kq qv (bB 1) kF (kE (bB 2))) (jI (jp (js jQ (bB 4) (jB aG hr (jj (bB 0) (j7 jE N9 B.len_ ku (jp (bB 4))))))))) (kq qv (bB 1) (kE (bB 2)) kF)) (bB 2)))))) jH) (ja (jh 5 sc.nd (js jQ (jI (jr jb (jr jb (jj jb jb)))) (jB aG hr (jj (bB 0) je)))) (ja (jh 6 sc.nd (jn j9 (jn j9 (kq qv (bB 1) kF (kE (bB 2))) (jI (jp (jn jw (bB 5) jb)))) (kq qv (bB 1) (kE (bB 2)) kF))) (ja (jR (qA (jB xa hr (jr (bB 5) (jj (bB 1) (bB 2))))) (jg (jy (jG (jj (bB 6) KB)))) jH) (ja (jh 7 sc.nd (js jQ (jV bi iW pN Jl (jV bi pP pM yw (js jQ (jn j9 (jI (jp jb)) (bB 1)) (bB 2)) (jp jb)) (jp jb)) je)) (jg (jy (jG (jj (bB 6) (jn qb (bB 2) (kJ Js N9 B.int_ JI (jp (qR (ki j6 (bB 5) jb (jA _)) (qu (ki KL (bB 7) (jI (jj jb jb)) rfl)))))))))))))))))),?_⟩
 refine kK ?_
 try dsimp only[qF]
 refine jnV ?_;intro _ _ _ _ _ _ _ _;have bb:=hR.w.len;have iM:=hR.n;obtain⟨x,n1,G1,ex,eG,lo,hi,k1,d1⟩:=Q6 (m:=((R.length:Nat):Int)+1) hd N4;obtain⟨k,rfl⟩:∃k:Nat,x=((k:Nat):Int):=⟨x.toNat,N4⟩
 have hk:k<=R.length:=by omega
 have cE:k<=T.length:=by omega
 refine Ps rfl rfl ⟨rl,Pp rfl ⟨.inl (ES.of hl),Pq rfl rfl ⟨d,dw,n,((R.length:Nat):Int)+1,by rw[av];rfl,hd,N4,N4,?_⟩⟩⟩;rw[eG,ex];have l1:=k1.strs hd hl;refine gQ ?_;obtain⟨fo,n2,G2,ex,eG,eZ,bX,k2,d2⟩:=Q6 (m:=5) d1 N5;refine Pp rfl ⟨d,dw,n1,5,rfl,d1,N5,N5,?_⟩;rw[eG,ex];have l2:=k2.strs d1 l1;have k2:=k1.trans k2;clear l1 d1 k1;refine gQ ?_;have fin:∀{b p:ac} {G:Hp} {z:Str} {t:Tk} {n':Dl},uo d H G->G d=some (Nl dw n')->G b=some (.lst ((R.take k++z :: R.drop k).map V.str))->G p=none->RG z t->Z1 (j4 (T.take k++t :: T.drop k) [])=Z1 (some k)->Q (.ref p) (upd G p (.tup [.ref b,.int (k:Nat)])):=fun {b p G z t n'} kG dG bG hp hz hv=>q p b _ _ n' _ (kG.trans (uo.same (jd hp _))) (by rw[jc,hv];rfl) (jd hp _ _ _ bG) (jfh hR k hz) jc3 (jd hp _ _ _ dG)
 have Cd:Z1 (j4 (T.take k++.bad :: T.drop k) [])=Z1 (some k):=by rw[jkP bw,cq,fz cE]
 refine Pp rfl ⟨rfl,Pp rfl (kW (fun c=>?_) (fun c=>?_))⟩
 ·-- a word that is no name
  refine Ps rfl rfl (Pp rfl (Pq rfl (ES.of l2) (fun a ha=>?_)));rw[zm,<- i3];have s3:=jd ha (.lst ((R.take k).map V.str));have e3:=Pn (H:=G2) a (.lst ((R.take k).map V.str));have k3:=k2.trans (uo.same s3);have d3:=s3 _ _ d2;have l3:=s3 _ _ l2;refine (?_:jky _ _ (upd G2 a (.lst ((R.take k).map V.str))) _);generalize upd G2 a _=G3 at *;refine Pp rfl (P7.mk d dw n2 d3 fun z wd n4 G4 hw hz k4 d4=>⟨sm rfl,fun b hb=>?_⟩);have s5:=jd hb (.lst [V.str z]);have e5:upd G4 b (.lst [V.str z]) b=some (.lst ([z].map V.str)):=jc;refine Zk (k:=k) (z:=z) rfl rfl (s5 _ _ (k4.strs d3 l3)) (s5 _ _ (k4.strs d3 e3)) e5 iM fun b2 G6 s6 e6=>?_
  exact Pp rfl ⟨sm rfl,fun p hp=>fin (k3.trans (k4.trans (uo.same (s5.trans s6)))) (s6 _ _ (s5 _ _ d4)) e6 hp (jkJ hw hz) Cd⟩
 refine Pp rfl (Pq rfl rfl (Pp rfl (kW (fun c2=>?_) (fun c2=>?_))))
 ·-- a row that is none
  refine⟨fun l0 H3 s3 e3=>?_⟩;have l3:=s3 _ _ l2;have d3:=s3 _ _ d2;refine gQ ?_;refine Ps rfl rfl (Pp rfl (Pq rfl (ES.of l3) (fun a ha=>?_)));rw[zm,<- i3];have s4:=jd ha (.lst ((R.take k).map V.str));have e4:=Pn (H:=H3) a (.lst ((R.take k).map V.str));have l4:=s4 _ _ l3;have d4:=s4 _ _ d3;have f4:=s4 _ _ e3;have k4:=k2.trans (uo.same (s3.trans s4));refine (?_:jky _ _ (upd H3 a (.lst ((R.take k).map V.str))) _);generalize upd H3 a _=G4 at *;obtain⟨y,n5,G5,ex,eG,oA,oZ,k5,d5⟩:=Q6 (m:=((ZF.length:Nat):Int)) d4 N3;refine Ps rfl rfl (Pp rfl ⟨l0,Pp rfl ⟨.inl (ES.of f4),d,dw,n2,((ZF.length:Nat):Int),by rw[av];rfl,d4,N3,N3,?_⟩⟩);rw[eG,ex];refine⟨l0,_,Pq rfl rfl ⟨ES.of (k5.strs d4 f4),qS oA oZ,sm rfl,fun b hb=>?_⟩⟩;have hz:=jmD (zk oA oZ);generalize qY ZF y=z at *;have s6:=jd hb (.lst [V.str z]);have e6:upd G5 b (.lst [V.str z]) b=some (.lst ([z].map V.str)):=jc;refine Zk (k:=k) (z:=z) rfl rfl (s6 _ _ (k5.strs d4 l4)) (s6 _ _ (k5.strs d4 e4)) e6 iM fun b2 G7 s7 e7=>?_
  exact Pp rfl ⟨sm rfl,fun p hp=>fin (k4.trans (k5.trans (uo.same (s6.trans s7)))) (s7 _ _ (s6 _ _ d5)) e7 hp hz Cd⟩
 refine⟨sm rfl,fun l0 h0=>?_⟩;have s3:=jd h0 (.lst (([aa "keep",aa "need",aa "give",aa "keep"]).map V.str));have e3:=Pn (H:=G2) l0 (.lst (([aa "keep",aa "need",aa "give",aa "keep"]).map V.str));have l3:=s3 _ _ l2;have d3:=s3 _ _ d2;have k3:=k2.trans (uo.same s3);refine (?_:zM _ _ _ _ _ (upd G2 l0 (.lst (([aa "keep",aa "need",aa "give",aa "keep"]).map V.str))) _);generalize upd G2 l0 _=G3 at *;obtain⟨y,n4,G4,ex,eG,oB,vO,k4,d4⟩:=Q6 (m:=4) d3 N5;refine Pp rfl ⟨d,dw,n2,4,rfl,d3,N5,N5,?_⟩;rw[eG,ex];have l4:=k4.strs d3 l3;have hm:=zk (xs:=[aa "keep",aa "need",aa "give",aa "keep"]) oB (show y < (4:Nat) from vO);refine⟨l0,_,Pq rfl rfl ⟨ES.of (k4.strs d3 e3),qS oB (show y < (4:Nat) from vO),?_⟩⟩;obtain⟨t,ht,et⟩:∃t:Tk,(t=.keep\/t=.need\/t=.give)/\qY [aa "keep",aa "need",aa "give",aa "keep"] y=PX t:=by
  simp only[aA,fC,or_false]at hm;rcases hm with h | h | h | h
  .exact⟨.keep,.inl rfl,h⟩
  .exact⟨.need,.inr (.inl rfl),h⟩
  .exact⟨.give,.inr (.inr rfl),h⟩
  .exact⟨.keep,.inl rfl,h⟩
 rw[et];have k4:=k3.trans k4;clear et hm e3 s3 l3 d3 k3 l2 d2 k2 h0;refine gQ ?_;have oJ:=jmn ht;have gR:(PX t).length+7<=aF:=jU (by rcases ht with rfl | rfl | rfl <;> decide +kernel);have bZ:=jeB bw cE ht;refine Ps rfl rfl (Pp rfl (Pq rfl (ES.of l4) (fun a ha=>?_)));rw[zm,<- i3];have s5:=jd ha (.lst ((R.take k).map V.str));have e5:=Pn (H:=G4) a (.lst ((R.take k).map V.str));refine Pp rfl (Pq rfl rfl ⟨gR,sm rfl,fun b hb=>?_⟩);have s6:=jd hb (.lst [V.str (jiy t)]);have e6:upd (upd G4 a (.lst ((R.take k).map V.str))) b (.lst [V.str (jiy t)]) b=some (.lst ([jiy t].map V.str)):=jc;refine Zk (k:=k) (z:=jiy t) rfl rfl (s6 _ _ (s5 _ _ l4)) (s6 _ _ e5) e6 iM fun b2 G7 s7 e7=>?_
 have s7:=s5.trans (s6.trans s7);have k7:=k4.trans (uo.same s7);have d7:=s7 _ _ d4;have l7:=s7 _ _ l4;clear s5 e5 s6 e6 ha hb k4 d4 l4;refine gQ ?_;refine Ps rfl rfl (Pp rfl (Qq.mk t rl R T k ht hk l7 hR fun H8 s8=>(Pp rfl ?_)));have k8:=k7.trans (uo.same s8);have d8:=s8 _ _ d7;have l8:=s8 _ _ l7;have e8:=s8 _ _ e7;have ww:∀{p:ac} {G:Hp} {v:V},ML H8 G->G p=none->Z1 (j4 (T.take k++t :: T.drop k) [])=v->Q (.ref p) (upd G p (.tup [.ref b2,v])):=fun {p G v} sG hp hv=>q p b2 _ _ n4 _ (k8.trans (uo.same (sG.trans (jd hp _)))) (by rw[jc,hv]) (jd hp _ _ _ (sG _ _ e8)) (jfh hR k oJ) jc3 (jd hp _ _ _ (sG _ _ d8))
 refine kW (fun c=>?_) (fun c=>?_)
 .rw[PP c]at bZ
  exact Pp rfl ⟨sm rfl,fun p hp=>ww (fun _ _ e=>e) hp (by rw[bZ];rfl)⟩
 rw[PN c]at bZ;clear c s8 s7 e7 l7 d7 k7;have gx:k < (aa "" :: R).length:=EY hk;have gT:(aa "" :: R)[k]?=some (aa "" :: R)[k]:=aP gx;obtain⟨vT,vv⟩:=hR.fw0 gT;obtain⟨z3,z4⟩:=jjI (H:=H) vv;have mU:Qd ((aa "" :: R).map V.str) ((k:Nat):Int)=some (.str (aa "" :: R)[k]):=ju (by rw[bP,gT];rfl);refine⟨sm rfl,fun a ha=>(Pp rfl (RT (xs:=[aa ""]) jc (jd ha _ _ _ l8) (by simp only[aM,cZ];omega) fun l9 G9 s9 e9=>?_))⟩;have s9:=(jd ha (.lst [V.str (aa "")])).trans s9;refine Pp rfl ⟨l9,_,Pq rfl rfl ⟨ES.of e9,mU,rfl,Pq rfl rfl ⟨z3,?_⟩⟩⟩;rw[Jg];generalize (aa "" :: R)[k]=r2 at *;refine⟨rfl,Pq rfl rfl ⟨rfl,z4,fun p hp=>⟨p,_,Pq rfl rfl ⟨ES.of jc,jgp r2,?_⟩⟩⟩⟩;have gr:=s9.trans (jd hp (.lst ((Txt.split (mS (km (cd r2))) (aa " ")).map V.str)));generalize upd G9 p _=G10 at *;refine gQ ?_;refine Ps rfl rfl (Pp rfl ⟨rfl,Pp rfl (kW (fun c=>?_) (fun c=>?_))⟩)
 .have ct:decide (t=.give)=true:=by
   have:=PK c;injection this with e;refine PL ?_;rcases ht with rfl | rfl | rfl
   .exact absurd e N3
   .exact absurd e N3
   .rfl
  refine Pp rfl ⟨sm rfl,fun l oW=>?_⟩;have cK:=gr.trans (jd oW (.lst ([aa "proc",aa "need"].map V.str)));refine⟨l,Pp rfl ⟨.inl (ES.of jc),rfl,rfl,?_⟩⟩;have b_:=yH (x:=mS (QF r2)) (ys:=[aa "proc",aa "need"]);rw[vT]at b_;rw[PN aU,show RD (.str (mS (QF r2))) [V.str (aa "proc"),V.str (aa "need")]=_ from b_];refine .inr ⟨_,rfl,_,_,rfl,rfl,sm rfl,fun p hp=>ww cK hp ?_⟩;rw[bZ,ct,gk];split <;> rfl
 .have ct:decide (t=.give)=false:=PM fun e=>c (by rw[e];decide +kernel)
  refine .inr ⟨_,rfl,_,_,rfl,rfl,sm rfl,fun p hp=>ww gr hp ?_⟩;rw[bZ,ct,ra];rfl
theorem jk7(F:Fun K "_law_cut" "_law_cut" jit f fd)(B:Ni mg)(aG:Fn P w K mg base 1 "_law_draw" Nx qJ):MT P w K mg base PU 2 f fd Nv P4:=by
 have sc:tS ["_law_deal_here","_law_rows","_law_at"] Nv (jo jit):=fQ;refine F.okZ sc (fun aB A iw s H vs Q E hr h=>?_);cases h with
 | mk d rl dw n R T hd hl hR bw aR q=>?_
 refine⟨_,(ja (jh 2 sc.nd (jB aG hr (jj (bB 0) (jn qb (j7 jE N9 B.len_ ku (jp (bB 1))) je)))) (ja (jR (yS (jx j6 (bB 2) je (jA _)) (Jt (jx j6 (js jQ (bB 1) (jn Ki (bB 2) je)) jb (jA _)))).pt (jg (jy (jG (jj (kq qv (bB 1) kF (kE (bB 2))) KB)))) jH) (jg (jy (jG (jj (kq qv (bB 1) kF (kE (bB 2))) (bB 2))))))),?_⟩
 refine kK ?_
 try dsimp only[qF]
 refine Y7 ?_;intro _ _;have bb:=hR.w.len;obtain⟨x,n1,G1,ex,eG,lo,hi,k1,d1⟩:=Q6 (m:=((R.length:Nat):Int)+1) hd (by have:=hR.n;omega);obtain⟨k,rfl⟩:∃k:Nat,x=((k:Nat):Int):=⟨x.toNat,N4⟩
 have hk:k<=R.length:=by omega
 have cE:k<=T.length:=by omega
 refine Ps rfl rfl ⟨rl,Pp rfl ⟨.inl (ES.of hl),Pq rfl rfl ⟨d,dw,n,((R.length:Nat):Int)+1,by rw[av];rfl,hd,N4,by have:=hR.n;omega,?_⟩⟩⟩;rw[eG,ex];have l1:=k1.strs hd hl;refine gQ ?_;have hc:=jhO bw cE;have fin:∀{p b:ac} {G:Hp} {v:V},ML G1 G->G b=some (.lst ((R.take k).map V.str))->G p=none->Z1 (j4 (T.take k) [])=v->Q (.ref p) (upd G p (.tup [.ref b,v])):=fun {p b G v} sG hb hp hv=>q p b _ _ n1 _ (k1.trans (uo.same (sG.trans (jd hp _)))) (by rw[jc,hv]) (jd hp _ _ _ hb) (jcq hR k) (fA (by rw[cq];omega)) (jd hp _ _ _ (sG _ _ d1))
 refine Pp rfl ⟨rfl,Pp rfl (kW (fun c=>?_) (fun c=>?_))⟩
 .have c:k=0:=by have:=PK c;injection this with c;omega
  rw[c]at hc;refine k9 ⟨_,rfl,_,rfl,_,rfl,rl,_,rfl,ES.of l1,fun a ha=>⟨sm rfl,fun p hp=>?_⟩⟩;exact fin (jd ha _) (by rw[jc,zm,i3]) hp (by rw[c,hc];rfl)
 have h0:k≠0:=fun e=>c (by rw[e];rfl)
 obtain⟨j,rfl⟩:∃j,k=j+1:=⟨k - 1,N4⟩
 have hj:j < R.length:=hk;have vM:j < T.length:=cE;have bF:Qd (R.map V.str) (((j+1:Nat):Int) - 1)=some (.str R[j]):=by rw[show ((j+1:Nat):Int) - 1=((j:Nat):Int) by omega];exact ju (by rw[bP,aP hj];rfl)
 rw[show decide (j+1=0)=false from rfl,uq,nS,zp vM]at hc;have IK:=(hR.w.at_ j hj vM).back_is (hR.nb _ (cH vM));refine Ps rfl rfl (Pq rfl rfl ⟨rl,_,Pq rfl rfl ⟨ES.of l1,bF,rfl,?_⟩⟩);rw[IK];refine Pp rfl (kW (fun c=>?_) (fun c=>?_))
 .rw[PP c]at hc
  refine Ps rfl rfl (Pp rfl (Pq rfl (ES.of l1) (fun a ha=>⟨sm rfl,fun p hp=>?_⟩)));exact fin (jd ha _) (by rw[jc,zm,i3]) hp (by rw[hc];rfl)
 .rw[PN c]at hc
  refine Ps rfl rfl (Pp rfl (Pq rfl (ES.of l1) (fun a ha=>(Pp rfl ⟨sm rfl,fun p hp=>?_⟩))));exact fin (jd ha _) (by rw[jc,zm,i3]) hp (by rw[hc];rfl)
end
abbrev jaE:ay:=NS 76
abbrev jcG:ay:=NS 77
theorem jd7(x:Nat):∀ys:List Nat,RD (.int (x:Nat)) (ys.map fun k=>V.int (k:Nat))=decide (x∈ys)
 | []=>by simp[RD]
 | y :: ys=>by
  have ih:=jd7 x ys;unfold RD at ih |-;rw[bn,nZ,ih];have e:RE (.int (y:Nat)) (.int (x:Nat))=decide (x=y):=by
   show (((y:Nat):Int) == ((x:Nat):Int))=_;by_cases h:x=y
   .subst h;simp
   .rw[PM h]
    simp;omega
  rw[e];simp[aA]
theorem jb4:∀ys:List Nat,(ys.map fun k=>V.int (k:Nat)).all K5=true
 | []=>rfl
 | y :: ys=>by rw[bn,eX,jb4 ys];rfl
theorem jgF{ys:List Nat}(h0:0<=d)(h1:d < (ys.length:Nat)):∃k∈ys,Qd (ys.map fun k=>V.int (k:Nat)) d=some (.int (k:Nat)):=by
 obtain⟨j,rfl⟩:∃j:Nat,d=((j:Nat):Int):=⟨d.toNat,N4⟩
 have hj:j < ys.length:=by omega
 exact⟨ys[j],cH hj,ju (by rw[bP,aP hj];rfl)⟩
section
variable {k:Nat}
def jau(h:kO T []=some []){fs:List Fr}(h1:kO (T.take k) []=some fs):dp fs=((T.take k).map PZ).sum:=by rw[(jaH (fs:=[]) True.intro h1).2];show (0:Int)+_=_;rw[uk]
theorem jln(h:kO T []=some [])(hk:k < T.length)(h0:T[k]≠.proc)(hs:((T.take k).map PZ).sum=0):∃F,kO (T.take k) []=some [F]/\F.kind = "proc":=by
 obtain⟨fs,g1,g2,g3⟩:=yW h k;obtain⟨cu,s1,_⟩:=Ke g2 hk;have hd:=jau h g1;rw[hs]at hd
 cases fs with
 | nil=>exact absurd ((zX g3 s1).2.2.2.2 rfl) h0
 | cons F fs=>
  cases fs with
  | nil=>exact⟨F,g1,g3⟩
  | cons G fs=>unfold dp at hd;simp at hd;omega
def jjv(h:kO T []=some [])(hk:k < T.length)(h0:T[k]≠.proc)(hs:((T.take k).map PZ).sum=0):j4 (T.take k++.els :: T.drop k) []=some k/\j4 (T.take k++.fin :: T.drop k) []=some k/\j4 (T.take k++.back :: T.drop k) []=some (k+1):=by
 obtain⟨F,g1,hF⟩:=jln h hk h0 hs;have hF:F.kind=aa "proc":=hF;have n1:¬(aa "proc" = aa "while"):=by decide
 have n2:¬(aa "proc" = aa "if"):=by decide
 have n3:¬(aa "proc" = aa "else"):=by decide
 refine⟨Ji g1 (cP hk) (by simp[jz,hF,n2]),Ji g1 (cP hk) (by simp[jz,hF,n1,n3]),?_⟩;rw[At hk];refine jbN (gs:=[]) g1 (cP hk) (by simp[jz,hF]) ?_
 cases e:T[k] <;> first | (exact absurd e h0) | rfl
theorem jbY(h:kO T []=some [])(hn:T≠[]):1<=T.length - 1/\∃hk:T.length - 1 < T.length,T[T.length - 1]=.back/\((T.take (T.length - 1)).map PZ).sum=0:=by
 have hl:0 < T.length:=pW.mpr hn;have hk:T.length - 1 < T.length:=by omega
 obtain⟨fs,g1,g2,g3⟩:=yW h (T.length - 1);obtain⟨gs,s1,s2⟩:=Ke g2 hk;rw[p_ N4]at s2
 cases s2
 have hb:=(zX g3 s1).2.2.1 rfl;have hf:fs≠[]:=fun e=>by have:=(zX g3 s1).2.2.2.2 e;rw[hb]at this;cases this
 have hd:=jau h g1;have h2:=(zX g3 s1).2.1;rw[hb]at h2;have h3:dp ([]:List Fr)=0:=rfl;rw[h3,show PZ .back=0 from rfl]at h2;refine⟨?_,hk,hb,N4⟩;rcases gf (T.length - 1) 1 with h4 | h4
 .exfalso
  rw[show T.length - 1=0 by omega]at g1
  cases g1
  exact hf rfl
 .exact h4
def jfB(h:kO T []=some [])(hk:k < T.length)(hb:T[k]=.back):j4 (T.take k++T.drop (k+1)) []=some k:=by
 obtain⟨fs,g1,g2,g3⟩:=yW h k;obtain⟨gs,s1,s2⟩:=Ke g2 hk;have hg:=(zX g3 s1).2.2.2.1 hb;subst hg;rw[hb]at s1;rw[zw g1];have key:j4 (T.drop (k+1)) fs=some 0:=by
  cases fs with
  | nil=>cases s1
  | cons F fs=>
   cases e:T.drop (k+1) with
   | nil=>rfl
   | cons t U=>
    rw[e]at s2;unfold kO at s2
    cases e1:jz t [] with
    | none=>rw[e1]at s2;cases s2
    | some hs=>
     have ht:=(zX (fs:=[]) True.intro e1).2.2.2.2 rfl;rw[ht];rfl
 rw[key];show some (0+(T.take k).length)=_;rw[cq,fz (cP hk),nR]
theorem jhJ(h:kO T []=some [])(hk:k < T.length)(he:T[k]=.els)(hj:k+1<=j)(hjl:j < T.length)(oR:∀i,k+1<=i->i < j->((T.take k).map PZ).sum<=((T.take (i+1)).map PZ).sum)(B6:((T.take (j+1)).map PZ).sum < ((T.take k).map PZ).sum):j4 (T.take k++T.drop (k+1)) []=some (j - 1):=by
 obtain⟨fs,g1,g2,g3⟩:=yW h k;obtain⟨gs,s1,s2⟩:=Ke g2 hk;have hd:=jau h g1;rw[he]at s1
 cases fs with
 | nil=>cases s1
 | cons F B=>
  simp only[jz]at s1;split at s1
  .rename_i c
   have c:=PK c
   cases s1
   have hB:1<=B.length:=by
    cases B with
    | nil=>
     have g3:F.kind = "proc":=g3;rw[c]at g3;exact absurd g3 N5
    | cons _ _=>simp
   have hn:((T.take k).map PZ).sum=((B.length:Nat):Int):=by rw[<- hd];unfold dp;rw[aM,nS]
   have run:∀i,∃hs,kO ((T.drop (k+1)).take i) ({ F with kind:="else",st:=false } :: B)=some hs/\dp hs=((T.take (k+1+i)).map PZ).sum:=by
    intro i;obtain⟨hs,u1,u2,u3⟩:=yW h (k+1+i);have e:T.take (k+1+i)=T.take (k+1)++(T.drop (k+1)).take i:=List.take_add;have v:=u1;rw[e,yg]at v;have e2:kO (T.take (k+1)) []=some ({ F with kind:="else",st:=false } :: B):=by rw[gI,aP hk,yg,g1,he];show (jz .els (F :: B)).bind (kO [])=_;simp only[jz];rw[PP (PL c)];rfl
    rw[e2]at v;exact⟨hs,v,jau h u1⟩
   have hr:j4 (T.drop (k+1)) (F :: B)=some (j - (k+1)):=by
    refine jfZ (n:=B.length) (m:=j - (k+1)) (R:=T.drop (k+1)) (gs:=F :: B) ⟨[],{ F with kind:="else",st:=false },F,B,rfl,rfl,rfl,c,rfl⟩ (by rw[eF];omega) (fun i i1 i2=>?_) ?_
    .obtain⟨hs,r1,r2⟩:=run i
     refine⟨hs,r1,?_⟩;have:=oR (k+i) N4 N4;rw[show k+i+1=k+1+i from N4,<- r2,hn]at this;unfold dp at this;omega
    .obtain⟨hs,r1,r2⟩:=run (j - (k+1)+1)
     refine⟨hs,r1,?_⟩;rw[show k+1+(j - (k+1)+1)=j+1 by omega]at r2;rw[<- r2,hn]at B6;unfold dp at B6;omega
   rw[zw g1,hr];show some (j - (k+1)+(T.take k).length)=_;rw[cq,fz (cP hk),show j - (k+1)+k=j - 1 by omega]
  .cases s1
end
def QX.else_is{t:Tk}(h:QX r t)(hb:t≠.bad):decide (V.str (mS (km (cd r)))=V.str (aa "else"))=decide (t=.els):=by
 refine decide_eq_decide.mpr ⟨fun e=>?_,fun e=>by rw[h.el e,qc]⟩;injection e with e;have:=ZL (u:=.els) h hb N3;have e2:QF r=cd (aa "else"):=by unfold QF;have:=PR cd e;rw[kS]at this;rw[this];decide +kernel
 rw[e2,qc]at this;exact PK (this.symm.trans N3)
def yT(q:Nat->Bool)(i:Nat):List Nat:=(ir i).filter q
def zQ(q:Nat->Bool)(i:Nat):yT q (i+1)=yT q i++if q i=true then [i] else []:=by unfold yT;rw[OZ,Fg];congr 1;rw[nX];rfl
def YM(q:Nat->Bool)(i:Nat):(yT q i).length<=i:=by unfold yT;exact aw (O8 _ _) (by rw[ub];exact aK _)
def Ko{q:Nat->Bool}{k:Nat}:k∈yT q i↔k < i/\q k=true:=by unfold yT;rw[pV,t0]
section
theorem jk3(F:Fun K "_law_lone" "_law_lone" jaE f fd)(B:Ni mg)(aG:Fn P w K mg base 1 "_law_draw" Nx qJ)(lM:Fn P w K mg base 1 "_law_deep" Ej Ql):MT P w K mg base PU 2 f fd Nv P4:=by
 have sc:tS X3 Nv (jo jaE):=fQ;refine F.okZ sc (fun aB A iw s H vs Q E hr h=>?_);cases h with
 | mk d rl dw n R T hd hl hR bw aR q=>?_
 refine⟨_,(ja (jh 2 sc.nd (qT M2 [1] rfl (qr (sc:=jo jaE) (N:=X3) rfl rfl N3) (kP N9 B.range_ (jp (j7 jE N9 B.len_ ku (jp (bB 1))))) (fun s H ex=>⟨(kU (i:=0) (show cv (["_law_k","_law_rows"]:List Str) from N3) rfl oQ),(YG (qA (jcl (K:=K) bi EA Ez y0 (js (Y6 (K:=K)) (bB 1) (bB 0)) (jp jb)))),(bB 0)⟩))) (ja (yb (i:=3) sc.nd rfl oQ M2 [1,2] rfl (qr (sc:=jo jaE) (N:=X3) rfl rfl N3) (jet N9 B.range_ (jj je (j7 jE N9 B.len_ ku (jp (bB 1))))) (fun s H ex=>⟨(kU (i:=0) (show cv (["_law_k","_law_rows","_law_heads"]:List Str) from N3) rfl oQ),(YG (zx (jx (jbw (K:=K)) (bB 0) (bB 2) rfl) (zh (jx j6 (jB lM hr (jj (bB 1) (bB 0))) je (jA _)))).pt),(bB 0)⟩)) (ja (jh 4 sc.nd (js jQ (bB 3) (jB aG hr (jj (bB 0) (j7 jE N9 B.len_ ku (jp (bB 3))))))) (ja (jh 5 sc.nd (js jQ (jI (jr jb (jj jb jb))) (jB aG hr (jj (bB 0) je)))) (jg (jy (jG (jj (jn j9 (jn j9 (kq qv (bB 1) kF (kE (bB 4))) (jI (jp (jn jw jb (bB 5))))) (kq qv (bB 1) (kE (bB 4)) kF)) (jn qb (bB 4) (kJ Js N9 B.int_ JI (jp (ki j6 (bB 5) jb (jA _))))))))))))),?_⟩
 refine kK ?_
 try dsimp only[qF]
 refine K4 ?_;intro _ _ _ _;have bb:=hR.w.len;have iM:=hR.n;have wc:T≠[]:=fun e=>aR (uc.mp (by rw[bb,e];rfl))
 have nd:∀{a:ac},H a=none->a≠d:=fun h e=>by rw[e,hd]at h;cases h
 let q1:Nat->Bool:=fun k=>decide (T.getD k .bad=.proc)
 refine Pp rfl ⟨rl,Pp rfl ⟨.inl (ES.of hl),Pp rfl ⟨N4,by rw[av];omega,fun p hp=>?_⟩⟩⟩;rw[av,dk];refine qg (fun i σ' G=>∃u,σ'=[u,some (.ref rl)]/\ML H G/\G p=some (.lst ((yT q1 i).map fun k=>V.int (k:Nat)))) ⟨none,rfl,jd hp _,jc⟩ ?_ ?_
 .rintro i σ' G hi ⟨u,rfl,sG,hG⟩
  rw[uk];unfold qz;have fR:i < T.length:=by omega
  have bF:Qd (R.map V.str) ((i:Nat):Int)=some (.str R[i]):=ju (by rw[bP,aP hi];rfl);refine Ps rfl rfl ⟨rl,_,Pq rfl rfl ⟨ES.of (sG _ _ hl),bF,rfl,Pq rfl rfl ?_⟩⟩;rw[Zs,(hR.w.at_ i hi fR).pr (hR.nb _ (cH fR))];have hq:q1 i=decide (T[i]=.proc):=by show decide (T.getD i .bad=.proc)=_;rw[zp fR]
  have vJ:=YM q1 i;refine Pp rfl (kW (fun c=>?_) (fun c=>?_))
  .refine Pp rfl ⟨_,hG,y9 (by rw[av];omega),Pp rfl ⟨ML.touch sG hp,?_⟩⟩
   rw[jc,zQ,hq,PP c,bj];rfl
  .refine Pp rfl ⟨sG,?_⟩
   rw[zQ,hq,PN c,bE];exact hG
 rintro σ' G ⟨u,rfl,sG,hG⟩;have rP:=nd hp;refine gQ ?_;let q2:Nat->Bool:=fun k=>!q1 k && decide (((T.take k).map PZ).sum=0)
 refine Pp rfl ⟨rl,Pp rfl ⟨.inl (ES.of (sG _ _ hl)),_,Pp rfl ⟨⟨N4,N4,N4,by rw[av];omega⟩,fun p2 aQ=>?_⟩⟩⟩;rw[av,show (((R.length:Nat):Int) - 1).toNat=R.length - 1 by omega];refine qg (fun i σ' G2=>∃u,σ'=[u,some (.ref rl),some (.ref p)]/\ML G G2/\G2 p2=some (.lst (((yT (fun k=>q2 (k+1)) i).map (·+1)).map fun k=>V.int (k:Nat)))) ⟨none,rfl,jd aQ _,jc⟩ ?_ ?_
 .rintro i σ' G2 hi ⟨u,rfl,gp,g_⟩
  rw[show (1+((i:Nat):Int))=((i+1:Nat):Int) by omega];unfold qz;have iK:i+1 < R.length:=by omega
  have vJ:=YM (fun k=>q2 (k+1)) i;have b_:RD (.int ((i+1:Nat):Int)) ((yT q1 R.length).map fun k=>V.int (k:Nat))=q1 (i+1):=by rw[jd7];refine dZ.mpr ?_;rw[decide_eq_true_eq,Ko];exact⟨fun h=>h.2,fun h=>⟨iK,h⟩⟩
  refine Ps rfl rfl ⟨p,Pp rfl ⟨.inl (ES.of (gp _ _ hG)),rfl,jb4 _,?_⟩⟩;rw[PP rfl,b_];have hq:q2 (i+1)=(!q1 (i+1) && decide (((T.take (i+1)).map PZ).sum=0)):=rfl;refine Pp rfl (kW (fun c=>?_) (fun c=>?_))
  .rw[c,gk]at hq
   refine Ps rfl rfl (Ql.mk rl R T (i+1) (gp _ _ (sG _ _ hl)) hR fun G3 s3=>⟨rfl,Pp rfl ?_⟩);have AQ:=gp.trans s3;have su:=s3 _ _ g_;refine kW (fun c2=>?_) (fun c2=>?_)
   .have c2:((T.take (i+1)).map PZ).sum=0:=by have:=PK c2;injection this
    rw[PL c2]at hq;refine Pp rfl ⟨_,su,y9 (by rw[av,av];omega),Pp rfl ⟨ML.touch AQ aQ,?_⟩⟩;rw[jc,zQ,show q2 (i+1)=true from hq,PP rfl,bj,bj];rfl
   .have c2:¬((T.take (i+1)).map PZ).sum=0:=fun e=>c2 (by rw[e];rfl)
    rw[PM c2]at hq;refine Pp rfl ⟨AQ,?_⟩;rw[zQ,show q2 (i+1)=false from hq,PN aU,bE];exact su
  .rw[q_]at c
   rw[c,ra]at hq;refine Pp rfl ⟨gp,?_⟩;rw[zQ,show q2 (i+1)=false from hq,PN aU,bE];exact g_
 rintro σ' G2 ⟨u,rfl,gp,g_⟩;have gp:=sG.trans gp;clear hG;refine gQ ?_;obtain⟨b1,gx,b2,b3⟩:=jbY bw wc;have we:0 < ((yT (fun k=>q2 (k+1)) (R.length - 1)).map (·+1)).length:=by
  rw[av];refine pW.mpr fun e=>?_
  have:T.length - 2∈yT (fun k=>q2 (k+1)) (R.length - 1):=by rw[Ko];refine⟨N4,?_⟩;show (!decide (T.getD (T.length - 2+1) .bad=.proc) && decide (((T.take (T.length - 2+1)).map PZ).sum=0))=true;rw[show T.length - 2+1=T.length - 1 from N4,zp gx,b2,PL b3];rfl
  rw[e]at this
  cases this
 have pe:∀k∈(yT (fun k=>q2 (k+1)) (R.length - 1)).map (·+1),∃hk:k < T.length,T[k]≠.proc/\((T.take k).map PZ).sum=0:=fun k hk=>by
  obtain⟨j,hj,rfl⟩:=fD.mp hk;obtain⟨j1,j2⟩:=Ko.mp hj;have cE:j+1 < T.length:=by omega
  have j2:(!decide (T.getD (j+1) .bad=.proc) && decide (((T.take (j+1)).map PZ).sum=0))=true:=j2;rw[zp cE,bg,fG,decide_eq_false_iff_not,decide_eq_true_eq]at j2;exact⟨cE,j2⟩
 have IV:((yT (fun k=>q2 (k+1)) (R.length - 1)).map (·+1)).length<=5000:=by have:=YM (fun k=>q2 (k+1)) (R.length - 1);rw[av];omega
 generalize (yT (fun k=>q2 (k+1)) (R.length - 1)).map (·+1)=S at *;have d2:=gp _ _ hd;have l2:=gp _ _ hl;obtain⟨x,n1,G3,ex,eG,lo,hi,k3,d3⟩:=Q6 (m:=((S.length:Nat):Int)) d2 N4;obtain⟨k,vL,bF⟩:=jgF lo hi;obtain⟨cE,rX,Ih⟩:=pe k vL;have HK:p2≠d:=fun e=>by rw[e,sG _ _ hd]at aQ;cases aQ
 refine Ps rfl rfl (Pp rfl ⟨p2,Pp rfl ⟨.inl (ES.of g_),d,dw,n,((S.length:Nat):Int),by rw[av];rfl,d2,N4,N4,?_⟩⟩);rw[eG,ex];refine⟨p2,_,Pq rfl rfl ⟨ES.of (k3 _ _ HK g_),bF,?_⟩⟩;have l3:=k3.strs d2 l2;have k3:=(uo.same gp).trans k3;clear bF g_ eG ex we pe l2 d2;refine gQ ?_;refine⟨sm rfl,fun l0 h0=>?_⟩;have s4:=jd h0 (.lst (([aa "else",aa "end",aa "back"]).map V.str));have e4:=Pn (H:=G3) l0 (.lst (([aa "else",aa "end",aa "back"]).map V.str));have l4:=s4 _ _ l3;have d4:=s4 _ _ d3;have k4:=k3.trans (uo.same s4);refine (?_:zM _ _ _ _ _ (upd G3 l0 (.lst (([aa "else",aa "end",aa "back"]).map V.str))) _);generalize upd G3 l0 _=G4 at *;obtain⟨y,n5,G5,ex,eG,oA,oZ,k5,d5⟩:=Q6 (m:=3) d4 N5;refine Pp rfl ⟨d,dw,n1,3,rfl,d4,N5,N5,?_⟩;rw[eG,ex];have l5:=k5.strs d4 l4;have hm:=zk (xs:=[aa "else",aa "end",aa "back"]) oA (show y < (3:Nat) from oZ);refine⟨l0,_,Pq rfl rfl ⟨ES.of (k5.strs d4 e4),qS oA (show y < (3:Nat) from oZ),?_⟩⟩;obtain⟨t,ht,et⟩:∃t:Tk,(t=.els\/t=.fin\/t=.back)/\qY [aa "else",aa "end",aa "back"] y=PX t:=by
  simp only[aA,fC,or_false]at hm;rcases hm with h | h | h
  .exact⟨.els,.inl rfl,h⟩
  .exact⟨.fin,.inr (.inl rfl),h⟩
  .exact⟨.back,.inr (.inr rfl),h⟩
 rw[et];have k5:=k4.trans k5;clear et hm e4 s4 l4 d4 k4 l3 d3 k3 h0 eG ex;refine gQ ?_;have oJ:=jlm ht;have gR:2+(PX t).length<=aF:=jU (by rcases ht with rfl | rfl | rfl <;> decide +kernel);obtain⟨f1,f2,f3⟩:=jjv bw cE rX Ih;have Iw:Z1 (j4 (T.take k++t :: T.drop k) [])=.int (((k:Nat):Int)+if decide (V.str (PX t)=V.str (aa "back"))=true then 1 else 0):=by
  rcases ht with rfl | rfl | rfl
  .rw[f1,PN N3];show V.int _=_;rw[Pr]
  .rw[f2,PN N3];show V.int _=_;rw[Pr]
  .rw[f3,PP N3];rfl
 refine Ps rfl rfl (Pp rfl (Pq rfl (ES.of l5) (fun a ha=>?_)));rw[zm,<- i3];have s6:=jd ha (.lst ((R.take k).map V.str));have e6:=Pn (H:=G5) a (.lst ((R.take k).map V.str));refine Pp rfl (Pq rfl rfl ⟨gR,sm rfl,fun b hb=>?_⟩);have s7:=jd hb (.lst [V.str (aa "  "++PX t)]);have e7:upd (upd G5 a (.lst ((R.take k).map V.str))) b (.lst [V.str (aa "  "++PX t)]) b=some (.lst ([aa "  "++PX t].map V.str)):=jc;refine Zk (i:=1) (j:=4) (k:=k) (z:=aa "  "++PX t) rfl rfl (s7 _ _ (s6 _ _ l5)) (s7 _ _ e6) e7 iM fun b2 G8 s8 e8=>?_
 have s8:=s6.trans (s7.trans s8);refine Ps rfl rfl ⟨rfl,.inr (Pp rfl (Pq rfl rfl ⟨sm rfl,fun p hp=>?_⟩))⟩;exact q p b2 _ _ n5 _ (k5.trans (uo.same (s8.trans (jd hp _)))) (by rw[jc,Iw]) (jd hp _ _ _ e8) (jfh hR k oJ) jc3 (jd hp _ _ _ (s8 _ _ d5))
def jgR{c:TT}{tb u:TS}{D:OK}{σ:L2.St}(h:jcr c tb { D with nx:=u D } σ H):jC (jcr c tb) u D σ H:=h
def jmX(h:Q9 R T)(k:Nat):Qp (R.take k++R.drop (k+1)) (T.take k++T.drop (k+1)):=(jcq h k).app ((h.w.rg h.ok).drop (k+1))
theorem jeW(F:Fun K "_law_lacking" "_law_lacking" jcG f fd)(B:Ni mg)(aG:Fn P w K mg base 1 "_law_draw" Nx qJ)(lM:Fn P w K mg base 1 "_law_deep" Ej Ql):MT P w K mg base PU 2 f fd Nv P4:=by
 have sc:tS X8 Nv (jo jcG):=fQ;refine F.okZ sc (fun aB A iw s H vs Q E hr h=>?_);cases h with
 | mk d rl dw n R T hd hl hR bw aR q=>?_
 refine⟨_,(ja (yb (i:=2) sc.nd rfl oQ M2 [1] rfl (qr (sc:=jo jcG) (N:=X8) rfl rfl N3) (kP N9 B.range_ (jp (j7 jE N9 B.len_ ku (jp (bB 1))))) (fun s H ex=>⟨(kU (i:=0) (show cv (["_law_k","_law_rows"]:List Str) from N3) rfl oQ),(YG (yS (jx j6 (jcl (K:=K) bi pP pM yw (js (Y6 (K:=K)) (bB 1) (bB 0)) (jp jb)) jb (jA _)) (Jt (jx j6 (js (Y6 (K:=K)) (bB 1) (bB 0)) jb (jA _)))).pt),(bB 0)⟩)) (ja (jh 3 sc.nd (js jQ (bB 2) (jB aG hr (jj (bB 0) (j7 jE N9 B.len_ ku (jp (bB 2))))))) (ja (jh 4 sc.nd (jn j9 (kq qv (bB 1) kF (kE (bB 3))) (kq qv (bB 1) (kE (jn qb (bB 3) je)) kF))) (ja (jR (jx j6 (js jQ (bB 1) (bB 3)) jb (jA _)) (jg (jy (jG (jj (bB 4) (bB 3))))) jH) (ja (jh 5 sc.nd (jB lM hr (jj (bB 1) (bB 3)))) (ja (jh 6 sc.nd (jn qb (bB 3) je)) (ja (jbA il (jx jiP (jB lM hr (jj (bB 1) (jn qb (bB 6) je))) (bB 5) (jA _)) (jg (jh 6 sc.nd (jn qb (bB 6) je)))) (jg (jy (jG (jj (bB 4) (jn Ki (bB 6) je)))))))))))),?_⟩
 refine kK ?_
 try dsimp only[qF]
 refine jnW ?_;intro _ _ _ _ _ _ _;have bb:=hR.w.len;have iM:=hR.n;have wc:T≠[]:=fun e=>aR (uc.mp (by rw[bb,e];rfl))
 let q1:Nat->Bool:=fun k=>decide (T.getD k .bad=.els) || decide (T.getD k .bad=.back)
 refine Pp rfl ⟨rl,Pp rfl ⟨.inl (ES.of hl),Pp rfl ⟨N4,by rw[av];omega,fun p hp=>?_⟩⟩⟩;rw[av,dk];have rP:p≠d:=fun e=>by rw[e,hd]at hp;cases hp
 refine qg (fun i σ' G=>∃u,σ'=[u,some (.ref rl)]/\ML H G/\G p=some (.lst ((yT q1 i).map fun k=>V.int (k:Nat)))) ⟨none,rfl,jd hp _,jc⟩ ?_ ?_
 .rintro i σ' G hi ⟨u,rfl,sG,hG⟩
  rw[uk];unfold qz;have fR:i < T.length:=by omega
  have bF:Qd (R.map V.str) ((i:Nat):Int)=some (.str R[i]):=ju (by rw[bP,aP hi];rfl);have hw:=hR.w.at_ i hi fR;have mH:=hR.nb _ (cH fR);have vv:=(hR.ok _ (cH hi)).2;have hq:q1 i=(decide (T[i]=.els) || decide (T[i]=.back)):=by show (decide (T.getD i .bad=.els) || decide (T.getD i .bad=.back))=_;rw[zp fR]
  have vJ:=YM q1 i;have Ay:q1 i=true->∃ys,G p=some (.lst ys)/\ys.length < aF/\∃u,[some (V.int ((i:Nat):Int)),some (V.ref rl)]=[u,some (.ref rl)]/\ML H (upd G p (.lst (ys++[.int (i:Nat)])))/\upd G p (.lst (ys++[.int (i:Nat)])) p=some (.lst ((yT q1 (i+1)).map fun k=>V.int (k:Nat))):=fun e=>⟨_,hG,y9 (by rw[av];omega),_,rfl,ML.touch sG hp,by rw[jc,zQ,PP e,bj];rfl⟩
  refine Ps rfl rfl ⟨rl,_,Pq rfl rfl ⟨ES.of (sG _ _ hl),bF,rfl,Pq rfl rfl ⟨jU (aw vv N5),rfl,?_⟩⟩⟩;rw[Jg,hw.else_is mH];refine Pp rfl (kW (fun c=>?_) (fun c=>?_))
  .refine Pp rfl (Ay ?_)
   rw[hq,c];rfl
  .rw[q_]at c
   rw[c,uq]at hq;refine Ps rfl rfl ⟨rl,_,Pq rfl rfl ⟨ES.of (sG _ _ hl),bF,rfl,?_⟩⟩;rw[hw.back_is mH,<- hq];refine Pp rfl (kW (fun c=>(Pp rfl (Ay c))) (fun c=>?_));refine Pp rfl ⟨sG,?_⟩;rw[zQ,PN c,bE];exact hG
 rintro σ' G ⟨u,rfl,sG,hG⟩;refine gQ ?_;obtain⟨b1,gx,b2,b3⟩:=jbY bw wc;have we:0 < (yT q1 R.length).length:=by
  refine pW.mpr fun e=>?_
  have:T.length - 1∈yT q1 R.length:=by rw[Ko];refine⟨N4,?_⟩;show (decide (T.getD (T.length - 1) .bad=.els) || decide (T.getD (T.length - 1) .bad=.back))=true;rw[zp gx,b2];rfl
  rw[e]at this
  cases this
 have IV:=YM q1 R.length;have pe:∀k∈yT q1 R.length,∃hk:k < T.length,T[k]=.els\/T[k]=.back:=fun k hk=>by
  obtain⟨j1,j2⟩:=Ko.mp hk;have cE:k < T.length:=by omega
  have j2:(decide (T.getD k .bad=.els) || decide (T.getD k .bad=.back))=true:=j2;rw[zp cE,Au,decide_eq_true_eq,decide_eq_true_eq]at j2;exact⟨cE,j2⟩
 generalize yT q1 R.length=S at *;have d2:=sG _ _ hd;have l2:=sG _ _ hl;obtain⟨x,n1,G3,ex,eG,lo,hi,k3,d3⟩:=Q6 (m:=((S.length:Nat):Int)) d2 N4;obtain⟨k,vL,bF⟩:=jgF lo hi;obtain⟨cE,rX⟩:=pe k vL;refine Ps rfl rfl (Pp rfl ⟨p,Pp rfl ⟨.inl (ES.of hG),d,dw,n,((S.length:Nat):Int),by rw[av];rfl,d2,N4,N4,?_⟩⟩);rw[eG,ex];refine⟨p,_,Pq rfl rfl ⟨ES.of (k3 _ _ rP hG),bF,?_⟩⟩;have l3:=k3.strs d2 l2;have k3:=(uo.same sG).trans k3;clear bF hG eG ex we pe l2 d2 sG;refine gQ ?_;have BZ:k < R.length:=by omega
 refine Ps rfl rfl (Pp rfl (Pq rfl (ES.of l3) (fun a ha=>?_)));rw[zm,<- i3];have s4:=jd ha (.lst ((R.take k).map V.str));have e4:=Pn (H:=G3) a (.lst ((R.take k).map V.str));refine Ps rfl rfl (Pq rfl rfl (Pp rfl (Pq rfl (ES.of (s4 _ _ l3)) (fun b hb=>?_))));rw[show (((k:Nat):Int)+1)=((k+1:Nat):Int) from rfl,jbg,<- O7];have s5:=jd hb (.lst ((R.drop (k+1)).map V.str));refine RT (s5 _ _ e4) jc (by rw[cq,eF];omega) fun lf G6 s6 e6=>?_
 have s6:=s4.trans (s5.trans s6);have k6:=k3.trans (uo.same s6);have d6:=s6 _ _ d3;have l6:=s6 _ _ l3;clear s4 s5 e4 ha hb k3 d3 l3 s6;refine gQ ?_;have oJ:=jmX hR k;have oS:(R.take k++R.drop (k+1)).length<=R.length+1:=by rw[az,cq,eF];omega
 have fin:∀{pp:ac} {G:Hp} {v:V},ML G6 G->G pp=none->Z1 (j4 (T.take k++T.drop (k+1)) [])=v->Q (.ref pp) (upd G pp (.tup [.ref lf,v])):=fun {pp G v} sG hp hv=>q pp lf _ _ n1 _ (k6.trans (uo.same (sG.trans (jd hp _)))) (by rw[jc,hv]) (jd hp _ _ _ (sG _ _ e6)) oJ oS (jd hp _ _ _ (sG _ _ d6))
 have mU:Qd (R.map V.str) ((k:Nat):Int)=some (.str R[k]):=ju (by rw[bP,aP BZ];rfl);refine Ps rfl rfl ⟨rl,_,Pq rfl rfl ⟨ES.of l6,mU,rfl,?_⟩⟩;rw[(hR.w.at_ k BZ cE).back_is (hR.nb _ (cH cE))];refine Pp rfl (kW (fun c=>?_) (fun c=>?_))
 .exact Ps rfl rfl ⟨sm rfl,fun pp hp=>fin (fun _ _ e=>e) hp (by rw[jfB bw cE (PK c)];rfl)⟩
 have he:T[k]=.els:=rX.resolve_right fun e=>c (PL e)
 clear c mU rX;refine Ps rfl rfl (Ql.mk rl R T k l6 hR fun G7 s7=>?_);refine gQ ?_;refine Pp rfl (Pq rfl rfl ?_);refine gQ ?_;have B_:((T.take T.length).map PZ).sum < ((T.take k).map PZ).sum:=by
  obtain⟨fs,g1,g2,g3⟩:=yW bw k;obtain⟨gs,t1,t2⟩:=Ke g2 cE;rw[iq,<- jau bw g1,<- uk (T.map PZ).sum];have h0:=(jaH (fs:=[]) True.intro bw).2;rw[show dp ([]:List Fr)=0 from rfl]at h0;rw[<- h0];rw[he]at t1
  cases fs with
  | nil=>cases t1
  | cons F B=>
   cases B with
   | nil=>
    simp only[jz]at t1;split at t1
    .rename_i c
     have g3:F.kind = "proc":=g3;rw[PK c]at g3;exact absurd g3 N5
    .cases t1
   | cons _ _=>unfold dp;simp
 have vK:k+1 < T.length:=by
  rcases gf (k+1) T.length with h | h
  .exact h
  .exfalso
   have e:k+1=T.length:=by omega
   rw[<- e,jdr cE,he]at B_;simp[PZ]at B_
 refine jgR ?_;let Wv:Nat->L2.St->Hp->Prop:=fun m σ G=>∃j:Nat,j+m=T.length/\k+1<=j/\j < T.length/\(∀i,k+1<=i->i < j->((T.take k).map PZ).sum<=((T.take (i+1)).map PZ).sum)/\σ=[some (.ref d),some (.ref rl),some (.ref p),some (.int (k:Nat)),some (.ref lf),some (.int ((T.take k).map PZ).sum),some (.int (j:Nat))]/\ML G6 G
 refine⟨Wv,⟨T.length - (k+1),k+1,N4,aK _,vK,fun i h1 h2=>N4,rfl,s7⟩,?_⟩;rintro m σ G ⟨j,hm,Ip,Io,oR,rfl,sG⟩;refine Ps rfl rfl (Pq rfl rfl (Ql.mk rl R T (j+1) (sG _ _ l6) hR fun G8 s8=>(Pp rfl (Pq rfl rfl (Pp rfl (kW (fun c=>?_) (fun c=>?_)))))))
 .have c:=PK c
  have Im:j+1 < T.length:=by
   rcases gf (j+1) T.length with h | h
   .exact h
   .rw[show j+1=T.length by omega]at c;omega
  refine⟨Wv (m - 1),fun σ' G' h=>⟨m - 1,N4,h⟩,?_⟩;refine Pp rfl (Pq rfl rfl ⟨j+1,N4,N4,Im,fun i h1 h2=>?_,rfl,sG.trans s8⟩);rcases gf i j with h | h
  .exact oR i h1 h
  .rw[show i=j by omega];exact c
 .have c:((T.take (j+1)).map PZ).sum < ((T.take k).map PZ).sum:=by
   rcases Int.lt_or_le ((T.take (j+1)).map PZ).sum ((T.take k).map PZ).sum with h | h
   .exact h
   .exact absurd (PL h) c
  refine Ps rfl rfl (Pq rfl rfl ⟨sm rfl,fun pp hp=>fin (sG.trans s8) hp ?_⟩);rw[jhJ bw cE he Ip Io oR c];show V.int _=V.int _;congr 1;omega
end
end LW
namespace L2
open PySem PySem.Spec PyProof.Rows
def jid(sp:Sp)(C:ac)(i:Nat)(t:TA)(ts:TS):TS:=fun D σ H=>t σ H fun vs H1=>sp (vs++[]) H1 (fun v H2=>D.nx σ H2) fun cls dd H2=>cls=.ref C/\∃dx,dd=some dx/\∀e,H2 e=none->ts (D.gone i) (σ.set i (some (.ref e))) (upd H2 e (yR C e dx))
variable {X:Cx}
def jiB{k k':Nat}{x c n:Str}{ps:List Str}{sp:Sp}{C C1:ac}{e:aj}{es:List aj}{t:TA}{ts:TS}{i:Nat}{p cp np ap hp x5:Pos}{b0:ay}{oa:List ay}
  (F:NI X.prog X.w X.K X.mg X.base k x ps sp) (bZ:X.stack=X.Ec :: X.iw) (bc:X.Ec.frame=some X.Ec.locals) (hr:Np k' X.A) (ha:PA X.nox (e :: es) t) (hs:∀e,Rj (X.hush e) (b0 :: oa) ts)
  (hN:X.N.Nodup) (hi:X.N[i]?=some n) (hn:X.Ec.scope.names.lookup n=some .local)
  (vP:Gl X c) (vI:X.mg c=some (.ref C1)) (hx:xIn X.K C valB "ValueError.__new__" = true) (iD:xIn X.K C1 valB "ValueError.__new__" = true) (fO:lU X.K C (.ref C1)=some true)
  (hk:k<=k':=by decide) (hg:Gl X x:=by rfl)
  (hd:(x == ("__debug__" : Str))=false:=by decide) (vW:(c == ("__debug__" : Str))=false:=by decide) (oN:(e :: es).all qD=true:=by rfl) (k_:gC (.Call (.Name x p) (e :: es) [] cp) none ap.line X.Ec=pure false:=by rfl) :
  PS X (.Try [.Expr (.Call (.Name x p) (e :: es) [] cp) ap] [.ExceptHandler (some (.Name c np)) (some n) (b0 :: oa) hp] [] [] x5) (jid sp C i t ts):=by
 obtain⟨f,fd,G,b,kp,m⟩:=F.ex
 rw[eX,bg]at oN
 have he:=qX oN.1 es X.Ec
 have df:=yV cp X.Ec es oN.2
 intro ad s σ H D I h
 refine wpAny_Try_except (DP ?_)
 refine wpAny_Expr_any (iR (yt I hg m ?_ hd)) I.quiet k_
 refine xR (h₀:=X.base) I.ok.mod.kin kp (bz (ha cp ad s σ H _ (I.wish _) h) (fun us s1 ⟨vs,H1,I1,r,q⟩=>⟨I1.unwish.kIn,?_⟩) fun _ _ z=>z.elim) he df
 replace I1:=I1.unwish
 refine bz (jkH G (hr.mono hk) b .nil I1 r q) (fun u s2 ⟨v,H2,I2,rv,q2⟩=>?_) fun ev s2 dJ=>?_
 .exact pD (pD ⟨_,H2,I2,q2⟩)
 .obtain⟨ea,cls,dd,H',rfl,os,bare,un,hok,fly,rfl,dx,rfl,hE⟩:=dJ
  have I2:xJ X ad σ H' s2:=I1.call' os un hok bare (fun b z=>absurd z NZ)
  have stk:=I2.stkFree
  rw[bZ]at stk un
  have hbs:∀b o,X.base.get? b=some o->b ∉ No (X.Ec :: X.iw)/\∃u,s1.heap.get? b=some u:=fun b o hb=>by
   refine⟨fun hm=>?_,⟨o,I1.bk b o hb⟩⟩;have hs:=I1.stack;rw[bZ]at hs;have:∀{l:List Env},s1.heap.FunFrames X.base l->b∈No l->False:=by
    intro l;induction l with
    | nil=>intro _ h;cases h
    | cons Ec l ih=>
     intro hf hm;obtain⟨_,⟨L,o',e1,e2,_,_⟩,hr⟩:=hf;unfold No at hm;rw[fF,e1]at hm;rcases aA.mp hm with rfl | hm
     .rw[e2]at hb;cases hb
     .exact ih hr hm
   exact this hs hm
  have hH:∀{h2:ak},Un (No (X.Ec :: X.iw)) [] H1 H' s1.heap h2->P6 X.prog X.w H' h2->∀b,h2.get? b=none->H' b=none/\s1.heap.get? b=none:=fun {h2} u k b hb=>by
   refine⟨?_,?_⟩
   .rcases hh:H' b with _ | o
    .rfl
    .obtain⟨u,hu⟩:=(k b o hh).ex
     rw[hu]at hb;cases hb
   .rcases hh:s1.heap.get? b with _ | o
    .rfl
    .obtain⟨o',h5⟩:=u.there b o hh NZ
     rw[h5]at hb;cases hb
  have wt:=I2.stack
  rw[bZ]at wt
  refine jfc (by rw[I2.ok.frames,bZ]) wt bc fly stk (hH un hok) (fun h3 l3 CF Lu=>?_) hbs
  have uv:=un.left (P:=X.prog) (w:=X.w) l3
  have vD:=hok.left stk l3
  have I3:xJ X ad σ H' { s2 with heap:=h3 }:=I1.call' os (by rw[bZ];exact uv) vD bare (fun b z=>absurd z NZ)
  refine wpAny_handleBy_cons (codeAny_handlers_test (yt (I3.hush ea) vP vI ?_ vW)) (by intro q;cases q)
  obtain⟨bm,N,nm,qn,bs,hdct,sn,sub,ab,col,dd,k0,k1,k2,k3,k5,o1,o4⟩:=xObj_of_in I3.mod.kin hx
  have si:bm.contains (.type "BaseException")=true:=Ev o4 lZ.hasBase
  obtain⟨oe,ves,T,oT,tts,a0,t1,t2,t3,_⟩:=CF.fly.tr
  obtain⟨sB,N',Bo,qn',CW,Ca,AL,uB,CZ,CU,fW,BI,BG,mz,BE,BD,p1,p4⟩:=xObj_of_in I3.mod.kin iD
  have si:sB.contains (.type "BaseException")=true:=Ev p4 lZ.hasBase
  refine jba (I3.bk _ _ p1) (I3.bk _ _ o1) t1 t2 si (jlj I3.mod.kin o1 fO) (codeAny_handlers_suite_as ?_)
  refine jd3 Lu CF stk (hH uv vD) (fun h4 l4 pw fs4=>?_) hbs
  have Fz:=(uv.left (P:=X.prog) (w:=X.w) l4).track (o:=yR C ea dx) pw.fly.he pw.fly.ne
  have HN:=(vD.left stk l4).track pw.fly.he (jjN pw)
  have I4:xJ X ad σ (upd H' ea (yR C ea dx)) { s2 with heap:=h4 }:=I1.call' os (by rw[bZ];exact Fz) HN bare (fun b z=>absurd z NZ)
  refine YS (v:=.ref ea) I4 hN hi (.inl hn) rfl (fun s5 I5=>?_) (.inr hn)
  refine bz (hs ea ad s5 _ _ (D.gone i) (I5.hush ea) (hE ea pw.fly.he)) (fun fl s6 h6=>?_) fun _ _ z=>z.elim
  cases fl with
  | next=>
   obtain⟨σ',H6,I6,q6⟩:=h6
   exact jal (v:=.non) (I6.unhush I5.ok) hN hi hn fun s7 I7=>⟨_,H6,I7,q6⟩
  | brk=>
   obtain⟨σ',H6,I6,q6⟩:=h6
   exact jal (v:=.non) (I6.unhush I5.ok) hN hi hn fun s7 I7=>⟨_,H6,I7,q6⟩
  | cont=>
   obtain⟨σ',H6,I6,q6⟩:=h6
   exact jal (v:=.non) (I6.unhush I5.ok) hN hi hn fun s7 I7=>⟨_,H6,I7,q6⟩
  | ret u=>
   obtain⟨v,σ',H6,I6,r6,q6⟩:=h6
   exact jal (v:=.non) (I6.unhush I5.ok) hN hi hn fun s7 I7=>⟨v,_,H6,I7,r6,q6⟩
def jgH{k k':Nat}{x c n:Str}{ps:List Str}{sp:Sp}{C C1:ac}{e:aj}{es:List aj}{t:TA}{ts:TS}{i:Nat}{p cp np ap hp x5:Pos}{b0:ay}{oa:List ay}
  (F:NI X.prog X.w X.K X.mg X.base k x ps sp) (bZ:X.stack=X.Ec :: X.iw) (bc:X.Ec.frame=some X.Ec.locals) (hr:Np k' X.A) (ha:QA X.nox (e :: es) t) (hs:∀e,Rv (X.hush e) (b0 :: oa) ts)
  (hN:X.N.Nodup) (hi:X.N[i]?=some n) (hn:X.Ec.scope.names.lookup n=some .local)
  (vP:Gl X c) (vI:X.mg c=some (.ref C1)) (hx:xIn X.K C valB "ValueError.__new__" = true) (iD:xIn X.K C1 valB "ValueError.__new__" = true) (fO:lU X.K C (.ref C1)=some true)
  (hk:k<=k':=by decide) (hg:Gl X x:=by rfl)
  (hd:(x == ("__debug__" : Str))=false:=by decide) (vW:(c == ("__debug__" : Str))=false:=by decide) (oN:(e :: es).all qD=true:=by rfl) (k_:gC (.Call (.Name x p) (e :: es) [] cp) none ap.line X.Ec=pure false:=by rfl) :
  QS X (.Try [.Expr (.Call (.Name x p) (e :: es) [] cp) ap] [.ExceptHandler (some (.Name c np)) (some n) (b0 :: oa) hp] [] [] x5) (jid sp C i t ts):=
 ⟨jiB F bZ bc hr ha.h (fun e=>(hs e).h) hN hi hn vP vI hx iD fO hk hg hd vW oN k_⟩
def yu{K:ao}(hK:X.K=K:=by rfl):zO X (.builtin "isinstance") (fun xs H Q=>∃a C dx D b,xs=[.ref a,.ref D]/\H a=some (yR C a dx)/\PySem.W.XCls K C/\fZ K (.ref C) (.ref D)=some b/\Q (.bl b) H):=by
 subst hK;intro ad s σ H xs us Q I r h;obtain⟨a,C,dx,D,b,rfl,ha,Z,e,q⟩:=h;obtain⟨u,v,rfl,ru,rv⟩:=jdn r
 cases ru
 cases rv
 obtain⟨⟨oe,vs,t1,t2,_⟩,_⟩:=(show Ng X.prog X.w H s.heap a (yR C a dx) from I.hok a _ ha)
 exact W.kia_one (W.kitx_exc Z) I.kIn ⟨oe,t1,t2⟩ e (fun z=>nomatch z) fun tk=>⟨.bl b,H,I.tok _,rfl,q⟩
end L2
namespace LW
open PySem L2
abbrev jcD:ay:=NS 78
abbrev R9:ay:=NS 80
abbrev jeK:ay:=NS 79
theorem jce{j:Int}(h0:0<=j)(h1:j < 4):cd (ii (aa " ") j)=aS j.toNat 32:=by
 have:∀n < 4,cd (ii (aa " ") ((n:Nat):Int))=aS n 32:=by decide +kernel
 have:=this j.toNat N4;rwa [show ((j.toNat:Nat):Int)=j by omega]at this
def jgP(l:List Nat)(k:Nat):km (l++aS k 32)=km l:=by
 have h:∀(k:Nat) (m:List Nat),(aS k 32++m).dropWhile (· == 32)=m.dropWhile (· == 32):=by
  intro k;induction k with
  | zero=>intro m;rfl
  | succ k ih=>intro m;rw[iZ,cJ,ui,PP (show ((32:Nat) == 32)=true from rfl),ih]
 unfold km;rw[List.dropWhile_append]
 cases e:l.dropWhile (· == 32) with
 | nil=>
  have:=h k [];rw[bE]at this;rw[List.isEmpty_nil,PP rfl,this];rfl
 | cons c m=>
  rw[List.isEmpty_cons,PN aU,OX,OW,h]
def Kz(r:Str):Prop:=10 ∉ cd r/\r.length<=1000
inductive Qr:List V->Hp->VK->XK->Prop
 | mk {H:Hp} {Q:VK} {E:XK} (rl d:ac) (w:Int) (n:Dl) (B:List Str) (TB:List Tk) (hd:H d=some (Nl w n)) (hl:H rl=some (.lst (B.map V.str))) (hB:Qp B TB) (hn:B.length<=5001) (q:∀p nl T N H',uo d H H'->H' p=some (.tup [.str (cA (aa "\n") T),.ref nl])->H' nl=some (.lst ((N++[max 2 (T.length+1)]).map fun k=>V.int (k:Nat)))->NE 1 B T N->(∀r∈T,Kz r)->T.length<=2 * B.length+4->Q (.ref p) H'):Qr [.ref rl,.ref d] H Q E
variable {K:ao}{f:ac}{fd:aE}{H:Hp}
section
variable {P:aC}{w:ax}{mg:Str->Option ae}{base:ak}
theorem jhb(F:Fun K "_law_loose" "_law_loose" jcD f fd)(B0:Ni mg)(aG:Fn P w K mg base 1 "_law_draw" Nx qJ):MT P w K mg base PU 2 f fd X4 Qr:=by
 have sc:tS ["_law_rows","_law_deal_here","_law_found","_law_numbers","_law_k"] X4 (jo jcD):=fQ;refine F.okZ sc (fun aB A iw s H vs Q E hr h=>?_);cases h with
 | mk rl d dw n R TB hd hl hR iM q=>?_
 have B:=B0;refine⟨_,(ja (jh 2 sc.nd (jI qf)) (ja (jh 3 sc.nd (jI qf)) (ja (yn il rfl (kP N9 B.range_ (jp (j7 jE N9 B.len_ ku (jp (bB 0))))) (jt 4 sc.nd) (ja (jR (jx j6 (jB aG hr (jj (bB 1) je)) je (jA _)) (jg (jP (jV bL cg cf ke (bB 2) (jp (jn jaN jb (jB aG hr (jj (bB 1) je))))))) jH) (ja (jP (jV bL cg cf ke (bB 3) (jp (jn qb (j7 jE N9 B.len_ ku (jp (bB 2))) je)))) (jg (jP (jV bL cg cf ke (bB 2) (jp (jn jw (js jQ (bB 0) (bB 4)) (jn jaN jb (jB aG hr (jj (bB 1) je))))))))))) (ja (jh 2 sc.nd (jn j9 (bB 2) (jn jmu (jI (jj jb jb)) (jB aG hr (jj (bB 1) je))))) (jg (jy (jG (jj (jV bi pQ pO KM jb (jp (bB 2))) (jn j9 (bB 3) (jI (jp (j7 (ZM rfl) N9 B.max_ jfy (jj je (jn qb (j7 jE N9 B.len_ ku (jp (bB 2))) je)))))))))))))),?_⟩
 refine kK ?_
 try dsimp only[qF]
 refine K4 ?_;intro _ _ _ _;refine⟨sm rfl,fun fl gW=>?_⟩;have s1:=jd gW (.lst []);have e1:upd H fl (.lst []) fl=some (.lst (([]:List Str).map V.str)):=jc;refine (?_:jC _ _ _ _ (upd H fl (.lst [])));generalize upd H fl _=H1 at *;refine gQ ?_;refine⟨sm rfl,fun nl iG=>?_⟩;have s2:=s1.trans (jd iG (.lst []));have e2:upd H1 nl (.lst []) nl=some (.lst (([]:List Nat).map fun k=>V.int (k:Nat))):=jc;have dm:fl≠nl:=jm e1 iG;have e1:=jd iG (.lst []) _ _ e1;have mN:fl≠d:=fun z=>by rw[z,hd]at gW;cases gW
 have vG:H nl=none:=by
  cases e:H nl with
  | none=>rfl
  | some o=>rw[s1 _ _ e]at iG;cases iG
 have ll:nl≠d:=fun z=>by rw[z,hd]at vG;cases vG
 refine (?_:jC _ _ _ _ (upd H1 nl (.lst [])));generalize upd H1 nl _=G0 at *;refine gQ ?_;refine Pp rfl ⟨rl,Pp rfl ⟨.inl (ES.of (s2 _ _ hl)),Pp rfl ⟨N4,by rw[av];omega,?_⟩⟩⟩;rw[av,dk];let Pv:Nat->L2.St->Hp->Prop:=fun i σ G=>∃u T N n',σ=[some (.ref rl),some (.ref d),some (.ref fl),some (.ref nl),u]/\uo d H G/\G d=some (Nl dw n')/\G fl=some (.lst (T.map V.str))/\G nl=some (.lst (N.map fun k:Nat=>V.int (k:Nat)))/\NE 1 (R.take i) T N/\(∀r∈T,Kz r)/\T.length<=2 * i
 have kt:∀{G:Hp} {a:ac} {o:HO},uo d H G->H a=none->uo d H (upd G a o):=fun {G a o} k h b u hb e=>by rw[jq (jm e h)];exact k _ _ hb e
 refine KS Pv ⟨none,[],[],n,rfl,uo.same s2,s2 _ _ hd,e1,e2,.nil,(fun _ z=>nomatch z),aK _⟩ ?_ ?_
 .rintro i σ G hi ⟨u,T,N,n1,rfl,kG,dG,hG,hN,hL,hT,mW⟩
  rw[uk];refine gQ ?_;refine Sx (fun σ G=>∃T n',σ=[some (.ref rl),some (.ref d),some (.ref fl),some (.ref nl),some (.int (i:Nat))]/\uo d H G/\G d=some (Nl dw n')/\G fl=some (.lst (T.map V.str))/\G nl=some (.lst (N.map fun k:Nat=>V.int (k:Nat)))/\NE 1 (R.take i) T N/\(∀r∈T,Kz r)/\T.length<=2 * i+1) ?_ (fun kk=>?_);rotate_left
  .obtain⟨x1,n2,G2,ex,eG,lo1,iK,k2,d2⟩:=Q6 (m:=3) dG N5
   refine Pp rfl ⟨d,dw,n1,3,rfl,dG,N5,N5,?_⟩;rw[eG,ex];have f2:=k2 _ _ mN hG;have v2:=k2 _ _ ll hN;have k2:=kG.trans k2;clear ex eG kG dG hG hN;refine⟨rfl,Pp rfl (kW (fun _=>?_) (fun _=>?_))⟩
   .obtain⟨x2,n3,G3,ex,eG,eZ,bX,k3,d3⟩:=Q6 (m:=2) d2 N5
    refine Pp rfl ⟨.inl ⟨rfl,_,ES.of f2⟩,Pp rfl ⟨d,dw,n2,2,rfl,d2,N5,N5,?_⟩⟩;rw[eG,ex];have f3:=k3 _ _ mN f2;have v3:=k3 _ _ ll v2;have hb:=jce eZ N4;have lb:(ii (aa " ") x2).length<=3:=by rw[<- jY,hb,ua];omega
    refine Pq rfl rfl ⟨N5,eZ,N4,fl,T.map V.str,Pp rfl ⟨rfl,f3,y9 (by rw[av];omega),?_⟩⟩;generalize ii (aa " ") x2=z at *;refine kk _ _ ⟨T++[z],n3,rfl,kt (k2.trans k3) gW,by rw[jq mN.symm];exact d3,by rw[jc,bj];rfl,by rw[jq dm.symm];exact v3,?_,fun r hr=>?_,by rw[az];exact iX mW⟩
    .have:=NE.app (C:=[]) (D:=[z]) (M:=[]) hL (.bl (by rw[hb];exact jie _) .nil)
     rwa [bE,bE]at this
    .rcases aL.mp hr with hr | hr
     .exact hT r hr
     .rw[aZ.mp hr]
      exact⟨by rw[hb];intro h;exact absurd (Ar h) N5,aw lb N5⟩
   .exact kk _ _ ⟨T,n2,rfl,k2,d2,f2,v2,hL,hT,N4⟩
  clear kG dG hG hN hL hT mW n1 T;rintro σ G2 ⟨T,n1,rfl,k2,d2,f2,v2,hL,hT,mW⟩;have wf:=(ZI hL).1;rw[cq,fz (cP hi)]at wf;have hRi:R.length<=5001:=iM;refine Pp rfl ⟨.inl ⟨rfl,_,ES.of v2⟩,Pp rfl ⟨fl,Pp rfl ⟨.inl (ES.of f2),Pq rfl rfl ⟨nl,N.map fun k:Nat=>V.int (k:Nat),Pp rfl ⟨rfl,v2,y9 (by rw[av];omega),?_⟩⟩⟩⟩⟩;have v3:upd G2 nl (.lst ((N.map fun k:Nat=>V.int (k:Nat))++[V.int (((T.map V.str).length:Nat)+1)])) nl=some (.lst ((N++[1+T.length]).map fun k:Nat=>V.int (k:Nat))):=by rw[jc,bj,av];show _=some (HO.lst (_++[V.int ((1+T.length:Nat):Int)]));rw[show ((1+T.length:Nat):Int)=((T.length:Nat):Int)+1 by omega]
  have k3:=kt (o:=.lst ((N.map fun k:Nat=>V.int (k:Nat))++[V.int (((T.map V.str).length:Nat)+1)])) k2 vG;have f3:upd G2 nl (.lst ((N.map fun k:Nat=>V.int (k:Nat))++[V.int (((T.map V.str).length:Nat)+1)])) fl=_:=(jq dm).trans f2;have d3:upd G2 nl (.lst ((N.map fun k:Nat=>V.int (k:Nat))++[V.int (((T.map V.str).length:Nat)+1)])) d=_:=(jq ll.symm).trans d2;refine (?_:OK.nx _ _ (upd G2 nl (.lst ((N.map fun k:Nat=>V.int (k:Nat))++[V.int (((T.map V.str).length:Nat)+1)]))));generalize upd G2 nl _=G3 at *;have bF:Qd (R.map V.str) ((i:Nat):Int)=some (.str R[i]):=ju (by rw[bP,aP hi];rfl);have l3:=k3.strs hd hl;have mF:=hR.ok _ (cH hi);have mE:R.take (i+1)=R.take i++[R[i]]:=by rw[gI,aP hi];rfl
  obtain⟨x4,n4,G4,ex,eG,oB,vO,k4,d4⟩:=Q6 (m:=3) d3 N5;refine Pp rfl ⟨.inl ⟨rfl,_,ES.of f3⟩,Ps rfl rfl ⟨rl,_,Pq rfl rfl ⟨ES.of l3,bF,Pp rfl ⟨d,dw,n1,3,rfl,d3,N5,N5,?_⟩⟩⟩⟩;rw[eG,ex];have hb:=jce oB N4;have lb:(ii (aa " ") x4).length<=3:=by rw[<- jY,hb,ua];omega
  refine Pq rfl rfl ⟨N5,oB,N4,Pq rfl rfl ⟨jU (aw (bD mF.2 lb) N5),fl,T.map V.str,Pp rfl ⟨rfl,k4 _ _ mN f3,y9 (by rw[av];omega),?_⟩⟩⟩;have hz:cd (R[i]++ii (aa " ") x4)=cd R[i]++aS x4.toNat 32:=by rw[jW,hb]
  have lz:(R[i]++ii (aa " ") x4).length<=1000:=by have:=mF.2;rw[bK];omega
  generalize R[i]++ii (aa " ") x4=z at *;refine⟨_,T++[z],N++[1+T.length],n4,rfl,kt (k3.trans k4) gW,by rw[jq mN.symm];exact d4,by rw[jc,bj];rfl,by rw[jq dm.symm];exact k4 _ _ ll v3,?_,fun r hr=>?_,by rw[az];exact iX mW⟩
  .rw[mE]
   exact hL.app (.row (by rw[hz];exact jgP _ _) .nil)
  .rcases aL.mp hr with hr | hr
   .exact hT r hr
   .rw[aZ.mp hr]
    exact⟨by rw[hz];exact kC mF.1 (fun h=>absurd (Ar h) N5),lz⟩
 rintro σ G ⟨u,T,N,n1,rfl,kG,dG,hG,hN,hL,hT,mW⟩;rw[iq]at hL;refine Pp rfl ⟨sm rfl,fun p1 vB=>?_⟩;have s3:=jd vB (.lst [V.str (aa ""),V.str (aa " ")]);have e3:=Pn (H:=G) p1 (.lst [V.str (aa ""),V.str (aa " ")]);have d3:=s3 _ _ dG;have f3:=s3 _ _ hG;have v3:=s3 _ _ hN;have k3:=kG.trans (uo.same s3);have rP:p1≠d:=fun z=>by rw[z,dG]at vB;cases vB
 refine (?_:zM _ _ _ _ _ (upd G p1 (.lst [V.str (aa ""),V.str (aa " ")])) _);generalize upd G p1 _=G3 at *;obtain⟨x1,n2,G2,ex,eG,lo1,iK,k2,d2⟩:=Q6 (m:=2) d3 N5;refine Pp rfl ⟨d,dw,n1,2,rfl,d3,N5,N5,?_⟩;rw[eG,ex];have e4:=k2 _ _ rP e3;have f4:=k2 _ _ mN f3;have v4:=k2 _ _ ll v3;have k4:=k3.trans k2;have gx:x1.toNat<=1:=by omega
 refine⟨p1,Pq rfl rfl ⟨e4,(show -(2 ^ 63)<=x1 from N4),(show x1 < 2 ^ 63 from N4),?_,fun p2 aQ=>?_⟩⟩
 .refine aw (Nat.mul_le_mul_left _ (show x1.toNat<=1 from gx)) (sm rfl)
 have e5:(aS x1.toNat [V.str (aa ""),V.str (aa " ")]).flatten=((aS x1.toNat [aa "",aa " "]).flatten).map V.str:=by rw[List.map_flatten,List.map_replicate];rfl
 have ck:∀r∈(aS x1.toNat [aa "",aa " "]).flatten,km (cd r)=[]/\Kz r:=fun r hr=>by
  obtain⟨l,cT,cD⟩:=List.mem_flatten.mp hr;rw[Ar cT]at cD;simp only[aA,fC,or_false]at cD;rcases cD with rfl | rfl
  .exact⟨N3,N3,N3⟩
  .exact⟨N3,N3,N3⟩
 have htn:((aS x1.toNat [aa "",aa " "]).flatten).length<=2:=by rw[jge];exact OL 2 gx
 show RL (.ref fl) (.ref p2) (upd G2 p2 (.lst (aS x1.toNat [V.str (aa ""),V.str (aa " ")]).flatten)) _;rw[e5];generalize (aS x1.toNat [aa "",aa " "]).flatten=U at *;refine RT (xs:=T) (ys:=U) (jd aQ _ _ _ f4) jc N4 fun l5 G5 s5 e5=>?_
 have s5:=(jd aQ (.lst (U.map V.str))).trans s5;have v5:=s5 _ _ v4;have k5:=k4.trans (uo.same s5);refine gQ ?_;have hA:∀r∈T++U,Kz r:=fun r hr=>(aL.mp hr).elim (hT r) fun h=>(ck r h).2
 have IZ:NE 1 R (T++U) N:=by
  have bl:∀(V:List Str) (n:Nat),(∀r∈V,km (cd r)=[])->NE n [] V []:=by
   intro V;induction V with
   | nil=>exact fun _ _=>.nil
   | cons r V ih=>exact fun n h=>.bl (h r (aJ ..)) (ih _ fun x hx=>h x (aH _ hx))
  have:=hL.app (bl U (1+T.length) fun r hr=>(ck r hr).1);rwa [bE,bE]at this
 have wf:=(ZI hL).1;have IU:(T++U).length<=2 * R.length+4:=by rw[az];omega
 refine⟨rfl,Pp rfl ⟨_,l5,Pp rfl ⟨rfl,ES.of e5,?_,?_⟩⟩⟩
 .have h1:=YQ (k:=1000) fun r hr=>(hA r hr).2
  have h2:(aa "\n").length=1:=rfl;rw[h2];omega
 rw[show ∀ys,gb (aa "\n") ys=(aa "\n").join ys from fun ys=>pG _ _];generalize T++U=W at *;refine Ps rfl rfl ⟨l5,Pp rfl ⟨.inl (ES.of e5),Pq rfl rfl ⟨_,Pp rfl ⟨sm rfl,fun p7 HJ=>?_⟩⟩⟩⟩;have em:(if (((W.map V.str).length:Nat):Int)+1 > 2 then (((W.map V.str).length:Nat):Int)+1 else 2)=((max 2 (W.length+1):Nat):Int):=by rw[av];split <;> omega
 have s7:=jd HJ (.lst [V.int (if (((W.map V.str).length:Nat):Int)+1 > 2 then (((W.map V.str).length:Nat):Int)+1 else 2)]);have v7:=s7 _ _ v5;have e7:upd G5 p7 (.lst [V.int (if (((W.map V.str).length:Nat):Int)+1 > 2 then (((W.map V.str).length:Nat):Int)+1 else 2)]) p7=some (.lst ([max 2 (W.length+1)].map fun k:Nat=>V.int (k:Nat))):=by rw[jc,em];rfl
 refine (?_:RL _ _ (upd G5 p7 (.lst [V.int (if (((W.map V.str).length:Nat):Int)+1 > 2 then (((W.map V.str).length:Nat):Int)+1 else 2)])) _);generalize upd G5 p7 _=G7 at *;refine⟨nl,p7,Pq rfl rfl ⟨v7,e7,cP (y9 (by rw[av];simp only[av,aM,cZ];omega)),fun l8 gV=>⟨sm rfl,fun p hp=>?_⟩⟩⟩;have s8:=(jd gV (.lst ((N.map fun k:Nat=>V.int (k:Nat))++[max 2 (W.length+1)].map fun k:Nat=>V.int (k:Nat)))).trans (jd hp (.tup [V.str ((aa "\n").join W),.ref l8]));refine q p l8 W N _ (k5.trans (uo.same (s7.trans s8))) jc ?_ IZ hA IU;refine jd hp _ _ _ ?_;rw[jc,bj]
structure Xs(K:ao)(mg:Str->Option ae)(C C1 CN CC CS:ac):Prop where
 gn:mg "NoName" = some (.ref CN)
 gc:mg "NoCount" = some (.ref CC)
 gs:mg "NoSet" = some (.ref CS)
 xo:xIn K C1 valB "ValueError.__new__" = true
 mo:lU K C (.ref C1)=some true
 xc:PySem.W.XCls K C
 kt:fZ K (.ref C) (.ref C)=some true
 kn:fZ K (.ref C) (.ref CN)=some false
 kc:fZ K (.ref C) (.ref CC)=some false
 ks:fZ K (.ref C) (.ref CS)=some false
inductive Qc:List V->Hp->VK->XK->Prop
 | mk {H:Hp} {Q:VK} {E:XK} (R:List Str) (aR:R≠[]) (hR:∀r∈R,Kz r) (hl:(cA (aa "\n") R).length<=10000000) (hn:R.length<=50000) (q0:zN 1 [] R=none->∀H',ML H H'->Q .non H') (q1:∀n:Nat,zN 1 [] R=some n->∀H',ML H H'->Q (.int (n:Nat)) H'):Qc [.str (cA (aa "\n") R)] H Q E
theorem jjd{C C1 CN CC CS fi:ac}(F:Fun K "_law_asked" "_law_asked" jeK f fd)(B:Ni mg)(Z:SM K mg C C1 fi)(Y:Xs K mg C C1 CN CC CS)(xh:NI P w K mg base 12 "read" Nz (jfO C)):MT P w K mg base PU 13 f fd ["_law_text"] Qc:=by
 have sc:tS ["_law_text","_law_line","e"] ["_law_text"] (jo jeK):=fQ;refine F.okZ sc (fun aB A iw s H vs Q E hr h=>?_);cases h with
 | mk R aR hR hl hn q0 q1=>?_
 refine⟨_,(ja (Z6 (i:=1) sc.nd rfl oQ KB) (ja (jgH (i:=2) xh rfl rfl hr (jr (bB 0) qf) (fun e=>ja (Z6 (i:=1) sc.nd rfl oQ je) (jg (jR (zx (qA (j7 (yu (K:=K)) N9 B.isinstance_ zn (jr (bB 2) (jr (zz (v:=.ref C) N9 Z.gn rfl) qf)))) (zh (YH (yS (qA (j7 (yu (K:=K)) N9 B.isinstance_ zn (jr (bB 2) (jr (zz (v:=.ref CN) N9 Y.gn rfl) qf)))) (yS (qA (j7 (yu (K:=K)) N9 B.isinstance_ zn (jr (bB 2) (jr (zz (v:=.ref CC) N9 Y.gc rfl) qf)))) (Jt (qA (j7 (yu (K:=K)) N9 B.isinstance_ zn (jr (bB 2) (jr (zz (v:=.ref CS) N9 Y.gs rfl) qf))))))).pt))).pt (jg (Z6 (i:=1) sc.nd rfl oQ (jgJ (K:=K) (bB 2)))) jH))) sc.nd rfl rfl N9 Z.go Z.fl.ex Y.xo Y.mo N4) (jg (jy (bB 1))))),?_⟩
 refine kK ?_;refine gQ ?_;refine Pp rfl ⟨R,rfl,aR,hR,hl,hn,fun er v H' s1=>(Pp rfl (q0 er H' s1)),fun n er H1 dx s1 fT=>?_⟩;refine⟨rfl,dx,rfl,fun e he=>?_⟩;have s2:=s1.trans (jd he (yR C e dx));have IC:=jd he (yR C e dx) _ _ fT;have e2:=Pn (H:=H1) e (yR C e dx);generalize upd H1 e _=H2 at *;refine gQ ?_;refine gQ ?_;refine Pp rfl ⟨e,C,dx,C,true,rfl,e2,Y.xc,Y.kt,Pp rfl (k9 ?_)⟩;refine Pp rfl ⟨e,C,dx,CN,false,rfl,e2,Y.xc,Y.kn,Pp rfl (kT ?_)⟩;refine Pp rfl ⟨e,C,dx,CC,false,rfl,e2,Y.xc,Y.kc,Pp rfl (kT ?_)⟩;refine Pp rfl ⟨e,C,dx,CS,false,rfl,e2,Y.xc,Y.ks,Pp rfl ?_⟩;refine k9 ⟨_,rfl,e,C,dx,_,_,rfl,e2,IC,Z.fl,rfl,?_⟩;exact Pp rfl (q1 n er _ s2)
def Ro(R:List Str):List Str:=if R=[] then [aa ""] else R
def jlh(R:List Str):cA (aa "\n") (Ro R)=cA (aa "\n") R:=by
 unfold Ro;split
 .rename_i h;rw[h];rfl
 .rfl
def jnO(R:List Str):Ro R≠[]:=by
 unfold Ro;split
 .simp
 .assumption
def jmG{R:List Str}(h:∀r∈R,Kz r):∀r∈Ro R,Kz r:=by
 unfold Ro;split
 .intro r hr;rw[aZ.mp hr];exact⟨N3,N3⟩
 .exact h
def jmF(R:List Str):(Ro R).length<=R.length+1:=by
 unfold Ro;split
 .exact iX (cn _)
 .exact fB _
theorem jeo{B T:List Str}{TB:List Tk}{N:List Nat}{Q:VK}{E:XK}(hL:NE 1 B T N)(hB:Qp B TB)(hT:∀r∈T,Kz r)(hn:T.length<=5000)(q:∀H',ML H H'->Q (match j4 TB [] with | none=>.non | some i=>.int (((N++[max 2 (T.length+1)]).getD i 0:Nat):Int)) H'):Qc [.str (cA (aa "\n") T)] H Q E:=by
 have h1:=jmG hT;have h2:=jmF T;have h3:=Ks (y:=aa "\n") rfl (k:=1000) fun r hr=>(h1 r hr).2
 have hr:zN 1 [] (Ro T)=(j4 TB []).map fun i=>(N++[max 2 (T.length+1)]).getD i 0:=by
  unfold Ro;split
  .rename_i e
   subst e
   cases hL
   cases TB with
   | cons _ _=>exact hB.elim
   | nil=>decide +kernel
  .rename_i e
   have hl:0 < T.length:=pW.mpr e;rw[jeP hL [] hB,show 1+T.length=max 2 (T.length+1) by omega]
 rw[<- jlh];refine Qc.mk (Ro T) (jnO T) h1 N4 N4 (fun e H' s=>?_) fun n e H' s=>?_
 .rw[hr]at e
  have:=q H' s
  cases ef:j4 TB [] with
  | none=>rw[ef]at this;exact this
  | some i=>rw[ef]at e;cases e
 .rw[hr]at e
  have:=q H' s
  cases ef:j4 TB [] with
  | none=>rw[ef]at e;cases e
  | some i=>rw[ef]at e this;cases e;exact this
theorem jdY:∀(R:List Str) (n:Nat),∃N,NE n R R N
 | [],_=>⟨[],.nil⟩
 | r :: R,n=>by obtain⟨N,h⟩:=jdY R (n+1);exact⟨_,.row rfl h⟩
def jkd{R:List Str}{T:List Tk}{Q:VK}{E:XK}(hR:Qp R T)(bw:kO T []=some [])(hn:R.length<=5000)(q:∀H',ML H H'->Q .non H'):Qc [.str (cA (aa "\n") R)] H Q E:=by
 obtain⟨N,hL⟩:=jdY R 1;refine jeo hL hR (fun r hr=>⟨(hR.ok r hr).1,aw (hR.ok r hr).2 N5⟩) hn fun H' s=>?_
 rw[YB bw];exact q H' s
theorem jeb:∀{TB:List Tk} {fs:List Fr} {i:Nat},j4 TB fs=some i->i<=TB.length
 | [],fs,i,h=>by
  unfold j4 at h;split at h
  .cases h
  .cases h;exact aK _
 | t :: T,fs,i,h=>by
  unfold j4 at h;split at h
  .cases h;exact cn _
  .rename_i gs _
   cases e:j4 T gs with
   | none=>rw[e]at h;cases h
   | some j=>rw[e]at h;cases h;exact iX (jeb e)
theorem Qp.len:∀{R:List Str} {T:List Tk},Qp R T->R.length=T.length
 | [],[],_=>rfl
 | _ :: _,_ :: _,h=>PR Nat.succ (Qp.len h.2)
 | [],_ :: _,h=>h.elim
 | _ :: _,[],h=>h.elim
theorem jji:∀{T:List Tk} {fs gs:List Fr},kO T fs=some gs->∀t∈T,t≠.bad
 | [],_,_,_,_,h=>nomatch h
 | t :: T,fs,gs,e,u,hu=>by
  unfold kO at e
  cases e1:jz t fs with
  | none=>rw[e1]at e;cases e
  | some hs=>
   rw[e1]at e;rcases aA.mp hu with rfl | hu
   .intro z;rw[z]at e1;cases fs <;> cases e1
   .exact jji e u hu
def jik{ts u:TS}{D:OK}{σ:L2.St}(C:L2.St->Hp->Prop)(k:∀σ' G,C σ' G->u D σ' G)(h:(∀σ' G,C σ' G->u D σ' G)->ts { D with nx:=u D } σ H):jC ts u D σ H:=h k
def jfR(K:ao):Sp:=fun vs H Q _=>∃(a:ac) (ns:List Int),vs=[.ref a]/\ES K H a (ns.map V.int)/\ns.length<=63/\∀H',Q (.bl true) H'
theorem jmA(F:Fun K "law" "law" R9 f fd)(B:Ni mg)(xm:Fn P w K mg base 1 "_law_many" M4 (jig K))(m9:Fn P w K mg base 1 "_law_taken" [] jcv)(xj:Fn P w K mg base 18 "_law_program" D4 (jax K))(ng:Fn P w K mg base 1 "_law_deal" MR (jeD K))(aG:Fn P w K mg base 1 "_law_draw" Nx qJ)(w8:Fn P w K mg base 10 "_law_text_rows" DV jfM)(xy:Fn P w K mg base 2 "_law_cut" Nv P4)(xt:Fn P w K mg base 2 "_law_lone" Nv P4)(xu:Fn P w K mg base 2 "_law_lacking" Nv P4)(xi:Fn P w K mg base 3 "_law_put" Nv P4)(xq:Fn P w K mg base 2 "_law_loose" X4 Qr)(sR:Fn P w K mg base 13 "_law_asked" ["_law_text"] Qc):MT P w K mg base PU 19 f fd M4 (jfR K):=by
 have sc:tS ["_law_script","_law_many_here","_law_rows","_law_deal_here","_law_form","_law_bad","_law_at","_law_text","_law_numbers","_law_due","_law_k","_law_found"] M4 (jo R9):=fQ;refine F.okZ sc (fun aB A iw s H vs Q E hr h=>?_);obtain⟨a,ns,rfl,hS,hn,q⟩:=h;refine⟨_,(ja (jh 1 sc.nd (jB xm hr (jp (bB 0)))) (ja (jh 2 sc.nd (jB w8 hr (jp (jB xj hr (jr (bB 0) (jj (j7 (ZM rfl) N9 B.max_ jfy (jj je (jn Ki (bB 1) je))) (jck m9 hr))))))) (ja (jh 3 sc.nd (jB ng hr (jj (bB 0) (jn Ki (bB 1) je)))) (ja (jh 4 sc.nd (jB aG hr (jj (bB 3) je))) (ja (jR (jx j6 (bB 4) je (jA _)) (jg (kz (jB xy hr (jj (bB 3) (bB 2))) (kB rfl (jv (jt 5 sc.nd) (jv (jt 6 sc.nd) kj))))) (jg (jR (jx j6 (bB 4) je (jA _)) (jg (kz (jB xt hr (jj (bB 3) (bB 2))) (kB rfl (jv (jt 5 sc.nd) (jv (jt 6 sc.nd) kj))))) (jg (jR (jx j6 (bB 4) je (jA _)) (jg (kz (jB xu hr (jj (bB 3) (bB 2))) (kB rfl (jv (jt 5 sc.nd) (jv (jt 6 sc.nd) kj))))) (jg (kz (jB xi hr (jj (bB 3) (bB 2))) (kB rfl (jv (jt 5 sc.nd) (jv (jt 6 sc.nd) kj)))))))))) (ja (kz (jB xq hr (jj (bB 5) (bB 3))) (kB rfl (jv (jt 7 sc.nd) (jv (jt 8 sc.nd) kj)))) (ja (jR (yS (jx Kj (j7 zd N9 B.len_ ku (jp (bB 7))) je (jA _)) (Jt (jx Kj (j7 zd N9 B.len_ ku (jp (jV bi pQ pO KM jb (jp (bB 2))))) je (jA _)))).pt (jg (jy jap)) jH) (ja (jh 9 sc.nd (jgK (jx jmv (bB 6) KB (jA _)) KB (js jQ (bB 8) (bB 6)))) (ja (yn il rfl (kP N9 B.range_ (jp je)) (jt 10 sc.nd) (ja (jh 11 sc.nd (jB sR hr (jp (bB 7)))) (jg (jR (yS (jx SE (bB 11) (bB 9) (jA _)) (yS (qA (j7 jem N9 B.isinstance_ zn (jj (bB 11) (jh4 (v:=.ty "bool") N9 B.bool_ jlB N9)))) (Jt (jx jkV (jB sR hr (jp (jV bi pQ pO KM jb (jp (bB 2))))) KB (jA _))))).pt (jg (jy jap)) jH)))) (jg (jy jap))))))))))),?_⟩
 try dsimp only[qF]
 refine kK ?_;refine jnU ?_;intro _ _ _ _ _ _ _ _ _;refine Pp rfl ⟨a,ns,rfl,hS,hn,?_⟩;refine gQ ?_;have hM:0<=(if ns.length=0 then 1 else ((ns.length:Nat):Int)) - 1/\(if ns.length=0 then 1 else ((ns.length:Nat):Int)) - 1<=62:=by split <;> omega
 generalize (if ns.length=0 then 1 else ((ns.length:Nat):Int))=M at *;have fO:(if M - 1 > 1 then M - 1 else 1)=(((if M - 1 > 1 then M - 1 else 1).toNat:Nat):Int):=by split <;> omega
 have dP:(if M - 1 > 1 then M - 1 else 1).toNat<=63:=by split <;> omega
 refine Ps rfl rfl (Pq rfl rfl (Pq rfl rfl (fun tl ck=>?_)));have s1:=jd ck (.lst (jO.map V.str));have e1:=Pn (H:=H) tl (.lst (jO.map V.str));generalize upd H tl _=H1 at *;refine⟨a,tl,ns,(if M - 1 > 1 then M - 1 else 1).toNat,by rw[<- fO];rfl,s1.seq hS,hn,dP,e1,fun u H2 k2 h2=>?_⟩;have s2:ML H H2:=fun b o e=>k2 _ _ (jm e ck) (s1 _ _ e)
 obtain⟨⟨A3,pl⟩,pf⟩:=jmo ns (if M - 1 > 1 then M - 1 else 1).toNat;generalize hps:Sf ns (if M - 1 > 1 then M - 1 else 1).toNat=ps at *;clear k2 s1 e1 ck hps H1 fO dP;have hF:∀p∈ps,So p/\p.lv=4:=fun p hp=>⟨(pf p hp).f,(pf p hp).l⟩
 have hc:(kR ps).length<=1560:=aw (jiw pf) N4;have hok:=jkQ fun p hp=>⟨(hF p hp).1,E3 (hF p hp).2⟩
 obtain⟨T,hw,bw⟩:=jer fun p hp=>(hF p hp).1
 have aR:kR ps≠[]:=by
  cases ps with
  | nil=>simp at A3
  | cons p ps=>intro e;cases e
 refine⟨u,ps,rfl,h2,hF,N4,fun rl G1 s3 l1=>?_⟩;have s1:=s2.trans s3;clear h2 s2 s3 hF pf pl A3;generalize kR ps=R at *;have hR:Q9 R T:=⟨hw,jji bw,hok,N4⟩
 have IX:=hw.rg hok;refine gQ ?_;refine Ps rfl rfl (Pq rfl rfl ⟨a,ns,M - 1,rfl,s1.seq hS,hn,hM.1,N4,fun d G2 hd s4 d2=>?_⟩);generalize (Sb ns (M - 1)).1=dw at *;generalize (Sb ns (M - 1)).2=n0 at *;have l2:=s4 _ _ l1;refine gQ ?_;obtain⟨fo,n1,G3,ex,eG,lo,hi,k3,d3⟩:=Q6 (m:=7) d2 N5;refine Pp rfl ⟨d,dw,n0,7,rfl,d2,N5,N5,?_⟩;rw[eG,ex];have l3:=k3.strs d2 l2;refine gQ ?_;dsimp only;refine (?_:jC (yL _ _ _) _ _ _ G3);refine Sx (fun σ G=>∃b B TB n',σ=[some (.ref a),some (.int M),some (.ref rl),some (.ref d),some (.int fo),some (.ref b),some (Z1 (j4 TB [])),none,none,none,none,none]/\G rl=some (.lst (R.map V.str))/\G d=some (Nl dw n')/\G b=some (.lst (B.map V.str))/\Qp B TB/\B.length<=R.length+1) ?_ (fun kk=>?_);rotate_left
 .refine Pp rfl ⟨rfl,Pp rfl (kW (fun _=>?_) (fun _=>?_))⟩
  .refine Ps rfl rfl (P4.mk d rl dw n1 R T d3 l3 hR bw aR fun p b B TB n' G' kG ep eb hB hl dG=>(Pq rfl (Nu.of ep) ⟨rfl,_,Pp rfl (Pq rfl rfl ?_)⟩))
   exact kk _ _ ⟨b,B,TB,n',rfl,kG.strs d3 l3,dG,eb,hB,hl⟩
  refine Pp rfl ⟨rfl,Pp rfl (kW (fun _=>?_) (fun _=>?_))⟩
  .refine Ps rfl rfl (P4.mk d rl dw n1 R T d3 l3 hR bw aR fun p b B TB n' G' kG ep eb hB hl dG=>(Pq rfl (Nu.of ep) ⟨rfl,_,Pp rfl (Pq rfl rfl ?_)⟩))
   exact kk _ _ ⟨b,B,TB,n',rfl,kG.strs d3 l3,dG,eb,hB,hl⟩
  refine Pp rfl ⟨rfl,Pp rfl (kW (fun _=>?_) (fun _=>?_))⟩
  .refine Ps rfl rfl (P4.mk d rl dw n1 R T d3 l3 hR bw aR fun p b B TB n' G' kG ep eb hB hl dG=>(Pq rfl (Nu.of ep) ⟨rfl,_,Pp rfl (Pq rfl rfl ?_)⟩))
   exact kk _ _ ⟨b,B,TB,n',rfl,kG.strs d3 l3,dG,eb,hB,hl⟩
  .refine Ps rfl rfl (P4.mk d rl dw n1 R T d3 l3 hR bw aR fun p b B TB n' G' kG ep eb hB hl dG=>(Pq rfl (Nu.of ep) ⟨rfl,_,Pp rfl (Pq rfl rfl ?_)⟩))
   exact kk _ _ ⟨b,B,TB,n',rfl,kG.strs d3 l3,dG,eb,hB,hl⟩
 clear l1 l2 l3 d2 d3 k3 eG ex s4 hd;rintro σ G4 ⟨b,Bd,TB,n2,rfl,l4,d4,b4,hB,Co⟩;refine Ps rfl rfl (Qr.mk b d dw n2 Bd TB d4 b4 hB N4 fun p nl W N G5 kG ep en hL hW hWl=>(Pq rfl (Nu.of ep) ⟨rfl,_,Pp rfl (Pq rfl rfl ?_)⟩));have l5:=kG.strs d4 l4;refine gQ ?_;have hRl:R.length<=1560:=hc;have jl:∀{U:List Str},U.length<=5000->(∀r∈U,Kz r)->((aa "\n").join U).length<=aF/\(U.map (·.length)).sum+U.length * (aa "\n").length<=16777216:=fun {U} h1 h2=>by
  have h3:=Ks (y:=aa "\n") rfl (k:=1000) fun r hr=>(h2 r hr).2
  have h4:=YQ (k:=1000) fun r hr=>(h2 r hr).2
  have h5:(aa "\n").length=1:=rfl;rw[h5];exact⟨aw h3 (aw (OL _ h1) N5),N4⟩
 have IW:∀r∈R,Kz r:=fun r hr=>⟨(hok r hr).1,aw (hok r hr).2 N5⟩
 obtain⟨Hc,jw2⟩:=jl N4 hW;obtain⟨He,BJ⟩:=jl N4 IW;refine Ps rfl rfl ⟨Hc,Pq rfl rfl (Pp rfl (kW (fun _=>k9 (q _)) (fun _=>?_)))⟩;refine⟨rfl,Pp rfl ⟨_,rl,Pp rfl ⟨rfl,ES.of l5,BJ,?_⟩⟩⟩;rw[show ∀ys,gb (aa "\n") ys=(aa "\n").join ys from fun ys=>pG _ _];refine Pp rfl ⟨He,Pq rfl rfl (Pp rfl (kW (fun _=>q _) (fun _=>?_)))⟩;generalize hdv:(match j4 TB [] with | none=>V.non | some i=>V.int (((N++[max 2 (W.length+1)]).getD i 0:Nat):Int))=dv;unfold jdq;dsimp only;refine (?_:jC (R8 _ _) _ _ _ G5);refine jik (fun σ G=>σ=[some (.ref a),some (.int M),some (.ref rl),some (.ref d),some (.int fo),some (.ref b),some (Z1 (j4 TB [])),some (.str ((aa "\n").join W)),some (.ref nl),some dv,none,none]/\G=G5) (fun σ G hC=>?_) (fun kk=>?_);rotate_left
 .have wf:=ZI hL
  have mW:=hB.len
  cases e:j4 TB [] with
  | none=>
   rw[e]at hdv kk;subst hdv;exact Pp rfl ⟨rfl,Pp rfl (k9 (kk _ _ ⟨rfl,rfl⟩))⟩
  | some i=>
   rw[e]at hdv kk;subst hdv;have hi:=jeb e;have bX:i < (N++[max 2 (W.length+1)]).length:=by rw[az,aM,cZ];omega
   have bF:Qd ((N++[max 2 (W.length+1)]).map fun k:Nat=>V.int (k:Nat)) ((i:Nat):Int)=some (.int (((N++[max 2 (W.length+1)]).getD i 0:Nat):Int)):=ju (by rw[bP,aP bX,eI,aP bX];rfl);exact Pp rfl ⟨rfl,Pp rfl (kT (Ps rfl rfl ⟨nl,_,Pq rfl rfl ⟨ES.of en,bF,kk _ _ ⟨rfl,rfl⟩⟩⟩))⟩
 obtain⟨rfl,rfl⟩:=hC;have cV:dv=.non\/∃i:Int,dv=.int i:=by
  rw[<- hdv]
  cases j4 TB [] with
  | none=>exact .inl rfl
  | some i=>exact .inr ⟨_,rfl⟩
 let Pv:Nat->L2.St->Hp->Prop:=fun _ σ G'=>∃u1 u2,σ=[some (.ref a),some (.int M),some (.ref rl),some (.ref d),some (.int fo),some (.ref b),some (Z1 (j4 TB [])),some (.str ((aa "\n").join W)),some (.ref nl),some dv,u1,u2]/\ML G G'
 refine Pp rfl ⟨N4,N4,?_⟩;refine KS Pv ⟨none,none,rfl,fun _ _ e=>e⟩ ?_ ?_
 .rintro i σ G6 hi ⟨u1,u2,rfl,s6⟩
  refine gQ ?_;refine Pp rfl (jeo hL hB hW N4 fun G7 s7=>?_);rw[hdv];have s7:=s6.trans s7;refine gQ ?_;refine Ps rfl rfl ⟨(by rcases cV with rfl | ⟨z,rfl⟩ <;> rfl),?_⟩;rw[show (!decide (dv=dv))=false by simp];refine Pp rfl (kT ?_);obtain⟨t,eM,dM⟩:∃t,Qs K G7 dv t/\fZ K t (.type "bool")=some false:=by
   rcases cV with rfl | ⟨z,rfl⟩
   .exact⟨.type "NoneType",.non,rfl⟩
   .exact⟨.type "int",.int z,rfl⟩
  refine Pp rfl ⟨dv,t,"bool",false,rfl,eM,dM,Pp rfl (kT ?_)⟩;refine⟨rfl,Pp rfl ⟨_,rl,Pp rfl ⟨rfl,ES.of (s7 _ _ l5),BJ,?_⟩⟩⟩;rw[show ∀ys,gb (aa "\n") ys=(aa "\n").join ys from fun ys=>pG _ _];refine jkd IX bw N4 fun G8 s8=>?_
  refine⟨rfl,Pp rfl (kT ?_)⟩;exact⟨_,Pp rfl (s7.trans s8)⟩
 .rintro σ G6 ⟨u1,u2,rfl,s6⟩
  exact q _
end
open PySem L2 PyProof.Rows
abbrev R3:Type:=Str×Tok×ac
def jlv(P:nM)(p:R3):EF:=⟨fv P p.1,.str p.1 p.2.1,.ref p.2.2⟩
def SK(L:List R3)(x:Str):Option ac:=(L.find? fun p=>p.1 == x).map (·.2.2)
theorem jd4{P:nM}:∀L:List R3,NL P (L.map (jlv P))
 | []=>True.intro
 | _ :: L=>⟨⟨_,_,rfl,rfl⟩,jd4 L⟩
def jjL{P:nM}(x:Str):∀L:List R3,P2 ((SK L x).map V.ref) (findBy tE (L.map (jlv P)).toArray x):=by
 intro L;unfold findBy SK;rw[List.find?_toArray];induction L with
 | nil=>exact True.intro
 | cons p L ih=>
  rw[bn,iu,iu,show tE x (jlv P p).key=(p.1 == x) from rfl]
  cases h:p.1 == x with
  | true=>exact rfl
  | false=>exact ih
section
variable {P:aC}{w:ax}{mg:Str->Option ae}{base:ak}{C CR CB aD:ac}
inductive Qv(P:aC)(w:ax)(K:ao)(mg:Str->Option ae)(base:ak)(C CR CB:ac):List R3->List (Str×Qx)->Prop
 | nil:Qv P w K mg base C CR CB [] []
 | cons {x:Str} {t:Tok} {f:ac} {R:Qx} {L:List R3} {D:List (Str×Qx)} (h:∃fd k,MT P w K mg base (PY P w) k f fd NR (Jz C CR CB R)/\k<=10/\Nr K fd NR []/\di K (.ref f)=true) (hs:Qv P w K mg base C CR CB L D):Qv P w K mg base C CR CB ((x,t,f) :: L) ((x,R) :: D)
def Qv.at_{L:List R3}{D:List (Str×Qx)}(h:Qv P w K mg base C CR CB L D)(x:Str):(∀f,SK L x=some f->∃fd k R,MT P w K mg base (PY P w) k f fd NR (Jz C CR CB R)/\k<=10/\Nr K fd NR []/\di K (.ref f)=true/\D.lookup x=some R)/\(SK L x=none->D.lookup x=none):=by
 unfold SK;induction h with
 | nil=>exact⟨fun f h=>(nomatch h),fun _=>rfl⟩
 | @cons y t f R L D h _ ih=>
  rw[iu,gj,show (x == y)=(y == x) from BEq.comm]
  cases e:y == x with
  | true=>
   obtain⟨fd,k,h1,h2,h3,h4⟩:=h;exact⟨fun g hg=>by cases hg;exact⟨fd,k,R,h1,h2,h3,h4,rfl⟩,fun hg=>(nomatch hg)⟩
  | false=>exact ih
def jjY{L:List R3}{n:Nat}(g:mg "DEEDS" = some (.ref aD))(l:K.lookup aD=some ⟨.type "dict",none,.dict (L.map (jlv w.params)).toArray n,#[]⟩)(lo:(aD == fk)=false)(h:Qv P w K mg base C CR CB L jgx):R1 P w K mg base C CR CB aD (SK L):=
 ⟨g,⟨_,n,l,jd4 L,lo,fun x=>jjL x L⟩,fun x=>(h.at_ x).1,fun x=>(h.at_ x).2⟩
end
variable {P:List ae->Prop}
def el0(h:P []):∀us:List ae,us.length=0->P us
 | [],_=>h
def el1(h:∀a0,P [a0]):∀us:List ae,us.length=1->P us
 | a :: v,e=>el0 (P:=fun v=>P (a :: v)) (h a) v (tV e)
def QU(h:∀a0 a1,P [a0,a1]):∀us:List ae,us.length=2->P us
 | a :: v,e=>el1 (P:=fun v=>P (a :: v)) (h a) v (tV e)
def QL(h:∀a0 a1 a2,P [a0,a1,a2]):∀us:List ae,us.length=3->P us
 | a :: v,e=>QU (P:=fun v=>P (a :: v)) (h a) v (tV e)
def el4(h:∀a0 a1 a2 a3,P [a0,a1,a2,a3]):∀us:List ae,us.length=4->P us
 | a :: v,e=>QL (P:=fun v=>P (a :: v)) (h a) v (tV e)
abbrev LkF(K:ao)(f:ac)(x n:Str)(st:ay)(oc:ae)(od:Option ac)(kV dc pm:ae)(an:Option ac)(cd ct:ae)(sl:Array (Option ae)):Prop:=K.lookup f=some ⟨oc,od,.func (ig x n (yQ st) (zK st) (jo st) .none kV dc pm an cd ct),sl⟩
structure DefK(K:ao)(f:ac)(fd:aE)(x:Str)(st:ay):Prop where
 a:bJ K ba x=some (some (.ref f))
 u:Fun K x x st f fd
def DefK.m{x:Str}{st:ay}{oc kV dc pm cd ct:ae}{od an:Option ac}{sl:Array (Option ae)}(a:bJ K ba x=some (some (.ref f)))(l:LkF K f x x st oc od kV dc pm an cd ct sl)(c:lX K cd x=true)(k:di K (.ref f)=true):DefK K f (ig x x (yQ st) (zK st) (jo st) .none kV dc pm an cd ct) x st:=⟨a,ja4 l c k⟩
def mk2{P:aC}{w:ax}{K:ao}{mg:Str->Option ae}{base h:ak}(X:K.In h)(G:h.Ns ba mg){k:Nat}{x:Str}{st:ay}{f:ac}{fd:aE}{ps:List Str}{sp:Sp}(a:DefK K f fd x st)(ok:MT P w K mg base PU k f fd ps sp)(b:∀(kV cy pm:ae) (an:Option ac) (aB ct:ae) (us:List ae),us.length=ps.length->bindArgs (ig x x (yQ st) (zK st) (jo st) .none kV cy pm an aB ct) ⟨us,[]⟩=pure (ps.zip us):=by exact fun _ _ _ _ _ _=>by first | exact el0 rfl | exact el1 fun _=>rfl | exact QU fun _ _=>rfl | exact QL fun _ _ _=>rfl | exact el4 fun _ _ _ _=>rfl ):Fn P w K mg base k x ps sp:=Fn.mk' a.u (a.u.binds b) (bv X G a.a) ok
set_option autoImplicit true in
def all_mk{l:El}{w:ax}{K:ao}{h:ak}{mg:Str->Option ae}{fa:ac}(X:K.In h)(G:h.Ns ba mg)(Ix:mg "law" = some (.ref fa))
  (a0:DefK K f0 d0 "is_figures" Ka)
  (a1:DefK K f1 d1 "is_number" Ym)
  (a2:DefK K f2 d2 "is_name" jaF)
  (a3:DefK K f3 d3 "more_cut" Zy)
  (a4:DefK K f4 d4 "refuse_unless" yB)
  (a5:DefK K f5 d5 "name_read" Yl)
  (a6:DefK K f6 d6 "place_read" J7)
  (a7:DefK K f7 d7 "named_term" J8)
  (a8:DefK K f8 d8 "alone_read" Kd)
  (a9:DefK K f9 d9 "term_read" Yc)
  (sN:DefK K f10 d10 "bound_read" Kc)
  (sM:DefK K f11 d11 "reach_read" J5)
  (sL:DefK K f12 d12 "rise_read" Yk)
  (sK:DefK K f13 d13 "each_read" Yo)
  (sJ:DefK K f14 d14 "least_read" J9)
  (sI:DefK K f15 d15 "claim_read" Kb)
  (sH:DefK K f16 d16 "innermost" Yn)
  (sF:DefK K f17 d17 "parted_names" zi)
  (sE:DefK K f18 d18 "take_given" JZ)
  (wS:DefK K f19 d19 "take_proc" Yd)
  (wR:DefK K f20 d20 "take_need" Ye)
  (wQ:DefK K f21 d21 "take_give" Yg)
  (wP:DefK K f22 d22 "take_keep" Yf)
  (wO:DefK K f23 d23 "take_back" Yj)
  (wN:DefK K f24 d24 "take_any" Zw)
  (wM:DefK K f25 d25 "take_claim" J3)
  (wL:DefK K f26 d26 "take_call" Yi)
  (wK:DefK K f27 d27 "take_if" jaC)
  (wJ:DefK K f28 d28 "take_while" JY)
  (wI:DefK K f29 d29 "take_else" Yh)
  (wG:DefK K f30 d30 "take_end" Zv)
  (sD:DefK K f31 d31 "take_row" Zu)
  (sC:DefK K f32 d32 "read" jil)
  (Dv:DefK K f33 d33 "_law_deal" jis)
  (Du:DefK K f34 d34 "_law_draw" jiq)
  (Dt:DefK K f35 d35 "_law_many" jip)
  (Ds:DefK K f36 d36 "_law_next" jin)
  (Dr:DefK K f37 d37 "_law_taken" jeI)
  (Dq:DefK K f38 d38 "_law_name" jfX)
  (Dp:DefK K f39 d39 "_law_number" jcC)
  (Do:DefK K f40 d40 "_law_place" jcB)
  (Dn:DefK K f41 d41 "_law_term" jeH)
  (Dm:DefK K f42 d42 "_law_least" jcF)
  (Dk:DefK K f43 d43 "_law_claim" jcI)
  (Dj:DefK K f44 d44 "_law_claims" jaa)
  (Di:DefK K f45 d45 "_law_call" Sg)
  (wF:DefK K f46 d46 "_law_statement" yA)
  (wE:DefK K f47 d47 "_law_body" jdA)
  (Dh:DefK K f48 d48 "_law_proc" SI)
  (Dg:DefK K f49 d49 "_law_program" J6)
  (Df:DefK K f50 d50 "_law_more" jio)
  (De:DefK K f51 d51 "_law_place_text" jcA)
  (Dd:DefK K f52 d52 "_law_term_text" jeG)
  (Dc:DefK K f53 d53 "_law_claim_text" jcH)
  (wD:DefK K f54 d54 "_law_rows_of" J4)
  (Db:DefK K f55 d55 "_law_text_rows" yz)
  (Da:DefK K f56 d56 "_law_no_rows" jaD)
  (C_:DefK K f57 d57 "_law_reserved" Zx)
  (C9:DefK K f58 d58 "_law_deep" jir)
  (C8:DefK K f59 d59 "_law_stands" jcz)
  (C7:DefK K f60 d60 "_law_put" jim)
  (C6:DefK K f61 d61 "_law_cut" jit)
  (C5:DefK K f62 d62 "_law_lone" jaE)
  (C4:DefK K f63 d63 "_law_lacking" jcG)
  (C3:DefK K f64 d64 "_law_loose" jcD)
  (C2:DefK K f65 d65 "_law_asked" jeK)
  (Mv:bJ K ba "law" = some (some (.ref f66)))
  (GQ:LkF K f66 "law" "law" R9 oc66 od66 kV66 dc66 pm66 an66 cd66 ct66 sl66) (LQ:lX K cd66 "law" = true) (Ha:di K (.ref f66)=true)
  (Ms:bJ K ba "Reading" = some (some (.ref C0))) (Mu:bA K (.ref C0) "__init__" = some (some (.ref f67))) (Hi:W.isFn K (.ref f67)=true)
  (GP:LkF K f67 "__init__" "Reading.__init__" zb oc67 od67 kV67 dc67 pm67 an67 cd67 ct67 sl67) (LP:lX K cd67 "Reading.__init__" = true) (G_:di K (.ref f67)=true)
  (Mr:bJ K ba "Body" = some (some (.ref C1))) (Mt:bA K (.ref C1) "__init__" = some (some (.ref f68))) (Hh:W.isFn K (.ref f68)=true)
  (GO:LkF K f68 "__init__" "Body.__init__" zY oc68 od68 kV68 dc68 pm68 an68 cd68 ct68 sl68) (LO:lX K cd68 "Body.__init__" = true) (GZ:di K (.ref f68)=true)
  (F6:tx K C0 bC=true) (r_:nF K C0=true) (FX:xP K C0=true) (FQ:bA K (.ref C0) "__setattr__" = some (some (.builtin "object.__setattr__"))) (GI:xQ K C0=true) (GY:di K (.ref C0)=true)
  (GF:bA K (.ref C0) "procedures" = some none)
  (GD:bA K (.ref C0) "bodies" = some none)
  (F5:tx K C1 bC=true) (vX:nF K C1=true) (FW:xP K C1=true) (FP:bA K (.ref C1) "__setattr__" = some (some (.builtin "object.__setattr__"))) (GH:xQ K C1=true) (GX:di K (.ref C1)=true)
  (GB:bA K (.ref C1) "kind" = some none)
  (GA:bA K (.ref C1) "head" = some none)
  (Gz:bA K (.ref C1) "claims" = some none)
  (Gy:bA K (.ref C1) "gives" = some none)
  (Gx:bA K (.ref C1) "first" = some none)
  (Gw:bA K (.ref C1) "statements" = some none)
  (dT:bJ K ba "NoText" = some (some (.ref CT))) (dO:bJ K ba "OutlineError" = some (some (.ref CO))) (dN:bJ K ba "NoName" = some (some (.ref CN))) (dC:bJ K ba "NoCount" = some (some (.ref CC))) (dS:bJ K ba "NoSet" = some (some (.ref CS))) (dF:bJ K ba "MOST_FIGURES" = some (some (.int 19 tkF))) (dL:bJ K ba "MOST_LETTERS" = some (some (.int 8 tkL))) (dW:bJ K ba "WORDS" = some (some (.ref aW))) (lW:K.lookup aW=some ⟨.type "tuple",odW,.seq #[.str "each" tw0,.str "rise" tw1,.str "to" tw2,.str "proc" tw3,.str "need" tw4,.str "give" tw5,.str "back" tw6,.str "any" tw7,.str "claim" tw8,.str "if" tw9,.str "else" tw10,.str "end" tw11,.str "while" tw12,.str "keep" tw13,.str "call" tw14] nW,slW⟩) (dD:bJ K ba "DEEDS" = some (some (.ref aD))) (lD:K.lookup aD=some ⟨.type "dict",none,.dict #[⟨fv w.params "proc",.str "proc" td0,.ref f19⟩,⟨fv w.params "need",.str "need" td1,.ref f20⟩,⟨fv w.params "give",.str "give" td2,.ref f21⟩,⟨fv w.params "keep",.str "keep" td3,.ref f22⟩,⟨fv w.params "back",.str "back" td4,.ref f23⟩,⟨fv w.params "any",.str "any" td5,.ref f24⟩,⟨fv w.params "claim",.str "claim" td6,.ref f25⟩,⟨fv w.params "call",.str "call" td7,.ref f26⟩,⟨fv w.params "if",.str "if" td8,.ref f27⟩,⟨fv w.params "while",.str "while" td9,.ref f28⟩,⟨fv w.params "else",.str "else" td10,.ref f29⟩,⟨fv w.params "end",.str "end" td11,.ref f30⟩] nD,#[]⟩) (GJ:(aD == fk)=false) (aI:bA K (.ref CT) "__init__" = some (some (.ref fI))) (lI:LkF K fI "__init__" "NoText.__init__" zo ocI odI kVI dcI pmI anI cdI ctI slI) (cI:lX K cdI "NoText.__init__" = true) (kI:di K (.ref fI)=true) (tI:nE K (.ref fI)=some (.type "function")) (rO:Ee K CO (.type "type")=true) (gO:Ek K (.ref CO) (.type "type") "__init__" = some (.val (.builtin "ValueError.__init__"))) (uO:nE K (.ref CO)=some (.type "type")) (y1:W.isClsIn K CT=true) (y2:bA K (.ref CT) "__getattribute__" = some (some (.builtin "BaseException.__getattribute__"))) (y3:bA K (.ref CT) "__getattr__" = some none) (y4:bA K (.ref CT) "__class__" = some (some (.builtin "object.__class__"))) (y5:lU K CT (.type "object")=some true) (y6:lU K CT (.type "BaseException")=some true) (FO:bA K (.ref CT) "__setattr__" = some (some (.builtin "object.__setattr__"))) (Gn:bA K (.ref CT) "line" = some none) (IF:nF K CT=true) (xN:xIn K CT valB "ValueError.__new__" = true) (xO:xIn K CO valB "ValueError.__new__" = true) (mO:lU K CT (.ref CO)=some true) (GR:fZ K (.ref CT) (.ref CT)=some true) (GT:fZ K (.ref CT) (.ref CN)=some false) (GU:fZ K (.ref CT) (.ref CC)=some false) (GS:fZ K (.ref CT) (.ref CS)=some false)
  (z0:bJ K ba "len" = some none) (z1:bJ K ba "max" = some none) (z2:bJ K ba "min" = some none) (z3:bJ K ba "all" = some none) (z4:bJ K ba "isinstance" = some none) (z5:bJ K ba "abs" = some none) (z6:bJ K ba "sorted" = some none) (z7:bJ K ba "int" = some none) (z8:bJ K ba "str" = some none) (z9:bJ K ba "bool" = some none) (Fx:bJ K ba "tuple" = some none) (Fw:bJ K ba "list" = some none) (Fv:bJ K ba "dict" = some none) (Fu:bJ K ba "range" = some none) (Ft:bJ K ba "set" = some none) (Fs:bJ K ba "enumerate" = some none) :
  ∃fd:aE,(∀(s:af) (v:ae),pS s fd ⟨[v],[]⟩ [("_law_script",v)])/\∀base:ak,K.In base->base.Ns ba mg->MT l.prog w K mg base PU 19 fa fd M4 (jfR K):=by
 have e:=Ix.symm.trans (bv X G Mv)
 cases e
 have B:Ni mg:=⟨dQ X G z0,dQ X G z1,dQ X G z2,dQ X G z3,dQ X G z4,dQ X G z5,dQ X G z6,dQ X G z7,dQ X G z8,dQ X G z9,dQ X G Fx,dQ X G Fw,dQ X G Fv,dQ X G Fu,dQ X G Ft⟩
 have wT:mg "enumerate" = none:=dQ X G Fs
 have w4:=bv X G dF
 have wZ:=bv X G dL
 have wY:=bv X G dW
 have wV:∀H,Nu K H aW (zH.map V.str):=fun H=>.inr ⟨_,_,_,lW,rfl,rfl,sm rfl,(.cons ⟨tw0,rfl⟩ (.cons ⟨tw1,rfl⟩ (.cons ⟨tw2,rfl⟩ (.cons ⟨tw3,rfl⟩ (.cons ⟨tw4,rfl⟩ (.cons ⟨tw5,rfl⟩ (.cons ⟨tw6,rfl⟩ (.cons ⟨tw7,rfl⟩ (.cons ⟨tw8,rfl⟩ (.cons ⟨tw9,rfl⟩ (.cons ⟨tw10,rfl⟩ (.cons ⟨tw11,rfl⟩ (.cons ⟨tw12,rfl⟩ (.cons ⟨tw13,rfl⟩ (.cons ⟨tw14,rfl⟩ .nil)))))))))))))))⟩
 have UI:=ja4 (st:=zo) lI cI kI
 have bI:=UI.binds (ps:=M0) fun _ _ _ _ _ _=>QU (fun _ _=>rfl)
 have Z:SM K mg CT CO fI:=⟨bv X G dT,bv X G dO,aI,tI,rO,gO,uO,⟨xN,⟨y1,y2,y3,y4,y5,y6⟩,FO,Gn,IF⟩⟩
 have Y:Xs K mg CT CO CN CC CS:=⟨bv X G dN,bv X G dC,bv X G dS,xO,mO,⟨y1,y2,y3,y4,y5,y6⟩,GR,GT,GU,GS⟩
 have b4:=a4.u.binds (ps:=Nk) fun _ _ _ _ _ _=>QU (fun _ _=>rfl)
 have b5:=a5.u.binds (ps:=NY) fun _ _ _ _ _ _=>QU (fun _ _=>rfl)
 have b6:=a6.u.binds (ps:=NY) fun _ _ _ _ _ _=>QU (fun _ _=>rfl)
 have b7:=a7.u.binds (ps:=NY) fun _ _ _ _ _ _=>QU (fun _ _=>rfl)
 have b8:=a8.u.binds (ps:=NY) fun _ _ _ _ _ _=>QU (fun _ _=>rfl)
 have b9:=a9.u.binds (ps:=NY) fun _ _ _ _ _ _=>QU (fun _ _=>rfl)
 have Mq:=sN.u.binds (ps:=NY) fun _ _ _ _ _ _=>QU (fun _ _=>rfl)
 have Mp:=sM.u.binds (ps:=NY) fun _ _ _ _ _ _=>QU (fun _ _=>rfl)
 have Mo:=sL.u.binds (ps:=NY) fun _ _ _ _ _ _=>QU (fun _ _=>rfl)
 have Mn:=sK.u.binds (ps:=NY) fun _ _ _ _ _ _=>QU (fun _ _=>rfl)
 have Mm:=sJ.u.binds (ps:=NY) fun _ _ _ _ _ _=>QU (fun _ _=>rfl)
 have Ml:=sI.u.binds (ps:=NY) fun _ _ _ _ _ _=>QU (fun _ _=>rfl)
 have Mj:=sH.u.binds (ps:=Nj) fun _ _ _ _ _ _=>QU (fun _ _=>rfl)
 have Mi:=sF.u.binds (ps:=MG) fun _ _ _ _ _ _=>QL (fun _ _ _=>rfl)
 have Mh:=sE.u.binds (ps:=M5) fun _ _ _ _ _ _=>QL (fun _ _ _=>rfl)
 have Mg:=wS.u.binds (ps:=NR) fun _ _ _ _ _ _=>QL (fun _ _ _=>rfl)
 have Mf:=wR.u.binds (ps:=NR) fun _ _ _ _ _ _=>QL (fun _ _ _=>rfl)
 have Me:=wQ.u.binds (ps:=NR) fun _ _ _ _ _ _=>QL (fun _ _ _=>rfl)
 have Md:=wP.u.binds (ps:=NR) fun _ _ _ _ _ _=>QL (fun _ _ _=>rfl)
 have Mc:=wO.u.binds (ps:=NR) fun _ _ _ _ _ _=>QL (fun _ _ _=>rfl)
 have Mb:=wN.u.binds (ps:=NR) fun _ _ _ _ _ _=>QL (fun _ _ _=>rfl)
 have Ma:=wM.u.binds (ps:=NR) fun _ _ _ _ _ _=>QL (fun _ _ _=>rfl)
 have L_:=wL.u.binds (ps:=NR) fun _ _ _ _ _ _=>QL (fun _ _ _=>rfl)
 have L9:=wK.u.binds (ps:=NR) fun _ _ _ _ _ _=>QL (fun _ _ _=>rfl)
 have L8:=wJ.u.binds (ps:=NR) fun _ _ _ _ _ _=>QL (fun _ _ _=>rfl)
 have L7:=wI.u.binds (ps:=NR) fun _ _ _ _ _ _=>QL (fun _ _ _=>rfl)
 have L6:=wG.u.binds (ps:=NR) fun _ _ _ _ _ _=>QL (fun _ _ _=>rfl)
 have L5:=sD.u.binds (ps:=M5) fun _ _ _ _ _ _=>QL (fun _ _ _=>rfl)
 have LZ:=sC.u.binds (ps:=Nz) fun _ _ _ _ _ _=>el1 (fun _=>rfl)
 have LY:=wF.u.binds (ps:=Nw) fun _ _ _ _ _ _=>QL (fun _ _ _=>rfl)
 have LX:=wE.u.binds (ps:=Nw) fun _ _ _ _ _ _=>QL (fun _ _ _=>rfl)
 have LV:=wD.u.binds (ps:=MW) fun _ _ _ _ _ _=>QU (fun _ _=>rfl)
 have Mx:=ja4 (st:=R9) GQ LQ Ha
 have DD:=ja4 (st:=zb) GP LP G_
 have LU:=DD.binds (ps:=["self"]) fun _ _ _ _ _ _=>el1 (fun _=>rfl)
 have DC:=ja4 (st:=zY) GO LO GZ
 have LS:=DC.binds (ps:=M8) fun _ _ _ _ _ _=>QL (fun _ _ _=>rfl)
 have hJ:QK K C0:=⟨⟨F6,r_,FX,FQ⟩,GF,GD⟩
 have eT:Qt K C1:=⟨⟨F5,vX,FW,FP⟩,GB,GA,Gz,Gy,Gx,Gw⟩
 refine⟨ig "law" "law" (yQ R9) (zK R9) (jo R9) .none kV66 dc66 pm66 an66 cd66 ct66,fun s v=>.of_eq rfl,fun base _ _=>?_⟩
 have MK:=@mk2 l.prog w K mg base h X G
 have lL:=MK a0 (jmB a0.u B w4)
 have ia:=MK a1 (jmz a1.u lL)
 have xv:=MK a2 (jhe a2.u B wZ wY wV)
 have hZ:=MK a3 (jmC a3.u B lL)
 have bx:=NI.mk' a4.u b4 (bv X G a4.a) (jg4 (P:=l.prog) (w:=w) (base:=base) a4.u Z (jcT (P:=l.prog) (w:=w) (base:=base) UI Z) bI)
 have cz:=NI.mk' a5.u b5 (bv X G a5.a) (ji8 (P:=l.prog) (w:=w) (base:=base) a5.u xv bx)
 have lJ:=NI.mk' a6.u b6 (bv X G a6.a) (jg6 (P:=l.prog) (w:=w) (base:=base) a6.u B ia hZ cz)
 have hV:=NI.mk' a7.u b7 (bv X G a7.a) (ji7 (P:=l.prog) (w:=w) (base:=base) a7.u bx cz lJ)
 have xA:=NI.mk' a8.u b8 (bv X G a8.a) (jhk (P:=l.prog) (w:=w) (base:=base) a8.u hV)
 have m8:=NI.mk' a9.u b9 (bv X G a9.a) (jiW (P:=l.prog) (w:=w) (base:=base) a9.u B ia hZ hV)
 have xz:=NI.mk' sN.u Mq (bv X G sN.a) (jhi (P:=l.prog) (w:=w) (base:=base) sN.u B ia hZ cz)
 have m_:=NI.mk' sM.u Mp (bv X G sM.a) (ji5 (P:=l.prog) (w:=w) (base:=base) sM.u cz lJ)
 have xf:=NI.mk' sL.u Mo (bv X G sL.a) (ji3 (P:=l.prog) (w:=w) (base:=base) sL.u m_)
 have xw:=NI.mk' sK.u Mn (bv X G sK.a) (jja (P:=l.prog) (w:=w) (base:=base) sK.u m_ xz)
 have h_:=NI.mk' sJ.u Mm (bv X G sJ.a) (jhc (P:=l.prog) (w:=w) (base:=base) sJ.u m8 xA)
 have fj:=NI.mk' sI.u Ml (bv X G sI.a) (jhg (P:=l.prog) (w:=w) (base:=base) sI.u xw xf h_)
 have bh:=NI.mk' sH.u Mj (bv X G sH.a) (ji9 (P:=l.prog) (w:=w) (base:=base) (CB:=C1) hJ sH.u Z (jcT (P:=l.prog) (w:=w) (base:=base) UI Z) bI)
 have nc:=NI.mk' sF.u Mi (bv X G sF.a) (jg8 (P:=l.prog) (w:=w) (base:=base) sF.u B bx cz)
 have w_:=NI.mk' sE.u Mh (bv X G sE.a) (jg1 (P:=l.prog) (w:=w) (base:=base) eT sE.u bh hV m8)
 have hU:Q0 l.prog w K mg base _ "Body" C1 _ _:=⟨f68,_,⟨GH,Mt,Hh,GX⟩,jk8 (P:=l.prog) (w:=w) (base:=base) eT DC,LS,bv X G Mr⟩
 have w9:=NI.mk' sD.u L5 (bv X G sD.a) (jkX (P:=l.prog) (w:=w) (base:=base) sD.u (jjY (P:=l.prog) (w:=w) (base:=base) (C:=CT) (CR:=C0) (CB:=C1) (L:=[("proc",td0,f19),("need",td1,f20),("give",td2,f21),("keep",td3,f22),("back",td4,f23),("any",td5,f24),("claim",td6,f25),("call",td7,f26),("if",td8,f27),("while",td9,f28),("else",td10,f29),("end",td11,f30)]) (bv X G dD) lD GJ (.cons ⟨_,_,jiQ hJ wS.u B hU bx nc,N5,Mg,wS.u.kp⟩ (.cons ⟨_,_,jiR eT wR.u bh bx fj,N5,Mf,wR.u.kp⟩ (.cons ⟨_,_,jiT eT wQ.u bh bx fj,N5,Me,wQ.u.kp⟩ (.cons ⟨_,_,jiS eT wP.u bh bx fj,N5,Md,wP.u.kp⟩ (.cons ⟨_,_,ji0 hJ eT wO.u bh B bx,N5,Mc,wO.u.kp⟩ (.cons ⟨_,_,jkZ eT wN.u bh cz,N5,Mb,wN.u.kp⟩ (.cons ⟨_,_,jg2 eT wM.u bh fj,N5,Ma,wM.u.kp⟩ (.cons ⟨_,_,jiZ eT wL.u B bh nc,N5,L_,wL.u.kp⟩ (.cons ⟨_,_,jmx hJ eT wK.u bh hU h_,N5,L9,wK.u.kp⟩ (.cons ⟨_,_,jg0 hJ eT wJ.u bh hU h_,N5,L8,wJ.u.kp⟩ (.cons ⟨_,_,jiY hJ eT wI.u bh B bx,N5,L7,wI.u.kp⟩ (.cons ⟨_,_,jkY hJ eT wG.u bh B bx,N5,L6,wG.u.kp⟩ .nil))))))))))))) w_)
 have wX:Q0 l.prog w K mg base _ "Reading" C0 _ _:=⟨f67,_,⟨GI,Mu,Hi,GY⟩,jeV (P:=l.prog) (w:=w) (base:=base) hJ DD,LU,bv X G Ms⟩
 have xh:=NI.mk' sC.u LZ (bv X G sC.a) (ji4 (P:=l.prog) (w:=w) (base:=base) hJ sC.u B Z (jcT (P:=l.prog) (w:=w) (base:=base) UI Z) bI wT wX w9)
 have ng:=MK Dv (jk6 Dv.u B)
 have aG:=MK Du (jk4 Du.u)
 have xm:=MK Dt (jk2 Dt.u B)
 have cY:=MK Ds (jk0 Ds.u B)
 have m9:=MK Dr (ji1 Dr.u)
 have iQ:=MK Dq (jk1 Dq.u B aG)
 have du:=MK Dp (jg9 Dp.u aG)
 have eV:=MK Do (jg7 Do.u B aG du)
 have eC:=MK Dn (jiX Dn.u B aG eV)
 have gA:=MK Dm (jhd Dm.u eC du)
 have ib:=MK Dk (jhh Dk.u B aG du eV eC gA)
 have gB:=MK Dj (jeX Dj.u B cY ib)
 have ni:=MK Di (jjb Di.u B aG)
 have lN:=jea (P:=l.prog) (w:=w) (base:=base) wE.u LX (bv X G wE.a) wF.u LY (bv X G wF.a) B cY aG du eV eC gA ib gB ni 4
 have xk:=MK Dh (ji6 Dh.u B cY aG m9 iQ gB lN)
 have xj:=MK Dg (jdO Dg.u B ng cY aG iQ xk)
 have lK:=MK Df (jnC Df.u B)
 have iP:=MK De (jg5 De.u B lK)
 have eB:=MK Dd (jiV Dd.u lK iP)
 have eD:=MK Dc (jhf Dc.u iP eB)
 have lH:=jdP (P:=l.prog) (w:=w) (base:=base) wD.u LV (bv X G wD.a) B eD eB 4
 have w8:=MK Db (jiU Db.u B lH eD)
 have xl:=MK Da (jha Da.u)
 have xg:=MK C_ (jdN C_.u aG)
 have lM:=MK C9 (jk5 C9.u B)
 have xa:=MK C8 (jg3 C8.u)
 have xi:=MK C7 (jmy C7.u B aG xg xl xa)
 have xy:=MK C6 (jk7 C6.u B aG)
 have xt:=MK C5 (jk3 C5.u B aG lM)
 have xu:=MK C4 (jeW C4.u B aG lM)
 have xq:=MK C3 (jhb C3.u B aG)
 have sR:=MK C2 (jjd C2.u B Z Y xh)
 exact jmA Mx B xm m9 xj ng aG w8 xy xt xu xi xq sR
def walk{l:El}{q:aC}{my:List Str}{XP:(Str->Option ae)->ak->Prop}{YP:ax->ak->Prop}{d:DefRec}{K:nM->ao}(hn:l.most=some 63)(o0:d.params.defaults=[])
  (hY:∀(w:ax) (h:ak),YP w h->(K w.params).In h)
  (F:∀(w:ax) (mg:Str->Option ae) (fa:ac) (h:ak),(K w.params).In h->h.Ns ba mg->mg d.name=some (.ref fa)->
   ∃fd:aE,(∀(s:af) (u:ae),pS s fd ⟨[u],[]⟩ [("_law_script",u)])/\∀base:ak,(K w.params).In base->base.Ns ba mg->MT l.prog w (K w.params) mg base PU 19 fa fd M4 (jfR (K w.params))) :
  NJ q my XP YP l.row.toRowW d [] (fun f vs=>Ea f vs):=
 L2.walk_of (n:=63) (k:=19) (x:="_law_script") (CX:=fun _=>PU) (sp:=fun w=>jfR (K w.params)) hn N5 o0 ⟨rfl,N5,N5,rfl⟩ hY F (fun _ _ a ns hl _ hS=>⟨a,ns,rfl,hS,hl,fun _=>rfl⟩) fun _ _ _ _ _ z=>z
end LW
structure PySem.W.Fast:Prop where(tw10015222899741611319 tw10188696727020140123 tw10198364787933807528 tw10428618084187998873 tw10430356956105942662 tw10452850534385140031 tw10632459734261896043 tw10642172066073143293 tw10646974986463752224 tw10665186962235808427 tw10809573873173158465 tw10865203183751270403 tw10876181073434530131 tw10933806808685383509 tw10991305971746440692 tw10997564698688690815 tw11007812164802729294 tw11044941457736016997 tw11095956611865331264 tw1117706754432416933 tw11318154921324867668 tw11415979076026805145 tw1152794031063040872 tw11536361254764037776 tw11581241006753521004 tw11686695816078627072 tw11687691270430794250 tw11813647128609699059 tw12050173483979820712 tw12092236052551102320 tw12136229366310660766 tw12141242246687947137 tw12181510939598743210 tw12276705577749415496 tw12469925894262630506 tw12543717372365747021 tw12613387981462432278 tw12676965327644264310 tw12695900951132043128 tw12727431567903848170 tw13247378913784775186 tw13297468547939628207 tw13341442680042366686 tw13393317935946892821 tw13446236659841504817 tw13465160856083892634 tw13539470765308478912 tw13694515695186934479 tw1369458858189639541 tw13750355067809768881 tw13832461591945626804 tw13859855126909167973 tw13883316837224949336 tw13900002972627796001 tw1390382968778719144 tw14027299881858340883 tw14029997417789840805 tw14038981830741425895 tw14164644720334567216 tw14211937933067291578 tw14227273870420412807 tw14402685154319594180 tw14590811528837670620 tw14641846737072191327 tw14677557935526554505 tw14713497232894606953 tw14762385491485258904 tw14922986935580378185 tw14969668633239921835 tw14987509645492569257 tw15092271447676291951 tw15139535853997211316 tw15165438265694352756 tw15237173153328290842 tw15370393520602620023 tw15401091121462306494 tw15665488261093261315 tw15710859067464471029 tw1571204892769345167 tw15957540724888558771 tw16036022052024332450 tw16096091738453459713 tw16108949370408645585 tw16511066059648496299 tw16572058657211283956 tw16689925963034076860 tw1671258657336303607 tw16775001976281052012 tw16830868764517588635 tw16891008610057218496 tw17134321178533841216 tw17161674810930150238 tw1721150730747584429 tw17232327605434268020 tw17344328251938605806 tw17474517837857270232 tw17545224808498508956 tw17736717791557780146 tw17740464546089582952 tw17757725905276769585 tw17769906493656778857 tw17815491720019626690 tw17825257514295362700 tw17926710179515939932 tw17931450569906917548 tw18015011945780698780 tw18079350207986631568 tw18145803070277766077 tw1830124347496016809 tw18324480409016794951 tw18369253781436479538 tw18404849709915346390 tw1843547001126383869 tw1860817582386666302 tw1926233494025081398 tw1975722993187246769 tw2067624184345101017 tw2118569142879704787 tw2131443252502250583 tw2152851025075529783 tw2166704742838558476 tw2182467634251046110 tw2195894695005278142 tw2499916652788474235 tw2831386123980215365 tw2893920329441842324 tw292020848292392851 tw3042657165792997672 tw3235160880529231741 tw3269770526668610939 tw3480561881462721688 tw3540229265968471271 tw360504015968051315 tw3650506787106682213 tw3736377906328533546 tw3841234751496142450 tw3889106146024481495 tw3900816152714285210 tw3972339348186747875 tw4016122246524729732 tw4042931963569292875 tw4130582351809646573 tw44565473445700645 tw4483180538679629911 tw454931611912861765 tw4681459642870261865 tw4793119472767223052 tw4934985267017281146 tw4959801169064868015 tw5082719662881254388 tw5200633897017557607 tw5339140290247155274 tw5402134204987726959 tw5502232063822557661 tw5540061236540339912 tw5547345539803131882 tw5558434190108546144 tw5904994409458429813 tw6008599524342027820 tw601105020579319153 tw6018155805145968536 tw624930483661056707 tw6255793382040517308 tw6283713390941432527 tw651197225067283687 tw6582815636937956601 tw6644310469302693814 tw6794477641470323653 tw6845454668650998119 tw6878313233403342294 tw7266132058190382765 tw7318442560706982241 tw7384500675233042426 tw7413872169670557077 tw7415816348128221095 tw746073871269900526 tw749281470540235846 tw7516202093296826428 tw7562829599615816503 tw7616102481002106697 tw762023950277204838 tw7692072551767121190 tw7872474409808699381 tw7908532874367652050 tw7921397327675860960 tw8065312863580836333 tw8123655535078451475 tw8159102227362836596 tw8306796158121048286 tw8330077396529822137 tw8330523842723739519 tw8350877709845280605 tw8437826119956317073 tw8441041854780855796 tw8459797332514259703 tw8467999702398494039 tw8602085703644375382 tw8704676568097444675 tw8729057173315444802 tw8744577735325986368 tw8777302062519764747 tw9133668006539771833 tw9303855293626013943 tw9455066261782264657 tw9608385925942281192 tw9742157355908324605 tw9851605381751489801 tw9889322212708297193 tw9964540710794639097:True)
open PySem PySem.W PyProof.Rows
set_option maxHeartbeats 0 in
theorem PySem.Challenge.cw_outlineward_k25_whole_texts_refused_holds : PySem.Challenge.rw_outlineward_k25_whole_texts_refused.Holds := by
 w_on;o_law;k_head;(case hw=>w_witness2);k_fill;refine LW.walk (l:=On) rfl rfl (fun w h Y=>W.kIn_of Y) ?F
 case F=>
  intro w mg fa h KX G oP
  refine' LW.all_mk KX G oP ..
  all_goals try apply LW.DefK.m
  all_goals try ((try unfold LW.LkF);first | k_is | kit_is | (unfold L2.valB;k_exc) | rfl | kernel_rfl)
