import PyProof.Rows.All
import Wide.All
import OpenK.AllK
import Wide.FinOn
import Lean
import PyProof.EqAt
import PyProof.EqKinds
import PyProof.TupleCall
import PyProof.NeKinds
import KE.KEqDict
import KE.KDictSum
import PyProof.Rows.StrMul
import PyProof.Rows.SortStr
import PyProof.Rows.SortWalk
import KE.KSortTup
import PyProof.IsiH_list
import KE.KDictOf
import KE.KItemsList
import PyProof.SetKind
import PyProof.Rows.SetFrom
import PyProof.IsRules
import PyProof.EnumStmt
import PyProof.EnumFor
import PyProof.EnumMake
import PyProof.Rows.StrJoin2
import KE.KDictList
import PyProof.ZipIter
import PyProof.DictCompW
import PyProof.DictUpdate
import PyProof.FactsAll.set_2
import KE.KSetDisp
import PyProof.Rows.SortShellK
import PyProof.TupleKey
import PyProof.ReprRoads
import PyProof.Rows.StrNews2
import PyProof.StrCalls
import PyProof.ListIndex
import PyProof.StrLawsChain
import PyProof.StrLawsOcc
import KE.KDictLaws
import PyProof.SeqI3
import PySem.Challenge.RW_outlineward_k66_what_comes_first
set_option Elab.async false
set_option linter.all false
set_option maxRecDepth 100000
set_option maxHeartbeats 4000000
local macro_rules | `(tactic| omega) => `(tactic| first | lia | omega +splitNatSub)
def Tq:=@of_decide_eq_true
def Tr:=@decide_eq_true
def Ts:=@decide_eq_false
def Tt:=@if_neg
def Tu:=@if_pos
def Tv:=@beq_eq_false_iff_ne
def Tw:=@congrArg
open _root_.Array renaming length_toList->cF,getElem?_eq_getElem->iM,getD_eq_getD_getElem?->oF,getD->sN,size_map->D3,replicate->D4,toList_push->Lq,toList_inj->Lr,getElem?_toList->Ls,toList->Ti,toArray_toList->Tj,mem_toList_iff->Tk,forIn_toList->Tl,foldl_toList->Tn
open _root_.Bool renaming false_ne_true->bF,and_eq_true->cm,or_eq_true->mR,false_eq_true->sL,eq_iff_iff->sM,noConfusion->Lo,and_false->Lp,not_eq_true->Tg,false_or->Th
open _root_.Char renaming toNat->Ln
open _root_.False renaming elim->ez
open _root_.Fin renaming ext->D0
open _root_.Int renaming toNat->lE,emod_nonneg->mP,emod_lt_of_pos->mQ,toNat_natCast->oE,zero_add->Tf
open _root_.List renaming length_map->aC,getElem?_eq_getElem->aI,mem_cons->aN,length_append->aO,getElem?_eq_some_iff->aY,mem_singleton->bf,Nodup->bg,map_append->bh,length_cons->bo,mem_cons_self->bt,mem_cons_of_mem->bu,mem_append->bB,map_cons->bE,range->bL,size_toArray->bP,getElem?_map->bU,cons_append->bW,mem_append_right->b4,mem_map->ck,take_succ->cE,length_take->cM,take_length->cV,nodup_cons->cW,filterMap_cons->cX,append_nil->dl,append_assoc->em,not_mem_nil->eV,lookup->eW,nodup_nil->fO,lookup_cons->gC,getElem_mem->gD,nodup_append->g5,map->g6,all_cons->g7,nil_append->lB,length->lC,lookup_cons_self->mL,length_nil->mM,find?_cons->mO,map_nil->oy,length_filter_le->oz,flatMap_cons->oA,flatMap_append->oB,mem_range->sw,map_map->sH,getD_eq_getElem?_getD->sI,any_cons->sJ,take_zero->v9,take_append_drop->v_,reverse_cons->wa,pairwise_cons->wb,mem_append_left->wc,length_drop->we,forIn_nil->wf,findIdx?->wg,filter_cons->wj,all_eq_true->wm,sum_cons->DR,sum_append->DS,replicate->DT,pairwise_iff_getElem->DU,length_range->DV,length_eq_zero_iff->DW,getElem?_set_self->DX,getElem?_set_ne->DY,forIn_cons->DZ,take_of_length_le->Lb,set_comm->Lc,range_succ->Ld,pairwise_lt_range->Le,of_mem_zip->Lf,mem_of_getElem?->Lg,mem_iff_getElem->Lh,mem_filter->Li,map_reverse->Lj,getElem?_append_right->Lk,filter_append->Ll,append_cancel_left->Lm,take_sublist->SK,replicate_succ'->SM,mem_reverse->SN,mem_of_mem_take->SO,mem_flatMap->SQ,mem_filterMap->SR,mem_erase_of_ne->SS,map_take->SU,map_drop->SV,length_reverse->SW,length_replicate->SX,length_pos_of_mem->SY,length_erase_of_mem->SZ,length_eraseIdx->S0,getElem_take->S1,getElem_map->S2,getElem_inj->S3,getElem?_append_left->S4,foldl_cons->S5,flatMap_nil->S6,find?_some->S7,filter->S8,ext_getElem->S9,contains_iff_mem->S_,any_eq_true->Tc
open _root_.List.Perm renaming refl->oC
open _root_.Nat renaming le_of_ble_eq_true->aw,le_refl->aB,ne_of_lt->aT,le_trans->aU,zero_le->bA,lt_of_lt_of_le->cj,le_of_lt->cP,lt_irrefl->g0,lt_trans->iL,zero_add->mI,repr->mJ,ne_of_gt->mK,min_eq_left->ow,le_succ->ox,lt_succ_of_lt->sq,lt_or_ge->su,lt_of_le_of_lt->v8,toList_repr->DN,succ_le_succ->DO,mod_lt->DP,eq_zero_or_pos->DQ,ofDigitChars_ten_toDigits->IV,not_lt_zero->IW,mul_le_mul_right->IX,lt_succ_self->IY,log2_lt->IZ,le_of_not_lt->I_,add_zero->J_,add_le_add_left->K_,toDigits->SC,succ_pos->SD,succ_ne_self->SE,succ_mul->SF,sub_zero->SG,le_succ_of_le->SH,le_of_eq->SI,add_le_add->SJ
open _root_.Nat.succ renaming inj->sk
open _root_.Ne renaming symm->br
open _root_.Option renaming isSome_iff_exists->vZ,map_some->DM,isSome_map->Sy,isSome->Sz,getD_none->SB
open _root_.Option.some renaming inj->bZ
open _root_.PyProof.Rows renaming wpS_bind->dv,seqObj->dw,SortSt->eU,envOfC->gB,wpS_pure->gZ,AllBare->iK,failedOf->ou,wpS_get->sj,pendingOf->vX,IntsAre->vY,wpS_forRange->DG,get?_update_seq->DH,callWith_type1->DI,assignInOrder_cons->DJ,subscriptTail->IK,sortedHeap->IM,slot_tuple_getitem->IN,size_push'->IP,seqEpoch_at->IQ,listUpdate_at->IR,Subscript_->IS,subscriptTail_builtinR->R_,assignInOrder_nil->Sr
open _root_.PyProof.Rows.F renaming plain_set_update_loop->IT,entry_set_update_loop->Sx
open _root_.PyProof.Rows.IsTup renaming new->DK
open _root_.PySem renaming Addr->aa,Value->ad,wpAny_bind->ae,Shared->af,wpAny->ah,Expr->aj,model->am,wpAny_pure->aq,Heap->au,World->ax,Program->az,Stmt->aA,FuncData->aD,sizeLine->aF,mainGlobals->aH,Around->aM,SetTable->bb,wpAny_mono->bi,Scope->bO,starEach->bT,codeAny->cD,wpAny_setState_of->cS,strKind->cT,rawInt->dg,pyNext->dh,wpAny_holding->dr,foldedSetIterable->du,wpAny_newObj_type->dY,compareOp->dZ,sizeLine_eq->eJ,scanBound->eK,bootBuiltins->eL,binaryOp->eM,wpAny_standAt->ft,wpAny_field->fL,backTo->fM,sysModules->gu,NameKind->gz,IsEnum->gA,pickOrder->gW,Model->gY,wpAny_rule->iz,wpAny_call_entry->iA,swapsWith->iB,setField->iC,assignEach->iD,standAt->j_,setNext->k_,letOwnedTupleGo->le,compPost->li,codeAny_mono->lj,codeAny_builtin->lm,Result->ly,wpAny_askSetting->mz,pyIter->mB,mem_of_lookup->mC,getItem->mD,IsPart->mF,wpAny_truthy_bool->nT,wpAny_passesOwn->nU,valueAt->nV,strKind_is->nW,sliceBounds->nX,callerA->nY,bindName->nZ,attributeBase->n_,BindsTo->oq,wpAny_storeSet_of->rB,wpAny_setField_rec->rD,wpAny_execs_nil->rG,wpAny_callSpecial?_slot->rH,wpAny_Call_Name_kw->rJ,tupleKind->rL,relayAll->rM,plainId_quiet->rO,notedBy->rP,noteFrame->rQ,newExc->rR,newDict->rS,firstIterPos->rW,compTurn->rX,wpAny_pyIter_tuple->vC,wpAny_of_eq->vD,wpAny_isInstance->vE,wpAny_attempt->vF,setsByText->vG,seqItems?->vH,raiseNew->vI,newList->vJ,behindInMarks->vK,DictEntry->vV,wpAny_typeOf->C6,wpAny_seqItems->C7,wpAny_pyIter_enum->C8,wpAny_noted->C9,wpAny_newFunctionEnv->C_,wpAny_comprehension_free->Da,wpAny_call->Db,wpAny_bindName->Dc,tupleKind_room_in1->Dd,theTreesLotGoes->De,setWalk->Df,putSet_of->Dg,firstArgMember->Dh,excClassObj->Di,codeAny_loop->Dj,Within->Dk,PassesOwn->Ds,IsEnumOut->Dw,GenState->Dy,ElemsOf->DB,wpAny_updateSeq->GM,wpAny_setField->GP,wpAny_newList->GQ,wpAny_loadPart_at->GR,wpAny_load->GS,wpAny_ite_split->GU,wpAny_forIn_list->GV,wpAny_execs_cons->GW,wpAny_assign_Name->GY,wpAny_Name->GZ,updateSeq->G0,typeLookup->Ha,storeName->Hb,setNextDrawn->Hc,setEntries->Hf,seq_tuple_add->Hh,seqIndex_of->Hi,noFill_tuple_add->Hk,isSubtype_type->Hn,isInstance->Ho,drawOrder->Ht,concat_meets->Hu,codeAny_of_tree->Hv,codeAny_call_builtin->Hw,checkBuiltinCall->Hx,cellsFrom->Hy,call_meetsIn->HH,call_meets->HI,call->HJ,builtinsNs->HK,assignInOrder->HM,wpAny_typeOf_ref->Pw,wpAny_setFlight_noneW->PB,wpAny_pyNext_tuple_item->PH,wpAny_pyNext_tuple_end->PJ,wpAny_pyNext_list_item->PK,wpAny_pyNext_list_end->PL,wpAny_pyIter_list->PM,wpAny_loadName_local->PQ,wpAny_loadName_cell->PR,wpAny_letOwnedTupleGo_enum->PU,wpAny_isTrue_Compare1->PV,wpAny_isSubtype_exc->PX,wpAny_handleBy_cons->PZ,wpAny_excMatches_sub_self->P0,wpAny_eqBool_int->P1,wpAny_dictSet_pairs->P3,wpAny_FormattedValue_plain->P5,wpAny_Dict_empty->P6,wpAny_Assign_Name->P7,unbindBehindTheSuite->P8,slot_list_getitem->Qf,fits_of_scanBound->QK,exec_Assign_Name_used->QL,codeAny_handlers_test->QR,codeAny_handlers_suite_as->QU,codeAny_compStart_list->QV,codeAny_compStart_dict->QX,Keyword->Ry
open _root_.PySem.Around renaming under_plainId->ot,units->DF,under->IJ
open _root_.PySem.Builtin.Frozenset renaming isAnySet->II,updateFrom->R4,copyOf->R5,baseOf->R6
open _root_.PySem.Builtin.List renaming listTooLong->IH,listSameRef->R0,listLengthHint->R1,listExtendWith->R3
open _root_.PySem.Builtin.Slice renaming slicePlaces->DE,sliceAdjust->Iz,sliceApplied->RZ
open _root_.PySem.Builtin.SmallTypes renaming nextOf->vW,ownedTupleIsFree->RX,ownedTupleHandOut->RY
open _root_.PySem.Builtin.Str renaming reprChar->DD
open _root_.PySem.Builtin.Tuple renaming tupleExact->DC
open _root_.PySem.Calls renaming spliced_cons->Iw,evalArgs_plain->Ix,callWith_builtin->Iy,spliced_nil->RU,call_function_entry->RV,Name_function_global->RW
open _root_.PySem.Challenge renaming rw_outlineward_k66_what_comes_first->RT
open _root_.PySem.Code renaming isFrame->Iv,quiet_builtin->RR,frames->RS
open _root_.PySem.Env renaming scope->eT
open _root_.PySem.F renaming plainAttrs_list->dL,type_list_append->iI,slot_list_append->iJ,called_set->mH,type_list_extend->rZ,slot_list_extend->r_,excBase_ValueError->sf,plain_extend_loop->vU,slot_tuple_iterator_next->Dz,slot_enumerate_next->DA,slot_tuple_add->Il,slot_dict_items->Im,slot_dict_get->Io,plainAttrs_dict->Ip,entry_tuple_add->Iq,args_tuple_add_2->Ir,type_dict_items->RC,sub_set_set->RE,slot_set_or->RF,slot_set_iter->RG,plain_set_new->RH,plain_list_iadd->RI,entry_tuple_iterator_next->RJ,entry_extend_loop->RK,entry_enumerate_next->RL,entry_dict_get->RM,attr_ValueError->RN,args_tuple_iterator_next_1->RO,args_enumerate_next_1->RP,args_dict_get_3->RQ
open _root_.PySem.Heap renaming lt_size->aL,get?_push_of_some->aQ,get?_push_size->bV,SameBut->cr,size_push->lA,get?_update_other->vT,get?_update_self->Dx,get?_update_ne->Ij,ExtBut->RB
open _root_.PySem.Heap.SameBut renaming refl->iH,update->mG
open _root_.PySem.Obj renaming mapSeq->dF,putSet->on,data_mapFields->Rx
open _root_.PySem.OwnTail renaming hasType->Ih
open _root_.PySem.Paired renaming length->Dv,snoc->Ru
open _root_.PySem.PassesOwn renaming never->cb
open _root_.PySem.Pos renaming line->lz
open _root_.PySem.PyData renaming shownAll->vS,depthAll->Ie,showableAll->Rp,hasDictAll->Rq
open _root_.PySem.Scope renaming names->om
open _root_.PySem.SeqAt renaming EqAt->cL
open _root_.PySem.SeqAt.EqAt renaming str_str->vQ,same->vR,of_refs->Dq,int_int->Dr,str_int->Ib,int_str->Ic,bool_bool->Ro
open _root_.PySem.SeqAt.RcAt renaming tuples->vP
open _root_.PySem.SetTable renaming below->cq,bits->iG,sizeAbove->lx,laid->oh,grown->oj,fits->Dp,turns->HY,runEnd->HZ,layClean->H0,fill->H_,Probe->Ia,slot->Rm,roomFor->Rn
open _root_.PySem.SetTable.below renaming go->vO
open _root_.PySem.SetTable.layClean renaming free->gX
open _root_.PySem.SetTable.probe renaming go->Do
open _root_.PySem.Str renaming ofString->bx,empty->eR,join->HX
open _root_.PySem.Unicode renaming isPrintable->Rl
open _root_.PySem.Value renaming isStrOf->Rj,isInt->Rk
open _root_.PySem.W renaming Frag->av,findIn->aG,nsIn->aK,keepIn->bQ,mg_of->cK,mroIn->cU,codeIn->dj,kitOne->dD,excIn->dE,mg_none_of->dJ,plainGet->d_,hasDictIn->ef,plainOver->eP,makesIn->eQ,isFn->fN,hideAll->iE,fnOf->iF,emptyDict->lr,instObj->mE,isClsIn->og,clsIn->rY,specialIn->vL,kdsCode->vM,alongIn->vN,of_hideAll->Dl,hideAll_none->Dm,OpenLaw->Dn,takerIn->HN,tailIn->HP,nsOkIn->HQ,methodObj->HR,lookIn->HS,handedIn->Rb,cellsFrom_some->Rc,callWith_K->Re,WalkO->Rg
open _root_.PySem.W.KF renaming type_class->HW
open _root_.PySem.W.WShape renaming has->Rh
open _root_.PySem.pickOrder renaming go->Hj
open _root_.String renaming toList_append->C5
open _root_.Sum.inr renaming inj->CZ
open _root_.ToString renaming toString->nS
namespace L2
open PySem PySem.Spec PyProof.Rows
abbrev Key:=Sum Int Str
def KL:Key->ad->Bool
 | .inl k,v=>Rk k v
 | .inr x,v=>Rj x v
def jiO(w:ax):Key->Int
 | .inl k=>hashInt k
 | .inr x=>hashStr w x
theorem kg:∀{k:Key} {v:ad},KL k v=true->(∃i t,k=Sum.inl i/\v=Value.int i t)\/(∃x t,k=Sum.inr x/\v=Value.str x t)
 | .inl i,v,h=>by
  obtain⟨t,e⟩:=ad.isInt_shape (k:=i) (v:=v) h;exact .inl ⟨i,t,rfl,e⟩
 | .inr x,v,h=>by
  obtain⟨t,e⟩:=ad.isStrOf_shape (x:=x) (v:=v) h;exact .inr ⟨x,t,rfl,e⟩
theorem jdD(i:Int)(t:Tok):KL (.inl i) (.int i t)=true:=by simp[KL,Rk]
theorem jdC(x:Str)(t:Tok):KL (.inr x) (.str x t)=true:=by simp[KL,Rj]
theorem jhq(a b:Int):decide ((Sum.inl a:Key)=Sum.inl b)=(a == b):=by
 by_cases e:a=b
 .subst e;simp
 .have h:¬(Sum.inl a:Key)=Sum.inl b:=fun q=>e (Sum.inl.inj q)
  rw[Ts h];exact (Tv.mpr e).symm
theorem jhn(a b:Str):decide ((Sum.inr a:Key)=Sum.inr b)=decide (a=b):=by
 by_cases e:a=b
 .subst e;simp
 .have h:¬(Sum.inr a:Key)=Sum.inr b:=fun q=>e (CZ q)
  rw[Ts h,Ts e]
theorem jhp(a:Int)(b:Str):decide ((Sum.inl a:Key)=Sum.inr b)=false:=Ts (fun q=>nomatch q)
theorem jho(a:Str)(b:Int):decide ((Sum.inr a:Key)=Sum.inl b)=false:=Ts (fun q=>nomatch q)
def j6(prog:az)(w:ax):PySem.KeyKind prog w Key where
 is:=KL
 hash:=jiO w
 inj:=fun v a b ha hb=>by
  rcases kg ha with⟨i,t,rfl,rfl⟩ | ⟨x,t,rfl,rfl⟩
  .rcases kg hb with⟨j,u,rfl,e⟩ | ⟨y,u,rfl,e⟩
   .injection e with e1 _;rw[e1]
   .exact nomatch e
  .rcases kg hb with⟨j,u,rfl,e⟩ | ⟨y,u,rfl,e⟩
   .exact nomatch e
   .injection e with e1 _;rw[e1]
 byValue:=fun k v h=>by
  rcases kg h with⟨i,t,rfl,rfl⟩ | ⟨x,t,rfl,rfl⟩ <;> rfl
 pyHash:=fun hv h=>by
  rcases kg hv with⟨i,t,rfl,rfl⟩ | ⟨x,t,rfl,rfl⟩
  .exact wpAny_pyHash_int h
  .exact wpAny_pyHash_str h
 eqBool:=fun hu hv h=>by
  rcases kg hu with⟨i,t,rfl,rfl⟩ | ⟨x,t,rfl,rfl⟩
  .rcases kg hv with⟨j,u,rfl,rfl⟩ | ⟨y,u,rfl,rfl⟩
   .rw[jhq]at h;exact P1 h
   .rw[jhp]at h;exact Ic i t y u _ _ _ _ h
  .rcases kg hv with⟨j,u,rfl,rfl⟩ | ⟨y,u,rfl,rfl⟩
   .rw[jho]at h;exact Ib x t j u _ _ _ _ h
   .rw[jhn]at h;exact wpAny_eqBool_str h
 «strs»:=fun k x t v h=>by
  rcases kg h with⟨i,u,rfl,e⟩ | ⟨y,u,rfl,e⟩
  .exact nomatch e
  .injection e with e1 _
   subst e1
   cases v <;> rfl
theorem jbR(prog:az)(w:ax)(k:Key)(v:ad):(j6 prog w).is k v=KL k v:=rfl
theorem jaV(prog:az)(w:ax)(i:Int)(t:Tok):(j6 prog w).is (.inl i) (.int i t)=true:=jdD i t
theorem jaU(prog:az)(w:ax)(x:Str)(t:Tok):(j6 prog w).is (.inr x) (.str x t)=true:=jdC x t
inductive V where
 | non | bl (b:Bool) | int (i:Int) | str (x:Str) | byt (b:Array UInt8) | flt (b:UInt64) | ref (a:aa) | ty (n:String)
 deriving DecidableEq
def RelV:V->ad->Prop
 | .non,u=>u=Value.none
 | .bl b,u=>u=Value.bool b
 | .int i,u=>∃t,u=Value.int i t
 | .str x,u=>∃t,u=Value.str x t
 | .byt b,u=>∃t,u=Value.bytes b t
 | .flt b,u=>∃t,u=Value.float b t
 | .ref a,u=>u=Value.ref a
 | .ty n,u=>u=Value.type n
abbrev Vals:List V->List ad->Prop:=Paired RelV
variable {xs:List V}{us:List ad}
theorem Vals.length(r:Vals xs us):xs.length=us.length:=Dv r
theorem Vals.get:∀{xs:List V} {us:List ad} {i:Nat} {x:V},Vals xs us->xs[i]?=some x->∃u,us[i]?=some u/\RelV x u
 | _,_,_,_,.nil,e=>by simp at e
 | _,_,0,_,.cons r _,e=>by simp at e;subst e;exact⟨_,rfl,r⟩
 | _,_,i+1,x,.cons _ t,e=>by
  obtain⟨u,h1,h2⟩:=Vals.get (i:=i) (x:=x) t (by simpa using e);exact⟨u,by simpa using h1,h2⟩
theorem Vals.set{x:V}{u:ad}(r:RelV x u):∀{xs:List V} {us:List ad} (i:Nat),Vals xs us->Vals (xs.set i x) (us.set i u)
 | _,_,_,.nil=>.nil
 | _,_,0,.cons _ t=>.cons r t
 | _,_,i+1,.cons q t=>.cons q (Vals.set r i t)
theorem Vals.append:∀{xs ys:List V} {us ws:List ad},Vals xs us->Vals ys ws->Vals (xs++ys) (us++ws)
 | _,_,_,_,.nil,s=>s
 | _,_,_,_,.cons r t,s=>.cons r (Vals.append t s)
theorem Vals.take:∀{xs:List V} {us:List ad} (n:Nat),Vals xs us->Vals (xs.take n) (us.take n)
 | _,_,0,_=>.nil
 | _,_,_+1,.nil=>.nil
 | _,_,n+1,.cons r t=>.cons r (Vals.take n t)
theorem Vals.drop:∀{xs:List V} {us:List ad} (n:Nat),Vals xs us->Vals (xs.drop n) (us.drop n)
 | _,_,0,r=>r
 | _,_,_+1,.nil=>.nil
 | _,_,n+1,.cons _ t=>Vals.drop n t
def RelO:Option V->Option ad->Prop
 | some v,some u=>RelV v u
 | none,none=>True
 | _,_=>False
def KV{κ:Type}:List (κ×V)->List (κ×ad)->Prop:=Paired fun (p:κ×V) (q:κ×ad)=>p.1=q.1/\RelV p.2 q.2
def kV:Key->V
 | .inl i=>.int i
 | .inr x=>.str x
inductive HO where
 | lst (xs:List V)
 | tup (xs:List V)
 | dK (kvs:List (Key×V)) | dT (kvs:List (List Key×V))
 | set (S:Int->Bool) (n:Nat)
 | ins (C dx:aa) (fs:List (Str×V))
 | own (x:aa)
 | xd (fs:List (Str×V))
 | met (f x:aa)
 | rng (lo hi:Int)
 | frz (o:Obj) (u:HO)
 | tbl (ps:Array ad)
 | ext (φ:au->Prop)
abbrev Hp:=aa->Option HO
def upd(H:Hp)(a:aa)(o:HO):Hp:=fun b=>if b=a then some o else H b
variable {H:Hp}{a:aa}{o:HO}
theorem jb:upd H a o a=some o:=by unfold upd;rw[Tu rfl]
variable {b:aa}
theorem jp(h:b≠a):upd H a o b=H b:=by unfold upd;rw[Tt h]
theorem jfL{u:HO}:upd (upd H a o) a u=upd H a u:=by
 funext b;unfold upd;split <;> rfl
theorem KI{u:HO}(h:H a=some o)(h':H b=some u)(d:o≠u):a≠b:=by
 intro e;subst e;rw[h]at h';exact d (bZ h')
theorem jh(h:H a=some o)(h':H b=none):a≠b:=by
 intro e;subst e;rw[h]at h';cases h'
section
variable (P:az)(w:ax)
def ObjOk(H:Hp)(h:au)(a:aa):HO->Prop
 | .lst xs=>xs.length<=aF/\∃(its:List ad) (n:Nat),Vals xs its/\h.get? a=some { cls:=.type "list",data:=.seq its.toArray n }
 | .tup xs=>xs.length<=aF/\∃its:List ad,Vals xs its/\IsTup h a its.toArray
 | .dK kvs=>kvs.length<=aF/\(a == gu)=false/\∃vs,KV kvs vs/\h.DictOf (j6 P w) a vs
 | .dT kvs=>kvs.length<=aF/\(a == gu)=false/\∃xs:List (List Key×aa×ad),
   Paired (fun (p:List Key×V) (q:List Key×aa×ad)=>p.1=q.1/\H q.2.1=some (.tup (p.1.map kV))/\RelV p.2 q.2.2) kvs xs/\
   ∃o es ep,h.get? a=some o/\o.ExactDict/\o.data=.dict es ep/\es.toList=xs.map (entryOfKey (rL (j6 P w)))/\(xs.map (·.1)).Nodup
 | .set S n=>h.SetOf (intKind P w) a S n
 | .ins C dx fs=>H dx=some (.own a)/\fs.length<=1000/\dx≠a/\h.get? a=some (mE C dx)/\
   ∃mA,h.Ns1 dx mA/\(∀f,RelO (fs.lookup f) (mA f))/\Dk mA (fs.map (·.1))
 | .own _=>∃o,h.get? a=some o
 | .xd fs=>∃mA,h.Ns1 a mA/\∀f,RelO (fs.lookup f) (mA f)
 | .rng lo hi=>∃t u v,h.get? a=some { cls:=.type "range",data:=.fields #[.int lo t,.int hi u,.int 1 v] }
 | .frz o u=>h.get? a=some o/\ObjOk H h a u
 | .tbl ps=>h.get? a=some { cls:=.none,data:=.fields ps }
 | .met f x=>h.get? a=some (HR (.ref f) (.ref x))
 | .ext φ=>φ h/\(∃o,h.get? a=some o)/\∀h1 h2:au,φ h1->(∀o,h1.get? a=some o->h2.get? a=some o)->φ h2
def HOk(H:Hp)(h:au):Prop:=∀a o,H a=some o->ObjOk P w H h a o
end
variable {P:az}{w:ax}{H':Hp}{h h':au}
section
theorem ObjOk.lt(x:ObjOk P w H h a o):a < h.objs.size:=by
 cases o with
 | lst xs=>obtain⟨_,_,_,_,e⟩:=x;exact aL e
 | tup xs=>obtain⟨_,_,_,p⟩:=x;exact p.lt
 | dK kvs=>obtain⟨_,_,_,_,o,_,_,e,_⟩:=x;exact aL e
 | dT kvs=>obtain⟨_,_,_,_,o,_,_,e,_⟩:=x;exact aL e
 | set S n=>obtain⟨o,_,_,_,e,_⟩:=x;exact aL e
 | ins C dx fs=>obtain⟨_,_,_,e,_⟩:=x;exact aL e
 | own y=>obtain⟨_,e⟩:=x;exact aL e
 | xd fs=>obtain⟨_,⟨_,_,_,e,_⟩,_⟩:=x;exact aL e
 | rng lo hi=>obtain⟨_,_,_,e⟩:=x;exact aL e
 | frz ob u=>obtain⟨e,_⟩:=x;exact aL e
 | tbl ps=>exact aL (show h.get? a=some _ from x)
 | met f y=>exact aL (show h.get? a=some _ from x)
 | ext φ=>obtain⟨_,⟨_,e⟩,_⟩:=x;exact aL e
theorem Paired.mapP{α β:Type}{F G:α->β->Prop}:∀{l₁:List α} {l₂:List β},Paired F l₁ l₂->(∀a b,F a b->G a b)->Paired G l₁ l₂
 | _,_,.nil,_=>.nil
 | _,_,.cons r t,f=>.cons (f _ _ r) (Paired.mapP t f)
theorem ObjOk.stay(x:ObjOk P w H h a o)(k:∀b u,(b=a\/H b=some (.own a))->h.get? b=some u->h'.get? b=some u)
  (ho:∀b,H b=some (.own a)->H' b=some (.own a)) (ht:∀b xs,H b=some (.tup xs)->H' b=some (.tup xs)):ObjOk P w H' h' a o:=by
 induction o with
 | lst xs=>obtain⟨z,its,n,r,e⟩:=x;exact⟨z,its,n,r,k _ _ (.inl rfl) e⟩
 | tup xs=>obtain⟨z,its,r,ob,e,c⟩:=x;exact⟨z,its,r,ob,k _ _ (.inl rfl) e,c⟩
 | dK kvs=>obtain⟨z,y,vs,r,ob,es,ep,e,c⟩:=x;exact⟨z,y,vs,r,ob,es,ep,k _ _ (.inl rfl) e,c⟩
 | dT kvs=>
  obtain⟨z,y,xs,r,ob,es,ep,e,c⟩:=x
  exact⟨z,y,xs,Paired.mapP r fun p q z=>⟨z.1,ht _ _ z.2.1,z.2.2⟩,ob,es,ep,k _ _ (.inl rfl) e,c⟩
 | set S n=>obtain⟨ob,es,ep,t,e,c⟩:=x;exact⟨ob,es,ep,t,k _ _ (.inl rfl) e,c⟩
 | ins C dx fs=>
  obtain⟨d,z,ne,e,mA,⟨od,es,ep,e2,c⟩,r⟩:=x
  exact⟨ho _ d,z,ne,k _ _ (.inl rfl) e,mA,⟨od,es,ep,k _ _ (.inr d) e2,c⟩,r⟩
 | own y=>obtain⟨ob,e⟩:=x;exact⟨ob,k _ _ (.inl rfl) e⟩
 | xd fs=>obtain⟨mA,⟨od,es,ep,e,c⟩,r⟩:=x;exact⟨mA,⟨od,es,ep,k _ _ (.inl rfl) e,c⟩,r⟩
 | rng lo hi=>obtain⟨t,u,v,e⟩:=x;exact⟨t,u,v,k _ _ (.inl rfl) e⟩
 | frz ob u ih=>obtain⟨e,q⟩:=x;exact⟨k _ _ (.inl rfl) e,ih q⟩
 | tbl ps=>
  have e:h.get? a=some { cls:=.none,data:=.fields ps }:=x
  show h'.get? a=some { cls:=.none,data:=.fields ps }
  exact k a _ (.inl rfl) e
 | met f y=>
  have e:h.get? a=some (HR (.ref f) (.ref y)):=x
  show h'.get? a=some (HR (.ref f) (.ref y))
  exact k a _ (.inl rfl) e
 | ext φ=>obtain⟨p,⟨o,e⟩,st⟩:=x;exact⟨st _ _ p fun o q=>k _ _ (.inl rfl) q,⟨o,k _ _ (.inl rfl) e⟩,st⟩
theorem HOk.lt(x:HOk P w H h)(e:H a=some o):a < h.objs.size:=(x a o e).lt
theorem HOk.fresh(x:HOk P w H h)(e:h.objs.size<=a):H a=none:=by
 cases q:H a with
 | none=>rfl
 | some u=>exact absurd (cj (x.lt q) e) (g0 _)
theorem HOk.kept(x:HOk P w H h)(k:∀b u,h.get? b=some u->h'.get? b=some u):HOk P w H h':=fun a o e=>
 (x a o e).stay (fun b u _ q=>k b u q) (fun _ q=>q) fun _ _ q=>q
theorem HOk.laid(x:HOk P w H h)(k:∀b u,h.get? b=some u->h'.get? b=some u)(hp:h.objs.size<=a)(new:ObjOk P w (upd H a o) h' a o):HOk P w (upd H a o) h':=fun b u e=>by
 have hn:=x.fresh hp;by_cases hb:b=a
 .subst hb;rw[jb]at e;cases e;exact new
 .rw[jp hb]at e
  exact (x b u e).stay (fun c v _ q=>k c v q) (fun c q=>by rw[jp (jh q hn)];exact q) fun c xs q=>by rw[jp (jh q hn)];exact q
end
def Rd(H:Hp)(a:aa)(u:HO):Prop:=H a=some u\/∃o,H a=some (.frz o u)
theorem Rd.ok{u:HO}(r:Rd H a u)(x:HOk P w H h):ObjOk P w H h a u:=by
 rcases r with r | ⟨o,r⟩
 .exact x a u r
 .obtain⟨_,q⟩:=x a _ r
  exact q
def Mut:Option HO->Prop
 | some (.lst _)=>True
 | some (.dK _)=>True
 | some (.dT _)=>True
 | some (.set _ _)=>True
 | some (.ins _ _ _)=>True
 | some (.ext _)=>True
 | _=>False
section
variable {x e:aa}{o':HO}
theorem HOk.write(ok:HOk P w H h)(mu:Mut (H x))(he:e=x\/H e=some (.own x))(k:∀b u,b≠e->h.get? b=some u->h'.get? b=some u)(nr:∃u,h'.get? e=some u)
  (new:ObjOk P w (upd H x o') h' x o'):HOk P w (upd H x o') h':=fun b u q=>by
 have ED:∀c y,H c=some (.own y)->c≠x:=fun c y r z=>by subst z;rw[r]at mu;exact mu
 have LZ:∀c xs,H c=some (.tup xs)->c≠x:=fun c xs r z=>by subst z;rw[r]at mu;exact mu
 by_cases hb:b=x
 .subst hb;rw[jb]at q;cases q;exact new
 .rw[jp hb]at q
  by_cases fk:b=e
  .have q':H b=some (.own x):=by
    rcases he with z | z
    .exact absurd (fk.trans z) hb
    .rw[fk];exact z
   rw[q]at q';cases q';obtain⟨v,hv⟩:=nr;exact⟨v,by rw[fk];exact hv⟩
  .refine (ok b u q).stay (fun c v hc r=>k c v ?_ r) (fun c r=>by rw[jp (ED c b r)];exact r) fun c xs r=>by rw[jp (LZ c xs r)];exact r
   rcases hc with rfl | hc
   .exact fk
   .rintro rfl
    rcases he with z | z
    .exact ED c b hc z
    .rw[hc]at z;cases z;exact hb rfl
end
structure Un(fs ex:List aa)(H H':Hp)(h h':au):Prop where
 keep:∀b o,h.get? b=some o->H b=none->b ∉ fs->b ∉ ex->h'.get? b=some o
 slot:∀b o,h.get? b=some o->H b=none->b∈fs->b ∉ ex->∃sl,h'.get? b=some { o with slots:=sl }
 free:∀b o,h.get? b=some o->H b=none->b ∉ ex->H' b=none
 there:∀b o,h.get? b=some o->b ∉ ex->∃o',h'.get? b=some o'
 tups:∀b xs,H b=some (.tup xs)->H' b=some (.tup xs)
 frzs:∀b o u,H b=some (.frz o u)->H' b=some (.frz o u)
 tbls:∀b ps,H b=some (.tbl ps)->∃more,H' b=some (.tbl (ps++more))
 stay:∀b o xs,H b=some (.tup xs)->h.get? b=some o->b ∉ fs->b ∉ ex->h'.get? b=some o
section
variable {fs io ex ex':List aa}{H1 H2:Hp}{h1 h2:au}{x e:aa}
theorem Un.any(u:Un fs ex H H1 h h1){ob:Obj}(q:h.get? b=some ob)(n:H b=none)(hx:b ∉ ex):∃sl,h1.get? b=some { ob with slots:=sl }:=by
 by_cases hb:b∈fs
 .exact u.slot b ob q n hb hx
 .exact⟨ob.slots,u.keep b ob q n hb hx⟩
theorem Un.kept(k:∀b u,h.get? b=some u->h'.get? b=some u):Un fs ex H H h h':=
 ⟨fun b ob q _ _ _=>k b ob q,fun b ob q _ _ _=>⟨ob.slots,k b ob q⟩,fun _ _ _ n _=>n,fun b ob q _=>⟨ob,k b ob q⟩,fun _ _ q=>q,fun _ _ _ q=>q,fun _ ps q=>⟨#[],by rw[q];simp⟩,fun b ob _ _ q _ _=>k b ob q⟩
theorem Un.refl:Un fs ex H H h h:=Un.kept fun _ _ q=>q
theorem Un.laid(k:∀b u,h.get? b=some u->h'.get? b=some u)(hp:h.objs.size<=a)(hn:H a=none):Un fs ex H (upd H a o) h h' where
 keep:=fun b u q _ _ _=>k b u q
 slot:=fun b u q _ _ _=>⟨u.slots,k b u q⟩
 free:=fun b u q n _=>by rw[jp (aT (cj (aL q) hp))];exact n
 there:=fun b u q _=>⟨u,k b u q⟩
 tups:=fun b xs q=>by rw[jp (jh q hn)];exact q
 frzs:=fun b u xs q=>by rw[jp (jh q hn)];exact q
 tbls:=fun b ps q=>⟨#[],by rw[jp (jh q hn),q];simp⟩
 stay:=fun b u _ _ q _ _=>k b u q
theorem Un.write(mu:Mut (H x))(he:e=x\/H e=some (.own x))(k:∀b u,b≠e->h.get? b=some u->h'.get? b=some u)(nr:∃u,h'.get? e=some u):Un fs ex H (upd H x o) h h':=by
 have hx:∀b,H b=none->b≠x:=fun b n z=>by subst z;rw[n]at mu;exact mu
 have hb:∀b,H b=none->b≠e:=fun b n z=>by
  subst z;rcases he with r | r
  .exact hx b n r
  .rw[n]at r;cases r
 have hm:∀b u,H b=some u->¬Mut (some u)->b≠x:=fun b u q nm z=>by subst z;rw[q]at mu;exact nm mu
 refine⟨fun b u q n _ _=>k b u (hb b n) q,fun b u q n _ _=>⟨u.slots,k b u (hb b n) q⟩,fun b u q n _=>by rw[jp (hx b n)];exact n,fun b u q _=>?_,
  fun b xs q=>by rw[jp (hm b _ q fun z=>z)];exact q,fun b u xs q=>by rw[jp (hm b _ q fun z=>z)];exact q,fun b ps q=>⟨#[],by rw[jp (hm b _ q fun z=>z),q];simp⟩,fun b u xs q e' _ _=>k b u (fun z=>by
   subst z;rcases he with r | r
   .exact hm b _ q (fun z=>z) r
   .rw[q]at r;cases r) e'⟩
 by_cases fk:b=e
 .subst fk;exact nr
 .exact⟨u,k b u fk q⟩
end
def trk(h:au)(H:Hp):List aa:=(bL h.objs.size).filter fun a=>(H a).isSome
def jae(h:au)(H:Hp):au:=PySem.W.hideAll h (trk h H)
theorem jdG(h:au)(H:Hp):(jae h H).objs.size=h.objs.size:=PySem.W.hideAll_size _ _
theorem jfd{o:Obj}(e:h.get? b=some o)(n:H b=none):(jae h H).get? b=some o:=
 PySem.W.hideAll_get _ e fun hm=>by
  have q:(H b).isSome=true:=(Li.mp hm).2;rw[n]at q;simp at q
theorem jgo{o:Obj}(e:(jae h H).get? b=some o):h.get? b=some o/\H b=none:=by
 have e':h.get? b=some o:=PySem.W.of_hideAll (trk h H) e;refine⟨e',?_⟩
 cases q:H b with
 | none=>rfl
 | some x=>
  have hm:b∈trk h H:=Li.mpr ⟨sw.mpr (aL e'),by simp[q]⟩;have z:(jae h H).get? b=none:=PySem.W.hideAll_none (trk h H) hm;rw[z]at e;cases e
def jgG(g h:au)(L:aa):List (aa×Obj):=(bL h.objs.size).filterMap fun a=>if a=L\/(g.get? a).isSome=true then none else (h.get? a).map fun o=>(a,o)
def qV(g h:au)(L d:aa):List (aa×Obj):=(jgG g h L).filter fun p=>decide (p.1≠d)
structure Mod(K:av)(mg:Str->Option ad)(base:au):Prop where
 kin:K.In base
 glob:base.Ns aH mg
 blt:∃mb,base.Ns HK mb/\∀x:Str,x≠"__name__"->mb x=eL x
 nolimit:base.NoLimit
structure Cx where
 prog:az
 w:ax
 K:av
 mg:Str->Option ad
 base:au
 A:aM
 N:List Str
 s₀:af
 H₀:Hp
 env:Env
 outer:List Env
 stack:List Env
 ex:List aa
 fn:Str->Bool
 calm:Bool
 pn:List (aa×Obj)
 xe:ad->af->Prop
def frs(l:List Env):List aa:=l.filterMap (·.frame)
abbrev Cx.fs(X:Cx):List aa:=frs X.outer
def Vis(sc:bO)(x:Str):Prop:=sc.names.lookup x=some .local\/sc.names.lookup x=some .cell\/sc.names.lookup x=some .free
def Loc(sc:bO)(x:Str):Prop:=sc.names.lookup x=some .local\/sc.names.lookup x=some .cell
def ji6(env:Env)(h:au)(m:Str->Option ad)(x:Str)(u:ad):Prop:=
 (env.kindOf x=some .local/\m x=some u)\/((env.kindOf x=some .cell\/env.kindOf x=some .free)/\∃c,env.cells.lookup x=some c/\h.IsCell c (some u))
structure Cx.Ok(X:Cx):Prop where
 mod:Mod X.K X.mg X.base
 kind:X.env.scope.kind=.function
 glob:X.env.globals=aH
 blt:X.env.builtins=HK
 above:X.s₀.heap.objs.size<=X.env.locals
 inj:∀x y c,X.env.cells.lookup x=some c->X.env.cells.lookup y=some c->x=y
 has:∀x,(X.env.kindOf x=some .cell\/X.env.kindOf x=some .free)->∃c,X.env.cells.lookup x=some c
 cab:∀x c,X.fn x=true->X.env.cells.lookup x=some c->X.s₀.heap.objs.size<=c
 hd:X.calm=true->X.A.handled=none
 frames:X.A.frames=some X.stack
 stk:X.stack=X.outer\/(X.stack=X.env :: X.outer/\X.env.frame=some X.env.locals)
 exf:∀b∈X.ex,b≠X.env.locals/\∀x c,X.env.cells.lookup x=some c->c≠b
 bs:∀b o,X.base.get? b=some o->X.s₀.heap.get? b=some o/\X.H₀ b=none
 bsz:X.base.objs.size<=X.s₀.heap.objs.size
 noex:∀b o,X.base.get? b=some o->b ∉ X.ex
 exfs:∀b∈X.ex,b ∉ X.fs
 funs:X.s₀.heap.FunFrames X.base X.outer
 frf:∀b∈X.fs,X.H₀ b=none
structure Inv(X:Cx)(ac:List (aa×Obj))(σ:List (Option V))(H:Hp)(s:af):Prop where
 ok:X.Ok
 os:s.os=X.s₀.os
 bare:iK s.gens
 base:Un X.fs X.ex X.H₀ H X.s₀.heap s.heap
 loc:∃m,s.heap.Ns X.env.locals m/\∀(i:Nat) (x:Str) (v:V),X.N[i]?=some x->σ[i]?=some (some v)->Vis X.env.scope x->∃u,RelV v u/\ji6 X.env s.heap m x u
 cell:∀x c,X.env.cells.lookup x=some c->∃v,s.heap.IsCell c v
 free:H X.env.locals=none
 freeC:∀x c,X.env.cells.lookup x=some c->H c=none
 pin:∀p∈X.pn++ac,s.heap.get? p.1=some p.2/\H p.1=none/\p.1≠X.env.locals/\p.1 ∉ X.fs/\∀v,p.2.data≠.cell v
 hok:HOk X.prog X.w H s.heap
 len:σ.length=X.N.length
variable {X:Cx}{ac:List (aa×Obj)}{s s':af}{t' i:Nat}{ch:List aa}{x:Str}{v:V}{u:ad}{Q:Unit->af->Prop}
section
variable {σ:List (Option V)}
theorem Cx.Ok.nofr(ok:X.Ok){o:Obj}(e:X.base.get? b=some o):b ∉ X.fs:=fun hb=>by
 have:=(ok.funs.mem hb).1;rw[e]at this;cases this
theorem Inv.bs(I:Inv X ac σ H s):∀b o,X.base.get? b=some o->s.heap.get? b=some o/\H b=none:=fun b o e=>
 ⟨I.base.keep b o (I.ok.bs b o e).1 (I.ok.bs b o e).2 (I.ok.nofr e) (I.ok.noex b o e),I.base.free b o (I.ok.bs b o e).1 (I.ok.bs b o e).2 (I.ok.noex b o e)⟩
theorem Inv.bk(I:Inv X ac σ H s):∀b o,X.base.get? b=some o->s.heap.get? b=some o:=fun b o e=>(I.bs b o e).1
theorem Inv.mod(I:Inv X ac σ H s):Mod X.K X.mg X.base:=I.ok.mod
theorem Inv.kIn(I:Inv X ac σ H s):X.K.In s.heap:=I.ok.mod.kin.keeps I.bk
theorem Inv.lt(I:Inv X ac σ H s):X.env.locals < s.heap.objs.size:=let ⟨_,hn,_⟩:=I.loc;hn.lt
theorem Inv.sz(I:Inv X ac σ H s):X.s₀.heap.objs.size<=s.heap.objs.size:=aU I.ok.above (cP I.lt)
theorem Inv.nofs(I:Inv X ac σ H s)(h:s.heap.objs.size<=a):a ∉ X.fs:=fun hb=>by
 obtain⟨_,o,ho,_⟩:=I.ok.funs.mem hb;exact absurd (cj (aL ho) (aU I.sz h)) (g0 _)
theorem Inv.cne(I:Inv X ac σ H s):∀x c,X.env.cells.lookup x=some c->c≠X.env.locals:=fun x c e z=>by
 obtain⟨v,o,ho,hd⟩:=I.cell x c e;obtain⟨m,⟨o',es,ep,lU,pX,_⟩,_⟩:=I.loc;rw[z,lU]at ho;cases ho;rw[pX]at hd;cases hd
theorem Inv.funs(I:Inv X ac σ H s):s.heap.FunFrames X.base X.outer:=by
 have all:∀(l:List Env),(∀b∈frs l,b∈X.fs)->X.s₀.heap.FunFrames X.base l->s.heap.FunFrames X.base l:=by
  intro l;induction l with
  | nil=>intro _ _;trivial
  | cons env r ih=>
   intro hs hl;obtain⟨hk,⟨L,o,hf,hn,ho,hd⟩,hr⟩:=hl;have hL:L∈X.fs:=hs L (by unfold frs;rw[cX,hf];exact bt);obtain⟨sl,e⟩:=I.base.slot L o ho (I.ok.frf L hL) hL fun z=>I.ok.exfs L z hL
   exact⟨hk,⟨L,_,hf,hn,e,hd⟩,ih (fun b hb=>hs b (by unfold frs;rw[cX,hf];exact bu _ hb)) hr⟩
 exact all X.outer (fun _ hb=>hb) I.ok.funs
theorem Inv.stack(I:Inv X ac σ H s):s.heap.FunFrames X.base X.stack:=by
 rcases I.ok.stk with e | ⟨e,hf⟩
 .rw[e];exact I.funs
 .rw[e]
  obtain⟨m,hn,_⟩:=I.loc;refine .cons (by rw[I.ok.kind];decide) hf hn ?_ I.funs;exact au.get?_none_of_le (aU I.ok.bsz I.ok.above)
theorem Inv.stkSub(I:Inv X ac σ H s):∀b∈frs X.stack,b∈X.env.locals :: X.fs:=fun b hb=>by
 rcases I.ok.stk with e | ⟨e,hf⟩
 .rw[e]at hb;exact bu _ hb
 .rw[e]at hb
  unfold frs at hb;rw[cX,hf]at hb;exact hb
theorem Inv.stkFree(I:Inv X ac σ H s):∀b∈frs X.stack,H b=none:=fun b hb=>by
 rcases aN.mp (I.stkSub b hb) with e | hb
 .rw[e];exact I.free
 .obtain⟨_,o,ho,_⟩:=I.ok.funs.mem hb
  exact I.base.free b o ho (I.ok.frf b hb) fun z=>I.ok.exfs b z hb
theorem Inv.step{g':Array Dy}{d':Drawn}(I:Inv X ac σ H s)
  (gN:∀b∈ch,(b∈X.ex\/X.s₀.heap.objs.size<=b)/\b≠X.env.locals/\(∀x c,X.env.cells.lookup x=some c->c≠b)/\∀p∈X.pn++ac,p.1≠b)
  (keep:∀b o,b≠X.env.locals->b ∉ X.fs->b ∉ ch->s.heap.get? b=some o->(H b=none\/∃xs,H b=some (.tup xs))->h'.get? b=some o)
  (slot:∀b o,b≠X.env.locals->b∈X.fs->b ∉ ch->s.heap.get? b=some o->H b=none->∃sl,h'.get? b=some { o with slots:=sl }) (free:∀b o,b ∉ ch->s.heap.get? b=some o->H b=none->H' b=none)
  (there:∀b o,b ∉ ch->s.heap.get? b=some o->∃o',h'.get? b=some o')
  (tups:∀b xs,H b=some (.tup xs)->H' b=some (.tup xs)) (frzs:∀b o u,H b=some (.frz o u)->H' b=some (.frz o u)) (tbls:∀b ps,H b=some (.tbl ps)->∃more,H' b=some (.tbl (ps++more)))
  (ns:∀m,s.heap.Ns X.env.locals m->h'.Ns X.env.locals m) (hok:HOk X.prog X.w H' h') (hg:iK g') :
  Inv X ac σ H' { s with heap:=h',gens:=g',drawn:=d',toks:=t' }:=by
 have xm:∀b o,X.s₀.heap.get? b=some o->b≠X.env.locals:=fun b o e=>aT (cj (aL e) I.ok.above)
 have pe:∀b o,X.s₀.heap.get? b=some o->b ∉ X.ex->b ∉ ch:=fun b o e hx hb=>by
  rcases (gN b hb).1 with z | z
  .exact hx z
  .exact absurd (cj (aL e) z) (g0 _)
 have Gy:∀x c,X.env.cells.lookup x=some c->∀v,s.heap.IsCell c v->h'.IsCell c v:=fun x c e v ⟨o,ho,hd⟩=>by
  have pf:c ∉ ch:=fun z=>(gN c z).2.2.1 x c e rfl
  by_cases hc:c∈X.fs
  .obtain⟨sl,q⟩:=slot c o (I.cne x c e) hc pf ho (I.freeC x c e)
   exact⟨_,q,hd⟩
  .exact⟨o,keep c o (I.cne x c e) hc pf ho (.inl (I.freeC x c e)),hd⟩
 have LF:=I.base.tups
 refine⟨I.ok,I.os,hg,⟨fun b o e n hb hx=>?_,fun b o e n hb hx=>?_,fun b o e n hx=>?_,fun b o e hx=>?_,fun b xs e=>tups b xs (I.base.tups b xs e),fun b o xs e=>frzs b o xs (I.base.frzs b o xs e),fun b ps e=>?_,fun b o xs q e hb hx=>keep b o (xm b o e) hb (pe b o e hx) (I.base.stay b o xs q e hb hx) (.inr ⟨xs,LF b xs q⟩)⟩,?_,fun x c e=>?_,?_,fun x c e=>?_,fun p hp=>?_,hok,I.len⟩
 .exact keep b o (xm b o e) hb (pe b o e hx) (I.base.keep b o e n hb hx) (.inl (I.base.free b o e n hx))
 .obtain⟨sl,e1⟩:=I.base.slot b o e n hb hx
  obtain⟨fS,e2⟩:=slot b _ (xm b o e) hb (pe b o e hx) e1 (I.base.free b o e n hx)
  exact⟨fS,e2⟩
 .obtain⟨o',e1⟩:=I.base.there b o e hx
  exact free b o' (pe b o e hx) e1 (I.base.free b o e n hx)
 .obtain⟨o',e1⟩:=I.base.there b o e hx
  exact there b o' (pe b o e hx) e1
 .obtain⟨m1,e1⟩:=I.base.tbls b ps e
  obtain⟨m2,e2⟩:=tbls b _ e1
  exact⟨m1++m2,by rw[e2,Array.append_assoc]⟩
 .obtain⟨m,hn,hl⟩:=I.loc
  refine⟨m,ns m hn,fun i x v e1 e2 e3=>?_⟩
  obtain⟨u,r,l⟩:=hl i x v e1 e2 e3
  refine⟨u,r,?_⟩
  rcases l with l | ⟨k,c,e,z⟩
  .exact .inl l
  .exact .inr ⟨k,c,e,Gy x c e _ z⟩
 .obtain⟨v,z⟩:=I.cell x c e
  exact⟨v,Gy x c e v z⟩
 .obtain⟨m,⟨o,_,_,ho,_⟩,_⟩:=I.loc
  exact free _ o (fun z=>(gN _ z).2.1 rfl) ho I.free
 .obtain⟨v,o,ho,hd⟩:=I.cell x c e
  exact free c o (fun z=>(gN c z).2.2.1 x c e rfl) ho (I.freeC x c e)
 .obtain⟨e,n,ne,nf,d⟩:=I.pin p hp
  have pf:p.1 ∉ ch:=fun z=>(gN p.1 z).2.2.2 p hp rfl
  exact⟨keep p.1 p.2 ne nf pf e (.inl n),free p.1 p.2 pf e n,ne,nf,d⟩
theorem Inv.un(I:Inv X ac σ H s)(u:Un X.fs [] H H' s.heap h')(hok:HOk X.prog X.w H' h'):Inv X ac σ H' { s with heap:=h',toks:=t' }:=by
 obtain⟨m,⟨o,es,ep,ho,r⟩,_⟩:=id I.loc;obtain⟨sl,hL⟩:=u.any ho I.free (by simp);exact I.step (g':=s.gens) (d':=s.drawn) (ch:=[]) (fun _ z=>nomatch z) (fun b o _ hb _ e n=>n.elim (fun n=>u.keep b o e n hb (by simp)) fun⟨xs,n⟩=>u.stay b o xs n e hb (by simp)) (fun b o _ hb _ e n=>u.slot b o e n hb (by simp)) (fun b o _ e n=>u.free b o e n (by simp)) (fun b o _ e=>u.there b o e (by simp)) u.tups u.frzs u.tbls (fun m' hm=>by
  obtain⟨o',bD,eD,lU,r'⟩:=hm;rw[ho]at lU;cases lU;exact⟨_,bD,eD,hL,r'⟩) hok I.bare
theorem Inv.call{g':Array Dy}{d':Drawn}(I:Inv X ac σ H s)(u:Un (frs X.stack) ch H H' s.heap h')(hok:HOk X.prog X.w H' h')(hg:iK g')
  (gN:∀b∈ch,(b∈X.ex\/X.s₀.heap.objs.size<=b)/\b≠X.env.locals/\(∀x c,X.env.cells.lookup x=some c->c≠b)/\∀p∈X.pn++ac,p.1≠b) :
  Inv X ac σ H' { s with heap:=h',gens:=g',drawn:=d',toks:=t' }:=by
 obtain⟨m,⟨o,es,ep,ho,r⟩,_⟩:=id I.loc
 obtain⟨sl,hL⟩:=u.any ho I.free fun z=>(gN _ z).2.1 rfl
 exact I.step (ch:=ch) gN (fun b o hL hb hc e n=>n.elim (fun n=>u.keep b o e n (fun z=>(aN.mp (I.stkSub b z)).elim hL hb) hc) fun⟨xs,n⟩=>u.stay b o xs n e (fun z=>(aN.mp (I.stkSub b z)).elim hL hb) hc) (fun b o _ _ hc e n=>u.any e n hc) (fun b o hc e n=>u.free b o e n hc) (fun b o hc e=>u.there b o e hc) u.tups u.frzs u.tbls (fun m' hm=>by
  obtain⟨o',bD,eD,lU,r'⟩:=hm;rw[ho]at lU;cases lU;exact⟨_,bD,eD,hL,r'⟩) hok hg
theorem Inv.turned{it:aa}(I:Inv X ac σ H s)(k:∀b o,b≠it->s.heap.get? b=some o->h'.get? b=some o)(hn:H it=none)(hL:it≠X.env.locals)
  (h1:it∈X.ex\/X.s₀.heap.objs.size<=it) (h2:∀x c,X.env.cells.lookup x=some c->c≠it) (h3:∀p∈X.pn++ac,p.1≠it):Inv X ac σ H { s with heap:=h',toks:=t' }:=by
 have EG:∀b u,H b=some u->b≠it:=fun b u e z=>by rw[z,hn]at e;cases e
 refine I.step (g':=s.gens) (d':=s.drawn) (ch:=[it]) (fun b hb=>?_) (fun b o _ _ hc e _=>k b o (fun z=>hc (by simp[z])) e) (fun b o _ _ hc e _=>⟨o.slots,k b o (fun z=>hc (by simp[z])) e⟩) (fun _ _ _ _ n=>n)
  (fun b o hc e=>⟨o,k b o (fun z=>hc (by simp[z])) e⟩) (fun _ _ e=>e) (fun _ _ _ e=>e) (fun b ps e=>⟨#[],by rw[e];simp⟩) (fun m hm=>?_) (fun b u e=>?_) I.bare
 .have e:b=it:=by simpa using hb
  subst e
  exact⟨h1,hL,h2,h3⟩
 .obtain⟨o,es,ep,ho,r⟩:=hm
  exact⟨o,es,ep,k _ o (br hL) ho,r⟩
 .refine (I.hok b u e).stay (fun c v hc q=>k c v ?_ q) (fun _ q=>q) fun _ _ q=>q
  rcases hc with z | z
  .rw[z];exact EG b u e
  .exact EG c _ z
theorem Inv.tok(I:Inv X ac σ H s)(t:Nat):Inv X ac σ H { s with toks:=t }:=I.un (h':=s.heap) (t':=t) Un.refl I.hok
theorem Inv.kept(I:Inv X ac σ H s)(k:∀b u,s.heap.get? b=some u->h'.get? b=some u):Inv X ac σ H { s with heap:=h',toks:=t' }:=I.un (Un.kept k) (I.hok.kept k)
theorem Inv.laid(I:Inv X ac σ H s)(k:∀b u,s.heap.get? b=some u->h'.get? b=some u)(hp:s.heap.objs.size<=a)(new:ObjOk X.prog X.w (upd H a o) h' a o):
  Inv X ac σ (upd H a o) { s with heap:=h',toks:=t' }:=I.un (Un.laid k hp (I.hok.fresh hp)) (I.hok.laid k hp new)
theorem Inv.write{x e:aa}(I:Inv X ac σ H s)(mu:Mut (H x))(he:e=x\/H e=some (.own x))(k:∀b u,b≠e->s.heap.get? b=some u->h'.get? b=some u)(nr:∃u,h'.get? e=some u)
  (new:ObjOk X.prog X.w (upd H x o) h' x o):Inv X ac σ (upd H x o) { s with heap:=h',toks:=t' }:=I.un (Un.write mu he k nr) (I.hok.write mu he k nr new)
theorem Inv.pins_of{Ew:List (aa×Obj)}(I:Inv X ac σ H s)(h:∀p∈Ew,s.heap.get? p.1=some p.2/\H p.1=none/\p.1≠X.env.locals/\p.1 ∉ X.fs/\∀v,p.2.data≠.cell v):Inv X Ew σ H s:=
 ⟨I.ok,I.os,I.bare,I.base,I.loc,I.cell,I.free,I.freeC,fun p hp=>(bB.mp hp).elim (fun z=>I.pin p (wc _ z)) (h p),I.hok,I.len⟩
theorem Yr{N:List Str}(hN:N.Nodup){j:Nat}(a:N[i]?=some x)(b:N[j]?=some x):i=j:=by
 obtain⟨h1,e1⟩:=aY.mp a;obtain⟨h2,e2⟩:=aY.mp b;exact (S3 hN).mp (e1.trans e2.symm)
theorem Kj{M:gY}{A:aM}{E:ad->af->Prop}(I:Inv X ac σ H s)(hN:X.N.Nodup)(hi:X.N[i]?=some x)(hx:Loc X.env.scope x)(r:RelV v u)
  (h:∀s',Inv X ac (σ.set i (some v)) H s'->(∃a,cr a s.heap s'.heap/\(a=X.env.locals\/X.env.cells.lookup x=some a))->Q () s') (hf:X.fn x=true\/X.env.scope.names.lookup x=some .local:=by first | exact .inl rfl | exact .inr rfl | assumption):ah M A (Hb X.env x u) Q E s:=by
 obtain⟨m,hn,hl⟩:=id I.loc
 have Ba:(X.env.scope.kind == .class || (X.env.scope.kind == .module && X.env.locals != X.env.globals))=false:=by rw[I.ok.kind];rfl
 have pQ:i < σ.length:=by rw[I.len];exact (aY.mp hi).1
 have cne:=I.cne
 have D_:∀{a:aa} {h':au},(∃o,s.heap.get? a=some o/\H a=none)->cr a s.heap h'->HOk X.prog X.w H h':=fun {a h'} ha hs b ob e=>by
  obtain⟨_,_,FR⟩:=ha;refine (I.hok b ob e).stay (fun c w' hc q=>(hs.2 c ?_).trans q) (fun _ q=>q) fun _ _ q=>q
  rintro rfl;rcases hc with rfl | hc
  .rw[FR]at e;cases e
  .rw[FR]at hc;cases hc
 rcases hx with hk | hk
 .refine wpAny_storeName_local hk hn (fun h' iV hs=>?_) Ba
  obtain⟨oL,_,_,gL,_⟩:=id hn
  refine h _ ⟨I.ok,I.os,I.bare,⟨fun b o e n hb hx=>?_,fun b o e n hb hx=>?_,I.base.free,fun b o e hx=>?_,I.base.tups,I.base.frzs,I.base.tbls,fun b o xs q e hb hx=>(hs.2 b (aT (cj (aL e) I.ok.above))).trans (I.base.stay b o xs q e hb hx)⟩,⟨_,iV,fun j y v' e1 e2 e3=>?_⟩,fun y c e=>?_,I.free,I.freeC,fun p hp=>?_,D_ ⟨oL,gL,I.free⟩ hs,by simpa using I.len⟩ ⟨_,hs,.inl rfl⟩
  .exact (hs.2 b (aT (cj (aL e) I.ok.above))).trans (I.base.keep b o e n hb hx)
  .obtain⟨sl,e1⟩:=I.base.slot b o e n hb hx
   exact⟨sl,(hs.2 b (aT (cj (aL e) I.ok.above))).trans e1⟩
  .obtain⟨o',e1⟩:=I.base.there b o e hx
   exact⟨o',(hs.2 b (aT (cj (aL e) I.ok.above))).trans e1⟩
  .by_cases hj:j=i
   .subst hj
    rw[hi]at e1;cases e1
    rw[DX pQ]at e2
    cases e2
    exact⟨u,r,.inl ⟨hk,by simp⟩⟩
   .rw[DY (br hj)]at e2
    obtain⟨u',r',q⟩:=hl j y v' e1 e2 e3
    refine⟨u',r',?_⟩
    rcases q with⟨k,e⟩ | ⟨k,c,e,z⟩
    .refine .inl ⟨k,?_⟩
     have:y≠x:=fun e=>hj (Yr hN e1 (e ▸ hi))
     simp[this,e]
    .exact .inr ⟨k,c,e,z.sameBut hs (cne y c e)⟩
  .obtain⟨w',z⟩:=I.cell y c e
   exact⟨w',z.sameBut hs (cne y c e)⟩
  .obtain⟨e,n,ne,nf,d⟩:=I.pin p hp
   exact⟨(hs.2 p.1 ne).trans e,n,ne,nf,d⟩
 .have tS:X.fn x=true:=by
   rcases hf with z | z
   .exact z
   .rw[z]at hk;cases hk
  obtain⟨c,hc⟩:=I.ok.has x (.inl hk);obtain⟨w',z⟩:=I.cell x c hc;refine wpAny_storeName_cell I.ok.kind hk hc z (fun h' bC hs=>?_);obtain⟨oc,Fu,Nr⟩:=id z;refine h { s with heap:=h' } ⟨I.ok,I.os,I.bare,⟨fun b o e n hb hx=>?_,fun b o e n hb hx=>?_,I.base.free,fun b o e hx=>?_,I.base.tups,I.base.frzs,I.base.tbls,fun b o xs q e hb hx=>(hs.2 b (aT (cj (aL e) (I.ok.cab x c tS hc)))).trans (I.base.stay b o xs q e hb hx)⟩,⟨m,hn.sameBut hs (br (cne x c hc)),fun j y v' e1 e2 e3=>?_⟩,fun y c' e=>?_,I.free,I.freeC,fun p hp=>?_,D_ ⟨oc,Fu,I.freeC x c hc⟩ hs,by simpa using I.len⟩ ⟨c,hs,.inr hc⟩
  .exact (hs.2 b (aT (cj (aL e) (I.ok.cab x c tS hc)))).trans (I.base.keep b o e n hb hx)
  .obtain⟨sl,e1⟩:=I.base.slot b o e n hb hx
   exact⟨sl,(hs.2 b (aT (cj (aL e) (I.ok.cab x c tS hc)))).trans e1⟩
  .obtain⟨o',e1⟩:=I.base.there b o e hx
   exact⟨o',(hs.2 b (aT (cj (aL e) (I.ok.cab x c tS hc)))).trans e1⟩
  .by_cases hj:j=i
   .subst hj
    rw[hi]at e1;cases e1;rw[DX pQ]at e2
    cases e2
    exact⟨u,r,.inr ⟨.inl hk,c,hc,bC⟩⟩
   .rw[DY (br hj)]at e2
    obtain⟨u',r',q⟩:=hl j y v' e1 e2 e3;refine⟨u',r',?_⟩;rcases q with q | ⟨k,c',e,z'⟩
    .exact .inl q
    .refine .inr ⟨k,c',e,z'.sameBut hs ?_⟩
     rintro rfl;exact hj (Yr hN e1 (I.ok.inj _ _ _ e hc ▸ hi))
  .by_cases Bb:c'=c
   .subst Bb;exact⟨_,bC⟩
   .obtain⟨w2,z2⟩:=I.cell y c' e
    exact⟨w2,z2.sameBut hs Bb⟩
  .obtain⟨e,n,ne,nf,d⟩:=I.pin p hp
   refine⟨(hs.2 p.1 ?_).trans e,n,ne,nf,d⟩;intro q;rw[q,Fu]at e;have q':oc=p.2:=bZ e;exact d w' (by rw[<- q'];exact Nr)
theorem qr{M:gY}{A:aM}{E:ad->af->Prop}(I:Inv X ac σ H s)(hN:X.N.Nodup)(hi:X.N[i]?=some x)(hx:Loc X.env.scope x)(r:RelV v u)
  (h:∀s',Inv X ac (σ.set i (some v)) H s'->Q () s') (hf:X.fn x=true\/X.env.scope.names.lookup x=some .local:=by first | exact .inl rfl | exact .inr rfl | assumption):ah M A (Hb X.env x u) Q E s:=
 Kj I hN hi hx r (fun s' I' _=>h s' I') hf
theorem Inv.call'(I:Inv X ac σ H s)(ho:s'.os=s.os)(u:Un (frs X.stack) ch H H' s.heap s'.heap)(hok:HOk X.prog X.w H' s'.heap)(hg:iK s'.gens)
  (gN:∀b∈ch,(b∈X.ex\/X.s₀.heap.objs.size<=b)/\b≠X.env.locals/\(∀x c,X.env.cells.lookup x=some c->c≠b)/\∀p∈X.pn++ac,p.1≠b):Inv X ac σ H' s':=by
 obtain⟨h',g',d',t',o'⟩:=s'
 have e:o'=s.os:=ho
 subst e
 exact I.call (g':=g') (t':=t') (d':=d') u hok hg gN
end
abbrev XK:=ad->Option aa->Hp->Prop
abbrev St:=List (Option V)
abbrev VK:=V->Hp->Prop
abbrev TE:=St->Hp->VK->Prop
abbrev TT:=St->Hp->(Bool->Hp->Prop)->Prop
abbrev TA:=St->Hp->(List V->Hp->Prop)->Prop
structure Ends where
 nx:St->Hp->Prop
 rt:VK
 bk:St->Hp->Prop:=fun _ _=>False
 ct:St->Hp->Prop:=fun _ _=>False
abbrev TS:=Ends->St->Hp->Prop
def EP(X:Cx)(ac:List (aa×Obj))(σ:St)(Q:VK)(u:ad)(s':af):Prop:=∃v H',Inv X ac σ H' s'/\RelV v u/\Q v H'
def TP(X:Cx)(ac:List (aa×Obj))(σ:St)(Q:Bool->Hp->Prop)(b:Bool)(s':af):Prop:=∃H',Inv X ac σ H' s'/\Q b H'
def AP(X:Cx)(ac:List (aa×Obj))(σ:St)(Q:List V->Hp->Prop)(us:List ad)(s':af):Prop:=∃vs H',Inv X ac σ H' s'/\Vals vs us/\Q vs H'
def SP(X:Cx)(ac:List (aa×Obj))(D:Ends)(f:Flow)(s':af):Prop:=
 match f with
 | .next=>∃σ' H',Inv X ac σ' H' s'/\D.nx σ' H'
 | .brk=>∃σ' H',Inv X ac σ' H' s'/\D.bk σ' H'
 | .cont=>∃σ' H',Inv X ac σ' H' s'/\D.ct σ' H'
 | .ret u=>∃v σ' H',Inv X ac σ' H' s'/\RelV v u/\D.rt v H'
def PE(X:Cx)(e:aj)(t:TE):Prop:=
 ∀(ac:List (aa×Obj)) (s:af) (σ:St) (H:Hp) (Q:VK),Inv X ac σ H s->t σ H Q->ah (am X.prog X.w) X.A (eval e X.env) (EP X ac σ Q) X.xe s
def PT(X:Cx)(e:aj)(t:TT):Prop:=
 ∀(ac:List (aa×Obj)) (s:af) (σ:St) (H:Hp) (Q:Bool->Hp->Prop),Inv X ac σ H s->t σ H Q->ah (am X.prog X.w) X.A (isTrue e X.env (eval e X.env)) (TP X ac σ Q) X.xe s
def PW(X:Cx)(e:aj)(t:TT):Prop:=
 ∀(lF:Sem ad) (ac:List (aa×Obj)) (s:af) (σ:St) (H:Hp) (Q:Bool->Hp->Prop),Inv X ac σ H s->t σ H Q->ah (am X.prog X.w) X.A (isTrue e X.env lF) (TP X ac σ Q) X.xe s
variable {e:aj}
theorem PW.pt{t:TT}(h:PW X e t):PT X e t:=h _
def PA(X:Cx)(es:List aj)(t:TA):Prop:=
 ∀(pos:Pos) (ac:List (aa×Obj)) (s:af) (σ:St) (H:Hp) (Q:List V->Hp->Prop),Inv X ac σ H s->t σ H Q->ah (am X.prog X.w) X.A (spliced (fM pos (bT es X.env))) (AP X ac σ Q) X.xe s
def PS(X:Cx)(st:aA)(t:TS):Prop:=
 ∀(ac:List (aa×Obj)) (s:af) (σ:St) (H:Hp) (D:Ends),Inv X ac σ H s->t D σ H->ah (am X.prog X.w) X.A (exec st X.env) (SP X ac D) X.xe s
def PSs(X:Cx)(st:List aA)(t:TS):Prop:=
 ∀(ac:List (aa×Obj)) (s:af) (σ:St) (H:Hp) (D:Ends),Inv X ac σ H s->t D σ H->ah (am X.prog X.w) X.A (execs st X.env) (SP X ac D) X.xe s
variable {M:gY}{A:aM}{E:ad->af->Prop}
theorem thn{α:Type}{t:Sem α}{Q Q':α->af->Prop}(h:ah M A t Q E s)(hQ:∀a s,Q a s->Q' a s):ah M A t Q' E s:=bi h hQ fun _ _ x=>x
variable {pos:Pos}{ta tb:TE}
section
def jcY(i:Nat):TE:=fun σ H Q=>∃v,σ[i]?=some (some v)/\Q v H
def tC(v:V):TE:=fun _ H Q=>Q v H
theorem jew(hN:X.N[i]?=some x)(hv:Vis X.env.scope x)(hd:(x == ("__debug__" : Str))=false:=by decide)(cR:(x == ("__classdict__" : Str))=false:=by decide):PE X (.Name x pos) (jcY i):=by
 intro ac s σ H Q I h;obtain⟨v,e,h⟩:=h;obtain⟨m,hn,hl⟩:=I.loc;obtain⟨u,r,l⟩:=hl i x v hN e hv;have fin:EP X ac σ Q u s:=⟨v,H,I,r,h⟩
 rcases l with⟨hk,hm⟩ | ⟨hk,c,hc,tX⟩
 .exact GZ (PQ I.ok.kind hk hn hm fin) hd
 .rcases hk with hk | hk
  .exact GZ (PR I.ok.kind hk hc tX fin) hd
  .exact GZ (wpAny_loadName_free I.ok.kind hk hc tX fin cR) hd
theorem jeA{i j pos}:PE X (.Constant (.int i) j pos) (tC (.int i)):=fun _ _ _ H _ I h=>wpAny_Constant_int ⟨.int i,H,I.tok _,⟨_,rfl⟩,h⟩
theorem jey{x j pos}:PE X (.Constant (.str x) j pos) (tC (.str x)):=fun _ _ _ H _ I h=>Calls.Constant_str ⟨.str x,H,I.tok _,⟨_,rfl⟩,h⟩
def Gl(X:Cx)(x:Str):Prop:=X.env.kindOf x=some .globalImplicit
theorem zS{E:ad->af->Prop}{σ:St}{pos:Pos}{Q:ad->af->Prop}(I:Inv X ac σ H s)(hg:Gl X x)(hm:X.mg x=some u)(h:Q u s)
  (hd:(x == ("__debug__" : Str))=false:=by decide):ah (am X.prog X.w) X.A (eval (.Name x pos) X.env) Q E s:=
 RW I.ok.kind hg (Calls.loadGlobal_global (by rw[I.ok.glob];exact I.mod.glob.keeps I.bk) hm h) hd
theorem Yx{E:ad->af->Prop}{σ:St}{pos:Pos}{Q:ad->af->Prop}(I:Inv X ac σ H s)(hg:Gl X x)(hm:X.mg x=none)(hv:eL x=some u)(h:Q u s)
  (hn:x≠"__name__":=by decide) (hd:(x == ("__debug__" : Str))=false:=by decide):ah (am X.prog X.w) X.A (eval (.Name x pos) X.env) Q E s:=by
 obtain⟨mb,h1,h2⟩:=I.mod.blt
 exact RW I.ok.kind hg (Calls.loadGlobal_builtin (by rw[I.ok.glob];exact I.mod.glob.keeps I.bk) hm (by rw[I.ok.blt];exact h1.keeps I.bk) ((h2 x hn).trans hv) h) hd
variable {a b:aj}
def PC(X:Cx)(op:CmpOp)(a b:aj)(t:TE):Prop:=
 ∀(ac:List (aa×Obj)) (s:af) (σ:St) (H:Hp) (Q:VK),Inv X ac σ H s->t σ H Q->
  ah (am X.prog X.w) X.A (eval a X.env) (fun v s₁=>ah (am X.prog X.w) X.A (eval b X.env) (fun u s₂=>ah (am X.prog X.w) X.A (dZ op v u) (EP X ac σ Q) X.xe s₂) X.xe s₁) X.xe s
def tB(t:TE):TT:=fun σ H Q=>t σ H fun x H1=>∃c,x=.bl c/\Q c H1
variable {tA mU:TT}{qV:List aj}
def jiI(t u:TT):TT:=fun σ H Q=>t σ H fun c H1=>if c=true then u σ H1 Q else Q false H1
def tOr(t u:TT):TT:=fun σ H Q=>t σ H fun c H1=>if c=true then Q true H1 else u σ H1 Q
def jiA(t:TT):TT:=fun σ H Q=>t σ H fun c H1=>Q (!c) H1
def jh0(ta tb:TE):TE:=fun σ H Q=>ta σ H fun x H1=>∃c,x=.bl c/\if c=true then tb σ H1 Q else Q (.bl false) H1
def jhT(ta:TE):TE:=fun σ H Q=>ta σ H fun x H1=>∃c,x=.bl c/\Q (.bl (!c)) H1
end
def SqL(K:av)(H:Hp)(a:aa)(xs:List V):Prop:=
 Rd H a (.lst xs)\/
  ∃(o:Obj) (its:Array ad) (n:Nat),K.lookup a=some o/\o.cls=.type "list"/\o.dict=none/\o.data=.seq its n/\its.size<=aF/\Vals xs its.toList
def SqT(K:av)(H:Hp)(a:aa)(xs:List V):Prop:=
 Rd H a (.tup xs)\/
  ∃(o:Obj) (its:Array ad) (n:Nat),K.lookup a=some o/\o.cls=.type "tuple"/\o.data=.seq its n/\its.size<=aF/\Vals xs its.toList
def ji3:ad->Option V
 | .none=>some .non
 | .bool b=>some (.bl b)
 | .int i _=>some (.int i)
 | .str x _=>some (.str x)
 | .bytes b _=>some (.byt b)
 | .float b _=>some (.flt b)
 | .ref a=>some (.ref a)
 | .type n=>some (.ty n)
 | _=>none
theorem RelV.abs{x:V}(r:RelV x u):ji3 u=some x:=by
 cases x with
 | non=>cases r;rfl
 | bl _=>cases r;rfl
 | int _=>obtain⟨t,rfl⟩:=r;rfl
 | str _=>obtain⟨t,rfl⟩:=r;rfl
 | byt _=>obtain⟨t,rfl⟩:=r;rfl
 | flt _=>obtain⟨t,rfl⟩:=r;rfl
 | ref _=>cases r;rfl
 | ty _=>cases r;rfl
variable {y:V}
theorem RelV.inj{x:V}(r:RelV x u)(q:RelV y u):x=y:=bZ (r.abs.symm.trans q.abs)
theorem Vals.inj:∀{xs ys:List V} {us:List ad},Vals xs us->Vals ys us->xs=ys
 | _,_,_,.nil,.nil=>rfl
 | _,_,_,.cons r t,.cons r' t'=>by rw[r.inj r',Vals.inj t t']
variable {K:av}
section
variable {σ:St}{ys:List V}
theorem SqL.of(h:H a=some (.lst xs)):SqL K H a xs:=.inl (.inl h)
theorem SqT.of(h:H a=some (.tup xs)):SqT K H a xs:=.inl (.inl h)
theorem Inv.list(I:Inv X ac σ H s)(h:SqL X.K H a xs):∃its:List ad,Vals xs its/\PlainL s.heap a its.toArray/\xs.length<=aF:=by
 rcases h with h | ⟨o,its,n,hk,hc,hd,hs,hz,r⟩
 .obtain⟨z,its,n,r,e⟩:=h.ok I.hok
  exact⟨its,r,⟨_,n,e,rfl,rfl,rfl⟩,z⟩
 .refine⟨its.toList,r,⟨o,n,I.kIn a o hk,hc,hd,by simpa using hs⟩,?_⟩
  have e:=r.length;simp only[cF]at e;omega
theorem Inv.tuple(I:Inv X ac σ H s)(h:SqT X.K H a xs):∃its:List ad,Vals xs its/\IsTup s.heap a its.toArray/\xs.length<=aF:=by
 rcases h with h | ⟨o,its,n,hk,hc,hs,hz,r⟩
 .obtain⟨z,its,r,p⟩:=h.ok I.hok
  exact⟨its,r,p,z⟩
 .refine⟨its.toList,r,⟨o,I.kIn a o hk,hc,n,by simpa using hs⟩,?_⟩
  have e:=r.length;simp only[cF]at e;omega
theorem Inv.list_inj(I:Inv X ac σ H s)(h:SqL X.K H a xs)(h':SqL X.K H a ys):xs=ys:=by
 obtain⟨its,r,⟨o,n,e,_,_,d⟩,_⟩:=I.list h;obtain⟨its',r',⟨o',n',e',_,_,d'⟩,_⟩:=I.list h';rw[e]at e';cases e';rw[d]at d';injection d' with d1 _;have:its=its':=by simpa using Tw Ti d1
 subst this;exact r.inj r'
theorem Inv.tuple_inj(I:Inv X ac σ H s)(h:SqT X.K H a xs)(h':SqT X.K H a ys):xs=ys:=by
 obtain⟨its,r,⟨o,e,_,n,d⟩,_⟩:=I.tuple h;obtain⟨its',r',⟨o',e',_,n',d'⟩,_⟩:=I.tuple h';rw[e]at e';cases e';rw[d]at d';injection d' with d1 _;have:its=its':=by simpa using Tw Ti d1
 subst this;exact r.inj r'
end
abbrev Cx.wish(X:Cx)(E:ad->af->Prop):Cx:={ X with xe:=E }
abbrev Cx.nox(X:Cx):Cx:=X.wish fun _ _=>False
theorem Cx.Ok.wish(ok:X.Ok)(E:ad->af->Prop):(X.wish E).Ok:=
 ⟨ok.mod,ok.kind,ok.glob,ok.blt,ok.above,ok.inj,ok.has,ok.cab,ok.hd,ok.frames,ok.stk,ok.exf,ok.bs,ok.bsz,ok.noex,ok.exfs,ok.funs,ok.frf⟩
theorem Cx.Ok.unwish(ok:(X.wish E).Ok):X.Ok:=
 ⟨ok.mod,ok.kind,ok.glob,ok.blt,ok.above,ok.inj,ok.has,ok.cab,ok.hd,ok.frames,ok.stk,ok.exf,ok.bs,ok.bsz,ok.noex,ok.exfs,ok.funs,ok.frf⟩
section
variable {σ:St}
theorem Inv.wish(I:Inv X ac σ H s)(E:ad->af->Prop):Inv (X.wish E) ac σ H s:=⟨I.ok.wish E,I.os,I.bare,I.base,I.loc,I.cell,I.free,I.freeC,I.pin,I.hok,I.len⟩
theorem Inv.unwish(I:Inv (X.wish E) ac σ H s):Inv X ac σ H s:=⟨I.ok.unwish,I.os,I.bare,I.base,I.loc,I.cell,I.free,I.freeC,I.pin,I.hok,I.len⟩
theorem SP.unwish{D:Ends}{f:Flow}(h:SP (X.wish E) ac D f s'):SP X ac D f s':=by
 cases f with
 | next=>obtain⟨σ',H',I,q⟩:=h;exact⟨σ',H',I.unwish,q⟩
 | brk=>obtain⟨σ',H',I,q⟩:=h;exact⟨σ',H',I.unwish,q⟩
 | cont=>obtain⟨σ',H',I,q⟩:=h;exact⟨σ',H',I.unwish,q⟩
 | ret u=>obtain⟨v,σ',H',I,r,q⟩:=h;exact⟨v,σ',H',I.unwish,r,q⟩
theorem PSs.nox{st:List aA}{t:TS}(h:PSs X.nox st t):PSs X st t:=fun ac s σ H D I hw=>
 bi (h ac s σ H D (I.wish _) hw) (fun _ _ q=>q.unwish) fun _ _ z=>ez z
end
section
variable {st:aA}{qV:List aA}{t u:TS}{te:TE}
def jhU:TS:=fun D σ H=>D.nx σ H
def jO(t u:TS):TS:=fun D σ H=>t { D with nx:=u D } σ H
theorem Inv.quiet{σ:St}(I:Inv X ac σ H s):interactive X.env=false:=by simp[interactive,I.ok.kind]
def jgK(te:TE):TS:=fun D σ H=>te σ H fun _ H1=>D.nx σ H1
def jhQ(te:TE):TS:=fun D σ H=>te σ H D.rt
def jhP:TS:=fun D _ H=>D.rt .non H
def jiC(c:TT)(t u:TS):TS:=fun D σ H=>c σ H fun b H1=>if b=true then t D σ H1 else u D σ H1
def jgY:TS:=fun _ _ _=>False
end
abbrev TG:=V->St->Hp->(St->Hp->Prop)->Prop
abbrev TGs:=List V->St->Hp->(St->Hp->Prop)->Prop
def PG(X:Cx)(target:aj)(t:TG):Prop:=
 ∀(ac:List (aa×Obj)) (s:af) (σ:St) (H:Hp) (v:V) (u:ad) (Q:St->Hp->Prop),Inv X ac σ H s->RelV v u->t v σ H Q->
  ah (am X.prog X.w) X.A (assign target X.env u) (fun _ s'=>∃σ' H',Inv X ac σ' H' s'/\Q σ' H') X.xe s
def PGs(X:Cx)(ts:List aj)(t:TGs):Prop:=
 ∀(ac:List (aa×Obj)) (s:af) (σ:St) (H:Hp) (vs:List V) (us:List ad) (Q:St->Hp->Prop),Inv X ac σ H s->Vals vs us->t vs σ H Q->
  ah (am X.prog X.w) X.A (HM ((iD ts X.env).map (·.2)) us) (fun _ s'=>∃σ' H',Inv X ac σ' H' s'/\Q σ' H') X.xe s
abbrev jhG:=V->V->V->Hp->(Hp->Prop)->Prop
def jix(X:Cx)(t:jhG):Prop:=
 ∀(ac:List (aa×Obj)) (s:af) (σ:St) (H:Hp) (o i v:V) (ov iv u:ad) (Q:Hp->Prop),Inv X ac σ H s->RelV o ov->RelV i iv->RelV v u->t o i v H Q->
  ah (am X.prog X.w) X.A (setItem ov iv u) (fun _ s'=>∃H',Inv X ac σ H' s'/\Q H') X.xe s
abbrev TIp:=V->V->Hp->VK->Prop
def PIp(X:Cx)(op:Operator)(t:TIp):Prop:=
 ∀(ac:List (aa×Obj)) (s:af) (σ:St) (H:Hp) (x y:V) (v u:ad) (Q:VK),Inv X ac σ H s->RelV x v->RelV y u->t x y H Q->
  ah (am X.prog X.w) X.A (inplaceOp op v u) (EP X ac σ Q) X.xe s
section
def kO(i:Nat):TG:=fun v σ H Q=>Q (σ.set i (some v)) H
def jiT:TGs:=fun vs σ H Q=>vs=[]/\Q σ H
def jir(t:TG)(u:TGs):TGs:=fun vs σ H Q=>∃v r,vs=v :: r/\t v σ H fun σ' H'=>u r σ' H' Q
def jhw(K:av)(n:Nat)(t:TGs):TG:=fun v σ H Q=>∃a xs,v=.ref a/\SqT K H a xs/\xs.length=n/\t xs σ H Q
theorem jev{es:List aj}{k:Nat}{t:TGs}{n:Nat}(hc:X.calm=true)(h:PGs X es t)
  (hn:(iD es X.env).length=n:=by rfl) (cw:(iD es X.env).findIdx? (·.1)=none:=by rfl):PG X (.Tuple es k pos) (jhw X.K n t):=by
 intro ac s σ H v u Q I r hw
 obtain⟨a,xs,e1,hq,hl,hw⟩:=hw
 subst e1
 cases r
 obtain⟨its,rv,ht,hz⟩:=I.tuple hq
 refine assign_Tuple_tuple (I.ok.hd hc) ht (by simp[hn,<- hl,rv.length]) cw fun h' hx=>?_
 have I1:Inv X ac σ H { s with heap:=h' }:=I.kept (t':=s.toks) fun b o e=>hx b o (aT (aL e)) e
 exact h ac _ σ H xs _ Q I1 (by simpa using rv) hw
def jiS(to ti:TE)(t:jhG):TG:=fun v σ H Q=>to σ H fun o H1=>ti σ H1 fun i H2=>t o i v H2 fun H3=>Q σ H3
def jby(te:TE)(g:TG):TS:=fun D σ H=>te σ H fun x H1=>g x σ H1 D.nx
def jiH(i:Nat)(te:TE)(ti:TIp):TS:=fun D σ H=>∃x,σ[i]?=some (some x)/\te σ H fun y H1=>ti x y H1 fun z H2=>D.nx (σ.set i (some z)) H2
def ipI(f:Int->Int->Int):TIp:=fun x y H Q=>∃i j,x=.int i/\y=.int j/\Q (.int (f i j)) H
theorem jht:PIp X .Add (ipI fun i j=>i+j):=by
 intro ac s σ H x y v u Q I r1 r2 h;obtain⟨i,j,e1,e2,q⟩:=h;subst e1;subst e2;obtain⟨t,rfl⟩:=r1;obtain⟨t',rfl⟩:=r2;exact iadd_int ⟨.int _,H,I.tok _,⟨_,rfl⟩,q⟩
def jec(c:TT)(tb:TS):TS:=fun D σ H=>∃W:Nat->St->Hp->Prop,(∃m,W m σ H)/\∀m σ H,W m σ H->
 c σ H fun b H1=>if b=true then ∃N:St->Hp->Prop,(∀σ' H',N σ' H'->∃m',m' < m/\W m' σ' H')/\tb { D with nx:=N,ct:=N,bk:=D.nx } σ H1 else D.nx σ H1
end
structure It where
 go:Nat->Hp->Prop
 yld:Nat->Hp->V->Hp->Prop
 stop:Nat->Hp->Prop
def yK(X:Cx)(ac:List (aa×Obj))(H:Hp)(b:aa):Prop:=
 H b=none/\b≠X.env.locals/\b ∉ X.fs/\(b∈X.ex\/X.s₀.heap.objs.size<=b)/\(∀x c,X.env.cells.lookup x=some c->c≠b)/\∀p∈X.pn++ac,p.1≠b
theorem Inv.fpOk{σ:St}(I:Inv X ac σ H s)(hb:s.heap.objs.size<=b)(hn:H' b=none):yK X ac H' b:=by
 refine⟨hn,mK (cj I.lt hb),I.nofs hb,.inr (aU I.sz hb),fun x c e z=>?_,fun p hp z=>?_⟩
 .obtain⟨v,q⟩:=I.cell x c e
  exact absurd (cj q.lt (by rw[z];exact hb)) (g0 _)
 .exact absurd (cj (aL (I.pin p hp).1) (by rw[z];exact hb)) (g0 _)
structure Turn(P:az)(w:ax)(K:av)(tg:aj)(J:It)(fp:List aa)(it:aa)(tn:Nat->au->Prop):Prop where
 mem:it∈fp
 obj:∀i h,tn i h->∀b∈fp,∃o,h.get? b=some o/\∀v,o.data≠.cell v
 keep:∀i h h',tn i h->(∀b∈fp,∀o,h.get? b=some o->h'.get? b=some o)->tn i h'
 item:∀(X:Cx),X.prog=P->X.w=w->X.K=K->X.calm=true->∀(i:Nat) (ac:List (aa×Obj)) (s:af) (σ:St) (H:Hp) (E:ad->af->Prop),Inv X ac σ H s->(∀b∈fp,yK X ac H b)->tn i s.heap->J.go i H->
  ah (am P w) X.A (dh (.ref it)) (fun r s1=>∃u,r=some u/\
   ah (am P w) X.A (le tg (.ref it) u) (fun _ s2=>∃x H',Inv X ac σ H' s2/\RelV x u/\J.yld i H x H'/\tn (i+1) s2.heap/\∀b∈fp,H' b=none) E s1) E s
 done:∀(X:Cx),X.prog=P->X.w=w->X.K=K->X.calm=true->∀(i:Nat) (ac:List (aa×Obj)) (s:af) (σ:St) (H:Hp) (E:ad->af->Prop),Inv X ac σ H s->(∀b∈fp,yK X ac H b)->tn i s.heap->J.stop i H->
  ah (am P w) X.A (dh (.ref it)) (fun r s1=>r=none/\Inv X ac σ H s1) E s
 self:∀(A:aM) (i:Nat) (s:af) (Q:ad->af->Prop) (E:ad->af->Prop),tn i s.heap->Q (.ref it) s->ah (am P w) A (mB (.ref it)) Q E s
abbrev TI:=St->Hp->(It->Hp->Prop)->Prop
def PIE(X:Cx)(ac:List (aa×Obj))(σ:St)(tg:aj)(R:It->Hp->Prop)(m8:ad)(s2:af):Prop:=
 ∃(it:aa) (fp:List aa) (tn:Nat->au->Prop) (J:It) (H':Hp),m8=.ref it/\Inv X ac σ H' s2/\Turn X.prog X.w X.K tg J fp it tn/\tn 0 s2.heap/\(∀b∈fp,yK X ac H' b)/\R J H'
def PI(X:Cx)(tg iter:aj)(wi:TI):Prop:=
 ∀(ac:List (aa×Obj)) (s:af) (σ:St) (H:Hp) (R:It->Hp->Prop),Inv X ac σ H s->wi σ H R->
  ah (am X.prog X.w) X.A (eval iter X.env) (fun v s1=>ah (am X.prog X.w) X.A (mB v) (PIE X ac σ tg R) X.xe s1) X.xe s
variable {tg:aj}
theorem jcB{it:aa}{o:Obj}{n:String}{vs:Array ad}(ho:s.heap.get? it=some o)(hc:o.cls=.type n)(hd:o.data=.fields vs)
  (hn:["enumerate","zip","dict_itemiterator","dict_reverseitemiterator","odict_iterator","itertools.zip_longest","itertools.pairwise"].contains n=false) (hQ:Q () s):ah M A (le tg (.ref it) u) Q E s:=by
 unfold le
 cases tg <;> first
  | exact aq hQ
  | (cases u <;> first
    | exact aq hQ
    | (refine ae (GS ho ?_)
       rw[hc,hd]
       show ah M A (if (["enumerate","zip","dict_itemiterator","dict_reverseitemiterator","odict_iterator","itertools.zip_longest","itertools.pairwise"].contains n && vs[0]? == some (dg _))=true then _ else _) Q E s
       rw[Tt (by intro h;rw[hn,Bool.false_and]at h;cases h)]
       exact aq hQ))
def Itl(K:av)(a:aa):It:=
 ⟨fun i H=>∃xs x,SqL K H a xs/\xs[i]?=some x,fun i H x H'=>H'=H/\∀xs,SqL K H a xs->xs[i]?=some x,fun i H=>∃xs,SqL K H a xs/\xs.length<=i⟩
def Itt(K:av)(a:aa):It:=
 ⟨fun i H=>∃xs x,SqT K H a xs/\xs[i]?=some x,fun i H x H'=>H'=H/\∀xs,SqT K H a xs->xs[i]?=some x,fun i H=>∃xs,SqT K H a xs/\xs.length<=i⟩
def Itr(lo:Int)(n:Nat):It:=⟨fun i _=>i < n,fun i H x H'=>H'=H/\x=.int (lo+i),fun i _=>n<=i⟩
theorem jcV(a it:aa):Turn P w K tg (Itl K a) [it] it (fun i h=>h.IsListIter it a i) where
 mem:=by simp
 obj:=fun i h st b hb=>by
  have e:b=it:=by simpa using hb
  subst e;obtain⟨o,e,c,d⟩:=st;exact⟨o,e,fun v z=>by rw[d]at z;cases z⟩
 keep:=fun i h h' st k=>st.at fun o e=>k it (by simp) o e
 item:=by
  intro X hP hw hK hc i ac s σ H E I hf st hg;subst hP hw hK;obtain⟨xs,x,hq,hx⟩:=hg;obtain⟨its,rv,p,hz⟩:=I.list hq;obtain⟨u,hu,ru⟩:=rv.get hx;obtain⟨f0,f1,f2,f3,f4,f5⟩:=hf it (by simp);refine PK st p.isList (x:=u) (by simpa using hu) fun h' bM sb=>?_
  have I1:Inv X ac σ H { s with heap:=h' }:=I.turned (t':=s.toks) (fun b o hb e=>(sb.2 b hb).trans e) f0 f1 f3 f4 f5;obtain⟨o,e,c,d⟩:=id bM;exact⟨u,rfl,jcB (s:={ s with heap:=h' }) e c d (by decide) ⟨x,H,I1,ru,⟨rfl,fun ys hy=>by rw[I.list_inj hy hq];exact hx⟩,bM,fun b hb=>(hf b hb).1⟩⟩
 done:=by
  intro X hP hw hK hc i ac s σ H E I hf st hg;subst hP hw hK;obtain⟨xs,hq,hx⟩:=hg;obtain⟨its,rv,p,hz⟩:=I.list hq;obtain⟨f0,f1,f2,f3,f4,f5⟩:=hf it (by simp);have hl:=rv.length;exact PL (I.ok.hd hc) st p.isList (by simp;omega) fun h' eb=>⟨rfl,I.turned (t':=s.toks) (fun b o hb e=>eb b o hb e) f0 f1 f3 f4 f5⟩
 self:=fun _ _ _ _ _ st h=>wpAny_pyIter_listiter st h
theorem jbt(a it:aa):Turn P w K tg (Itt K a) [it] it (fun i h=>h.IsTupleIter it a i) where
 mem:=by simp
 obj:=fun i h st b hb=>by
  have e:b=it:=by simpa using hb
  subst e;obtain⟨o,e,c,d⟩:=st;exact⟨o,e,fun v z=>by rw[d]at z;cases z⟩
 keep:=fun i h h' st k=>st.at fun o e=>k it (by simp) o e
 item:=by
  intro X hP hw hK hc i ac s σ H E I hf st hg;subst hP hw hK;obtain⟨xs,x,hq,hx⟩:=hg;obtain⟨its,rv,p,hz⟩:=I.tuple hq;obtain⟨u,hu,ru⟩:=rv.get hx;obtain⟨f0,f1,f2,f3,f4,f5⟩:=hf it (by simp);refine PH st (show s.heap.IsTuple a its.toArray from p) (x:=u) (by simpa using hu) fun h' bM sb=>?_
  have I1:Inv X ac σ H { s with heap:=h' }:=I.turned (t':=s.toks) (fun b o hb e=>(sb.2 b hb).trans e) f0 f1 f3 f4 f5;obtain⟨o,e,c,d⟩:=id bM;exact⟨u,rfl,jcB (s:={ s with heap:=h' }) e c d (by decide) ⟨x,H,I1,ru,⟨rfl,fun ys hy=>by rw[I.tuple_inj hy hq];exact hx⟩,bM,fun b hb=>(hf b hb).1⟩⟩
 done:=by
  intro X hP hw hK hc i ac s σ H E I hf st hg;subst hP hw hK;obtain⟨xs,hq,hx⟩:=hg;obtain⟨its,rv,p,hz⟩:=I.tuple hq;obtain⟨f0,f1,f2,f3,f4,f5⟩:=hf it (by simp);have hl:=rv.length;exact PJ (I.ok.hd hc) st (show s.heap.IsTuple a its.toArray from p) (by simp;omega) fun h' eb=>⟨rfl,I.turned (t':=s.toks) (fun b o hb e=>eb b o hb e) f0 f1 f3 f4 f5⟩
 self:=fun _ _ _ _ _ st h=>wpAny_pyIter_tupleiter st h
theorem jbu(it:aa)(lo:Int)(n:Nat):Turn P w K tg (Itr lo n) [it] it (fun i h=>IsRangeIter h it (lo+(i:Nat) * 1) ((n:Int) - (i:Nat)) 1) where
 mem:=by simp
 obj:=fun i h st b hb=>by
  have e:b=it:=by simpa using hb
  subst e;exact⟨_,st,fun v z=>by
   have z':Data.fields _=Data.cell v:=z
   cases z'⟩
 keep:=fun i h h' st k=>k it (by simp) _ st
 item:=by
  intro X hP hw hK hc i ac s σ H E I hf st hg;subst hP hw hK;obtain⟨f0,f1,f2,f3,f4,f5⟩:=hf it (by simp);have W:=Walks.range (prog:=X.prog) (w:=X.w) (I.ok.hd hc) it lo 1 n;refine W.item i s _ _ hg st fun v h' tk hv bM kk=>?_
  obtain⟨t,rfl⟩:=hv;have I1:Inv X ac σ H { s with heap:=h',toks:=tk }:=I.turned (fun b o hb e=>kk b o (by simpa using hb) e) f0 f1 f3 f4 f5;refine⟨_,rfl,jcB (s:={ s with heap:=h',toks:=tk }) (n:="range_iterator") bM rfl rfl (by decide) ⟨.int (lo+i),H,I1,⟨t,?_⟩,⟨rfl,rfl⟩,bM,fun b hb=>(hf b hb).1⟩⟩;rw[Int.mul_one]
 done:=by
  intro X hP hw hK hc i ac s σ H E I hf st hg;subst hP hw hK;obtain⟨f0,f1,f2,f3,f4,f5⟩:=hf it (by simp);exact wpAny_pyNext_range_end (I.ok.hd hc) st (by have:n<=i:=hg;omega) fun h' eb=>⟨rfl,I.turned (t':=s.toks) (fun b o hb e=>eb b o hb e) f0 f1 f3 f4 f5⟩
 self:=fun _ _ _ _ _ st h=>wpAny_pyIter_rangeiter st h
variable {fp:List aa}
section
def ja4(K:av)(tl:TE):TI:=fun σ H R=>tl σ H fun x H1=>∃a,x=.ref a/\(∃xs,SqL K H1 a xs)/\R (Itl K a) H1
def jiQ(K:av)(tl:TE):TI:=fun σ H R=>tl σ H fun x H1=>∃a,x=.ref a/\(∃xs,SqT K H1 a xs)/\R (Itt K a) H1
theorem jep{σ:St}{R:It->Hp->Prop}{lo hi:Int}{t u v:Tok}{tk:Nat}(I:Inv X ac σ H s)(h1:-(2 ^ 62)<=lo)(h2:lo < 2 ^ 62)(h3:-(2 ^ 62)<=hi)(h4:hi < 2 ^ 62)
  (q:R (Itr lo (hi - lo).toNat) H):ah (am X.prog X.w) X.A (mB (.ref s.heap.objs.size)) (PIE X ac σ tg R) E { s with heap:=s.heap.push { cls:=.type "range",data:=.fields #[.int lo t,.int hi u,.int 1 v] },toks:=tk }:=by
 refine wpAny_pyIter_range (IsRange.new ..) (small_one h1 h2 h3 h4) ?_
 have I1:Inv X ac σ H { s with heap:=s.heap.push { cls:=.type "range",data:=.fields #[.int lo t,.int hi u,.int 1 v] },toks:=tk }:=I.kept fun b o e=>aQ _ e
 refine⟨(s.heap.push { cls:=.type "range",data:=.fields #[.int lo t,.int hi u,.int 1 v] }).objs.size,[(s.heap.push { cls:=.type "range",data:=.fields #[.int lo t,.int hi u,.int 1 v] }).objs.size],_,_,H,rfl,
  I1.kept (t':=tk) fun b o e=>aQ _ e,jbu _ lo (hi - lo).toNat,?_,fun b hb=>?_,q⟩
 .have e1:lo+((0:Nat):Int) * 1=lo:=by simp
  have e2:(((hi - lo).toNat:Nat):Int) - ((0:Nat):Int)=Builtin.Range.rangeSize lo hi 1:=by rw[rangeSize_one];split <;> omega
  show IsRangeIter _ _ (lo+((0:Nat):Int) * 1) ((((hi - lo).toNat:Nat):Int) - ((0:Nat):Int)) 1
  rw[e1,e2]
  exact bV _ rfl
 .have e:b=(s.heap.push { cls:=.type "range",data:=.fields #[.int lo t,.int hi u,.int 1 v] }).objs.size:=by simpa using hb
  subst e
  exact I1.fpOk (aB _) (I1.hok.fresh (aB _))
def jin(ta:TA):TI:=fun σ H R=>ta σ H fun vs H1=>∃j:Int,vs=[.int j]/\-(2 ^ 62)<=j/\j < 2 ^ 62/\R (Itr 0 j.toNat) H1
def jiE(wi:TI)(g:TG)(tb:TS):TS:=fun D σ H=>wi σ H fun J H1=>∃W:Nat->Nat->St->Hp->Prop,(∃m,W 0 m σ H1)/\∀i m σ H,W i m σ H->
 (J.stop i H/\D.nx σ H)\/(J.go i H/\∃N:St->Hp->Prop,(∀σ' H',N σ' H'->∃m',m' < m/\W (i+1) m' σ' H')/\∀x H',J.yld i H x H'->g x σ H' fun σ2 H2=>tb { D with nx:=N,ct:=N,bk:=D.nx } σ2 H2)
def zq(fp:List aa)(h:au):List (aa×Obj):=fp.filterMap fun b=>(h.get? b).map fun o=>(b,o)
theorem kj{o:Obj}(hb:b∈fp)(e:h.get? b=some o):(b,o)∈zq fp h:=SR.mpr ⟨b,hb,by rw[e];rfl⟩
theorem jdu{p:aa×Obj}(hp:p∈zq fp h):p.1∈fp/\h.get? p.1=some p.2:=by
 obtain⟨b,hb,e⟩:=SR.mp hp
 cases q:h.get? b with
 | none=>rw[q]at e;cases e
 | some o=>
  rw[q]at e;have e':(b,o)=p:=bZ e;subst e';exact⟨hb,q⟩
theorem Inv.pinned{σ:St}(I:Inv X ac σ H s)(hf:∀b∈fp,yK X ac H b)(ho:∀b∈fp,∃o,s.heap.get? b=some o/\∀v,o.data≠.cell v):Inv X (ac++zq fp s.heap) σ H s:=
 I.pins_of fun p hp=>(bB.mp hp).elim (fun z=>I.pin p (b4 _ z)) fun z=>by
  obtain⟨hb,e⟩:=jdu z;obtain⟨f0,f1,f2,_⟩:=hf p.1 hb;obtain⟨o,e',d⟩:=ho p.1 hb;rw[e]at e';cases e';exact⟨e,f0,f1,f2,d⟩
theorem Inv.unpinned{pl:List (aa×Obj)}{σ:St}(I:Inv X (ac++pl) σ H s):Inv X ac σ H s:=I.pins_of fun p hp=>I.pin p (b4 _ (wc _ hp))
end
theorem kn{g:TG}{tb:TS}{D:Ends}{σ:St}(Pv:Nat->St->Hp->Prop)(h0:Pv 0 σ H)(hl:∀i σ H,i<=xs.length->Pv i σ H->SqL K H a xs)
  (hs:∀i x σ H,xs[i]?=some x->Pv i σ H->g x σ H fun σ2 H2=>tb { D with nx:=Pv (i+1),ct:=Pv (i+1),bk:=D.nx } σ2 H2) (hd:∀σ H,Pv xs.length σ H->D.nx σ H) :
  ∃W:Nat->Nat->St->Hp->Prop,(∃m,W 0 m σ H)/\∀i m σ H,W i m σ H->
   ((Itl K a).stop i H/\D.nx σ H)\/((Itl K a).go i H/\∃N:St->Hp->Prop,(∀σ' H',N σ' H'->∃m',m' < m/\W (i+1) m' σ' H')/\∀x H',(Itl K a).yld i H x H'->g x σ H' fun σ2 H2=>tb { D with nx:=N,ct:=N,bk:=D.nx } σ2 H2):=by
 refine⟨fun i m σ H=>m=xs.length - i/\i<=xs.length/\Pv i σ H,⟨xs.length,by simp,bA _,h0⟩,?_⟩
 rintro i m σ H ⟨rfl,hi,p⟩
 have q:=hl i σ H hi p
 by_cases a_:i < xs.length
 .refine .inr ⟨⟨xs,xs[i],q,by simp[a_]⟩,Pv (i+1),fun σ' H' p'=>⟨xs.length - (i+1),by omega,rfl,a_,p'⟩,fun x H' y=>?_⟩
  obtain⟨e,y⟩:=y
  subst e
  exact hs i x σ _ (y xs q) p
 .have e:i=xs.length:=by omega
  subst e
  exact .inl ⟨⟨xs,q,aB _⟩,hd σ H p⟩
theorem JW{g:TG}{tb:TS}{D:Ends}{σ:St}(Pv:Nat->St->Hp->Prop)(h0:Pv 0 σ H)(hl:∀i σ H,i<=xs.length->Pv i σ H->SqT K H a xs)
  (hs:∀i x σ H,xs[i]?=some x->Pv i σ H->g x σ H fun σ2 H2=>tb { D with nx:=Pv (i+1),ct:=Pv (i+1),bk:=D.nx } σ2 H2) (hd:∀σ H,Pv xs.length σ H->D.nx σ H) :
  ∃W:Nat->Nat->St->Hp->Prop,(∃m,W 0 m σ H)/\∀i m σ H,W i m σ H->
   ((Itt K a).stop i H/\D.nx σ H)\/((Itt K a).go i H/\∃N:St->Hp->Prop,(∀σ' H',N σ' H'->∃m',m' < m/\W (i+1) m' σ' H')/\∀x H',(Itt K a).yld i H x H'->g x σ H' fun σ2 H2=>tb { D with nx:=N,ct:=N,bk:=D.nx } σ2 H2):=by
 refine⟨fun i m σ H=>m=xs.length - i/\i<=xs.length/\Pv i σ H,⟨xs.length,by simp,bA _,h0⟩,?_⟩
 rintro i m σ H ⟨rfl,hi,p⟩
 have q:=hl i σ H hi p
 by_cases a_:i < xs.length
 .refine .inr ⟨⟨xs,xs[i],q,by simp[a_]⟩,Pv (i+1),fun σ' H' p'=>⟨xs.length - (i+1),by omega,rfl,a_,p'⟩,fun x H' y=>?_⟩
  obtain⟨e,y⟩:=y
  subst e
  exact hs i x σ _ (y xs q) p
 .have e:i=xs.length:=by omega
  subst e
  exact .inl ⟨⟨xs,q,aB _⟩,hd σ H p⟩
theorem jd5{c:TT}{tb:TS}{D:Ends}{σ:St}(Pv:St->Hp->Prop)(μ:St->Hp->Nat)(h0:Pv σ H)
  (hs:∀σ H,Pv σ H->c σ H fun b H1=>if b=true then tb { D with nx:=fun σ' H'=>Pv σ' H'/\μ σ' H' < μ σ H,ct:=fun σ' H'=>Pv σ' H'/\μ σ' H' < μ σ H,bk:=D.nx } σ H1 else D.nx σ H1)
  (mono:∀σ H Q Q',(∀b H1,Q b H1->Q' b H1)->c σ H Q->c σ H Q'):jec c tb D σ H:=by
 refine⟨fun m σ H=>m=μ σ H/\Pv σ H,⟨_,rfl,h0⟩,?_⟩
 rintro m σ H ⟨rfl,p⟩
 refine mono σ H _ _ (fun b H1 q=>?_) (hs σ H p)
 cases b with
 | true=>exact⟨_,fun σ' H' ⟨p',l⟩=>⟨_,l,rfl,p'⟩,q⟩
 | false=>exact q
abbrev R2:=V->V->Hp->VK->Prop
def OpR(X:Cx)(f:ad->ad->Sem ad)(r:R2):Prop:=
 ∀(ac:List (aa×Obj)) (s:af) (σ:St) (H:Hp) (x y:V) (v u:ad) (Q:VK),Inv X ac σ H s->RelV x v->RelV y u->r x y H Q->
  ah (am X.prog X.w) X.A (f v u) (EP X ac σ Q) X.xe s
def UnR(X:Cx)(f:ad->Sem ad)(r:V->Hp->VK->Prop):Prop:=
 ∀(ac:List (aa×Obj)) (s:af) (σ:St) (H:Hp) (x:V) (v:ad) (Q:VK),Inv X ac σ H s->RelV x v->r x H Q->
  ah (am X.prog X.w) X.A (f v) (EP X ac σ Q) X.xe s
def qX(X:Cx)(f:ad)(r:List V->Hp->VK->Prop):Prop:=
 ∀(ac:List (aa×Obj)) (s:af) (σ:St) (H:Hp) (xs:List V) (us:List ad) (Q:VK),Inv X ac σ H s->Vals xs us->r xs H Q->
  ah (am X.prog X.w) X.A (call f us) (EP X ac σ Q) X.xe s
def ji4(X:Cx)(r:V->Hp->(Bool->Hp->Prop)->Prop):Prop:=
 ∀(ac:List (aa×Obj)) (s:af) (σ:St) (H:Hp) (x:V) (v:ad) (Q:Bool->Hp->Prop),Inv X ac σ H s->RelV x v->r x H Q->
  ah (am X.prog X.w) X.A (truthy v) (TP X ac σ Q) X.xe s
def tOp(r:R2)(ta tb:TE):TE:=fun σ H Q=>ta σ H fun x H1=>tb σ H1 fun y H2=>r x y H2 Q
def tUn(r:V->Hp->VK->Prop)(ta:TE):TE:=fun σ H Q=>ta σ H fun x H1=>r x H1 Q
def rI(C:Int->Int->Prop)(g:Int->Int->V):R2:=fun x y H Q=>∃i j,x=.int i/\y=.int j/\C i j/\Q (g i j) H
def rI0(g:Int->Int->V):R2:=fun x y H Q=>∃i j,x=.int i/\y=.int j/\Q (g i j) H
def rU(g:Int->V):V->Hp->VK->Prop:=fun x H Q=>∃i,x=.int i/\Q (g i) H
section
variable {a b c:aj}{tc:TE}
theorem jhA(ha:PE X a ta)(hb:PE X b tb){σ:St}{R:V->V->Hp->Prop}(I:Inv X ac σ H s)
  (h:ta σ H fun x H1=>tb σ H1 fun y H2=>R x y H2) {Q:ad->af->Prop} {f:ad->ad->Sem ad}
  (hf:∀v u s2 x y H2,Inv X ac σ H2 s2->RelV x v->RelV y u->R x y H2->ah (am X.prog X.w) X.A (f v u) Q X.xe s2) :
  ah (am X.prog X.w) X.A (eval a X.env) (fun v s₁=>ah (am X.prog X.w) X.A (eval b X.env) (fun u s₂=>ah (am X.prog X.w) X.A (f v u) Q X.xe s₂) X.xe s₁) X.xe s:=by
 refine thn (ha ac s σ H _ I h) fun v s1 hM=>?_
 obtain⟨x,H1,I1,r1,q1⟩:=hM
 refine thn (hb ac s1 σ H1 _ I1 q1) fun u s2 hM=>?_
 obtain⟨y,H2,I2,r2,q2⟩:=hM
 exact hf v u s2 x y H2 I2 r1 r2 q2
theorem opI{f:ad->ad->Sem ad}{C:Int->Int->Prop}{g:Int->Int->Int}
  (rule:∀(i j:Int) (t u:Tok) (s:af) (Q:ad->af->Prop) (E:ad->af->Prop),C i j->Q (.int (g i j) s.toks) { s with toks:=s.toks+1 }->ah (am X.prog X.w) X.A (f (.int i t) (.int j u)) Q E s) :
  OpR X f (rI C fun i j=>.int (g i j)):=by
 intro ac s σ H x y v u Q I rx ry h
 obtain⟨i,j,rfl,rfl,hc,q⟩:=h
 obtain⟨t,rfl⟩:=rx
 obtain⟨t',rfl⟩:=ry
 exact rule i j t t' s _ _ hc ⟨.int (g i j),H,I.tok _,⟨_,rfl⟩,q⟩
theorem jhb{f:ad->ad->Sem ad}{g:Int->Int->Int}
  (rule:∀(i j:Int) (t u:Tok) (s:af) (Q:ad->af->Prop) (E:ad->af->Prop),Q (.int (g i j) s.toks) { s with toks:=s.toks+1 }->ah (am X.prog X.w) X.A (f (.int i t) (.int j u)) Q E s) :
  OpR X f (rI0 fun i j=>.int (g i j)):=by
 intro ac s σ H x y v u Q I rx ry h
 obtain⟨i,j,rfl,rfl,q⟩:=h
 obtain⟨t,rfl⟩:=rx
 obtain⟨t',rfl⟩:=ry
 exact rule i j t t' s _ _ ⟨.int (g i j),H,I.tok _,⟨_,rfl⟩,q⟩
theorem jig{f:ad->ad->Sem ad}{g:Int->Int->Bool}
  (rule:∀(i j:Int) (t u:Tok) (s:af) (Q:ad->af->Prop) (E:ad->af->Prop),Q (.bool (g i j)) s->ah (am X.prog X.w) X.A (f (.int i t) (.int j u)) Q E s) :
  OpR X f (rI0 fun i j=>.bl (g i j)):=by
 intro ac s σ H x y v u Q I rx ry h
 obtain⟨i,j,rfl,rfl,q⟩:=h
 obtain⟨t,rfl⟩:=rx
 obtain⟨t',rfl⟩:=ry
 exact rule i j t t' s _ _ ⟨.bl (g i j),H,I,rfl,q⟩
def ji8(i j:Int):Prop:=0<=j/\j<=1000000/\i.natAbs < 2 ^ 64
def CMul(i j:Int):Prop:=(-(2 ^ 64) < i/\i < 2 ^ 64)\/(-(2 ^ 64) < j/\j < 2 ^ 64)
theorem CMul.ok{i j:Int}(h:CMul i j):IntMulOk i j:=by
 rcases h with⟨h1,h2⟩ | ⟨h1,h2⟩
 .exact .of_left (intBits_le_64 h1 h2)
 .exact .of_right (intBits_le_64 h1 h2)
theorem yz:OpR X (eM .Add) (rI0 fun i j=>.int (i+j)):=jhb fun _ _ _ _ _ _ _ q=>add_int q
theorem Z4:OpR X (eM .Sub) (rI0 fun i j=>.int (i - j)):=jhb fun _ _ _ _ _ _ _ q=>sub_int q
theorem Jw:OpR X (eM .Mult) (rI CMul fun i j=>.int (i * j)):=opI fun _ _ _ _ _ _ _ hc q=>mul_int q hc.ok
theorem yb:OpR X (eM .Mod) (rI (fun _ j=>0 < j) fun i j=>.int (i % j)):=opI fun i j _ _ _ _ _ hc q=>by
 have h1:(0:Int) < j:=hc;exact mod_int' (by omega) (by rw[Int.fmod_eq_emod_of_nonneg i (by omega)];exact q)
theorem jeH:OpR X (eM .Pow) (rI ji8 fun i j=>.int (i ^ j.toNat)):=opI fun _ _ _ _ _ _ _ hc q=>pow_int_small hc.1 hc.2.1 hc.2.2 q
theorem jie:OpR X (eM .BitOr) (rI0 fun i j=>.int (Builtin.bitOr i j)):=jhb fun _ _ _ _ _ _ _ q=>or_int q
theorem unI{f:ad->Sem ad}{g:Int->Int}
  (rule:∀(i:Int) (t:Tok) (s:af) (Q:ad->af->Prop) (E:ad->af->Prop),Q (.int (g i) s.toks) { s with toks:=s.toks+1 }->ah (am X.prog X.w) X.A (f (.int i t)) Q E s) :
  UnR X f (rU fun i=>.int (g i)):=by
 intro ac s σ H x v Q I rx h
 obtain⟨i,rfl,q⟩:=h
 obtain⟨t,rfl⟩:=rx
 exact rule i t s _ _ ⟨.int (g i),H,I.tok _,⟨_,rfl⟩,q⟩
theorem jgU:UnR X (unaryOp .USub) (rU fun i=>.int (-i)):=unI fun _ _ _ _ _ q=>neg_int q
end
def jh3:V->V->Bool
 | .non,.non=>true | .non,.int _=>true | .int _,.non=>true | .non,.bl _=>true | .bl _,.non=>true | .non,.str _=>true | .str _,.non=>true
 | .int _,.int _=>true | .bl _,.bl _=>true | .str _,.str _=>true | .byt _,.byt _=>true
 | .int _,.str _=>true | .str _,.int _=>true | .bl _,.str _=>true | .str _,.bl _=>true
 | _,_=>false
def rEq:R2:=fun x y H Q=>jh3 x y=true/\Q (.bl (decide (x=y))) H
def rNe:R2:=fun x y H Q=>jh3 x y=true/\Q (.bl (!decide (x=y))) H
theorem jcH{i j:Int}:decide (V.int i=V.int j)=(i == j):=by
 rw[sM];simp
theorem jfm{i j:Bool}:decide (V.bl i=V.bl j)=(i == j):=by
 rw[sM];simp
theorem jcG{i j:Str}:decide (V.str i=V.str j)=(i == j):=by
 rw[sM];simp
theorem jcI{i j:Array UInt8}:decide (V.byt i=V.byt j)=(i.toList == j.toList):=by
 rw[sM]
 cases i
 cases j
 simp
section
variable {a b c:aj}{tc:TE}
theorem j8{σ:St}{Q:VK}{k k':Bool}(I:Inv X ac σ H s)(q:Q (.bl k) H)(e:k=k'):EP X ac σ Q (.bool k') s:=by
 subst e;exact⟨.bl k,H,I,rfl,q⟩
theorem ka:OpR X (dZ .Eq) rEq:=by
 intro ac s σ H x y v u Q I rx ry h;obtain⟨hs,q⟩:=h
 cases x with
 | non=>
  cases rx
  cases y with
  | non=>cases ry;exact PySem.EqNone.eq_none_none (j8 I q (by simp))
  | bl j=>cases ry;exact PySem.EqNone.eq_none_bool (j8 I q (by simp))
  | int j=>obtain⟨t',rfl⟩:=ry;exact PySem.EqNone.eq_none_int (j8 I q (by simp))
  | str j=>obtain⟨t',rfl⟩:=ry;exact PySem.EqNone.eq_none_str (j8 I q (by simp))
  | _=>exact absurd (show false=true from hs) bF
 | bl i=>
  cases rx
  cases y with
  | non=>cases ry;exact PySem.EqNone.eq_bool_none (j8 I q (by simp))
  | bl j=>cases ry;exact eq_bool (j8 I q jfm)
  | str j=>obtain⟨t',rfl⟩:=ry;exact PySem.EqMixed.eq_bool_str (j8 I q (by simp))
  | _=>exact absurd (show false=true from hs) bF
 | int i=>
  obtain⟨t,rfl⟩:=rx
  cases y with
  | non=>cases ry;exact PySem.EqNone.eq_int_none (j8 I q (by simp))
  | int j=>obtain⟨t',rfl⟩:=ry;exact eq_int (j8 I q jcH)
  | str j=>obtain⟨t',rfl⟩:=ry;exact PySem.EqMixed.eq_int_str (j8 I q (by simp))
  | _=>exact absurd (show false=true from hs) bF
 | str i=>
  obtain⟨t,rfl⟩:=rx
  cases y with
  | non=>cases ry;exact PySem.EqNone.eq_str_none (j8 I q (by simp))
  | bl j=>cases ry;exact PySem.EqMixed.eq_str_bool (j8 I q (by simp))
  | int j=>obtain⟨t',rfl⟩:=ry;exact PySem.EqMixed.eq_str_int (j8 I q (by simp))
  | str j=>obtain⟨t',rfl⟩:=ry;exact eq_str (j8 I q jcG)
  | _=>exact absurd (show false=true from hs) bF
 | byt i=>
  obtain⟨t,rfl⟩:=rx
  cases y with
  | byt j=>obtain⟨t',rfl⟩:=ry;exact PySem.W.eq_bytes (j8 I q jcI)
  | _=>exact absurd (show false=true from hs) bF
 | _=>cases y <;> exact absurd (show false=true from hs) bF
theorem jif:OpR X (dZ .NotEq) rNe:=by
 intro ac s σ H x y v u Q I rx ry h;obtain⟨hs,q⟩:=h
 cases x with
 | non=>
  cases rx
  cases y with
  | non=>cases ry;exact PySem.EqNone.ne_none_none (j8 I q (by simp))
  | bl j=>cases ry;exact PySem.EqNone.ne_none_bool (j8 I q (by simp))
  | int j=>obtain⟨t',rfl⟩:=ry;exact PySem.EqNone.ne_none_int (j8 I q (by simp))
  | str j=>obtain⟨t',rfl⟩:=ry;exact PySem.EqNone.ne_none_str (j8 I q (by simp))
  | _=>exact absurd (show false=true from hs) bF
 | bl i=>
  cases rx
  cases y with
  | non=>cases ry;exact PySem.EqNone.ne_bool_none (j8 I q (by simp))
  | bl j=>cases ry;exact ne_bool (j8 I q (Tw not jfm))
  | str j=>obtain⟨t',rfl⟩:=ry;exact PySem.EqMixed.ne_bool_str (j8 I q (by simp))
  | _=>exact absurd (show false=true from hs) bF
 | int i=>
  obtain⟨t,rfl⟩:=rx
  cases y with
  | non=>cases ry;exact PySem.EqNone.ne_int_none (j8 I q (by simp))
  | int j=>obtain⟨t',rfl⟩:=ry;exact ne_int (j8 I q (Tw not jcH))
  | str j=>obtain⟨t',rfl⟩:=ry;exact PySem.EqMixed.ne_int_str (j8 I q (by simp))
  | _=>exact absurd (show false=true from hs) bF
 | str i=>
  obtain⟨t,rfl⟩:=rx
  cases y with
  | non=>cases ry;exact PySem.EqNone.ne_str_none (j8 I q (by simp))
  | bl j=>cases ry;exact PySem.EqMixed.ne_str_bool (j8 I q (by simp))
  | int j=>obtain⟨t',rfl⟩:=ry;exact PySem.EqMixed.ne_str_int (j8 I q (by simp))
  | str j=>obtain⟨t',rfl⟩:=ry;exact ne_str (j8 I q (Tw not jcG))
  | _=>exact absurd (show false=true from hs) bF
 | byt i=>
  obtain⟨t,rfl⟩:=rx
  cases y with
  | byt j=>obtain⟨t',rfl⟩:=ry;exact PySem.W.ne_bytes (j8 I q (Tw not jcI))
  | _=>exact absurd (show false=true from hs) bF
 | _=>cases y <;> exact absurd (show false=true from hs) bF
theorem jeI:OpR X (dZ .Lt) (rI0 fun i j=>.bl (decide (i < j))):=jig fun _ _ _ _ _ _ _ q=>lt_int q
theorem Yq:OpR X (dZ .Gt) (rI0 fun i j=>.bl (decide (j < i))):=jig fun _ _ _ _ _ _ _ q=>gt_int q
theorem jbI:OpR X (dZ .Is) (fun x y H Q=>y=.non/\Q (.bl (decide (x=.non))) H):=by
 intro ac s σ H x y v u Q I rx ry h;obtain⟨rfl,q⟩:=h
 cases ry
 refine is_none_gen (j8 I q ?_)
 cases x <;> first
  | (cases rx;rfl)
  | (obtain⟨t,rfl⟩:=rx;rfl)
theorem Z5:OpR X (dZ .IsNot) (fun x y H Q=>y=.non/\Q (.bl (!decide (x=.non))) H):=by
 intro ac s σ H x y v u Q I rx ry h;obtain⟨rfl,q⟩:=h
 cases ry
 refine isnot_none_gen (j8 I q ?_)
 cases x <;> first
  | (cases rx;rfl)
  | (obtain⟨t,rfl⟩:=rx;rfl)
theorem jF(b:aj){op:CmpOp}(h:op≠.In:=by decide)(h2:op≠.NotIn:=by decide):vK op b=false:=by
 have e1:(op == CmpOp.In)=false:=by cases op <;> first | rfl | exact absurd rfl h
 have e2:(op == CmpOp.NotIn)=false:=by cases op <;> first | rfl | exact absurd rfl h2
 cases b <;> simp[vK,e1,e2]
def jhO(t:TE):TT:=fun σ H Q=>t σ H fun x H'=>∃k,x=.bl k/\Q k H'
def jhF(K:av)(x:V)(H:Hp)(k:Bool):Prop:=
 match x with
 | .non=>k=false
 | .bl b=>k=b
 | .int i=>k=(i != 0)
 | .str y=>y.length<=aF/\k=((y.length:Int) != 0)
 | .byt y=>y.size<=aF/\k=((y.size:Int) != 0)
 | .ref p=>(∃xs,SqL K H p xs/\k=!xs.isEmpty)\/(∃xs,SqT K H p xs/\k=!xs.isEmpty)\/∃kvs,H p=some (.dK kvs)/\k=!kvs.isEmpty
 | _=>False
theorem jbW{κ:Type}{kvs:List (κ×V)}{vs:List (κ×ad)}(r:KV kvs vs):(!vs.isEmpty)=!kvs.isEmpty:=by
 cases r <;> rfl
theorem YB{its:List ad}(r:Vals xs its):(!its.toArray.isEmpty)=!xs.isEmpty:=by
 cases r <;> simp
theorem Yv:(aF:Nat) < 2 ^ 63:=by rw[eJ];decide
theorem jgV:ji4 X (fun x H Q=>∃k,jhF X.K x H k/\Q k H):=by
 intro ac s σ H x v Q I rx h;obtain⟨k,e,q⟩:=h;have hl:=Yv;have hs:aF=16777216:=eJ
 cases x with
 | non=>
  cases rx
  have e':k=false:=e;subst e';exact truthy_none ⟨H,I,q⟩
 | bl b=>
  cases rx
  have e':k=b:=e;subst e';exact nT ⟨H,I,q⟩
 | int i=>
  obtain⟨t,rfl⟩:=rx;have e':k=(i != 0):=e;subst e';exact PySem.P.truthy_int ⟨H,I,q⟩
 | str y=>
  obtain⟨t,rfl⟩:=rx;obtain⟨hy,e'⟩:y.length<=aF/\k=((y.length:Int) != 0):=e;subst e';exact PySem.P.truthy_str (by omega) ⟨H,I.tok _,q⟩
 | byt y=>
  obtain⟨t,rfl⟩:=rx;obtain⟨hy,e'⟩:y.size<=aF/\k=((y.size:Int) != 0):=e;subst e';exact PySem.W.truthy_bytes (by omega) ⟨H,I.tok _,q⟩
 | ref p=>
  cases rx
  have e':(∃xs,SqL X.K H p xs/\k=!xs.isEmpty)\/(∃xs,SqT X.K H p xs/\k=!xs.isEmpty)\/∃kvs,H p=some (.dK kvs)/\k=!kvs.isEmpty:=e;rcases e' with⟨xs,hx,e'⟩ | ⟨xs,hx,e'⟩ | ⟨kvs,hx,e'⟩
  .subst e'
   obtain⟨its,r,pl,hz⟩:=I.list hx;have hlen:=r.length;exact wpAny_truthy_list pl.isList (by simp only[bP];omega) ⟨H,I.tok _,by rw[YB r];exact q⟩
  .subst e'
   obtain⟨its,r,pl,hz⟩:=I.tuple hx;have hlen:=r.length;exact truthy_tuple pl (by simp only[bP];omega) ⟨H,I.tok _,by rw[YB r];exact q⟩
  .subst e'
   obtain⟨hz,hS,vs,r,m⟩:kvs.length<=aF/\(p == gu)=false/\∃vs,KV kvs vs/\s.heap.DictOf (j6 X.prog X.w) p vs:=I.hok p _ hx;have hlen:kvs.length=vs.length:=Dv r;exact wpAny_truthy_dict hS m (by omega) ⟨H,I.tok _,by rw[jbW r];exact q⟩
 | _=>exact (show False from e).elim
theorem yP{x:V}(r:Vals [x] us):∃u,us=[u]/\RelV x u:=by
 cases r with
 | cons r1 r2=>cases r2;exact⟨_,rfl,r1⟩
theorem jhI{x:V}(r:Vals [x,y] us):∃u w',us=[u,w']/\RelV x u/\RelV y w':=by
 cases r with
 | cons r1 r2=>
  cases r2 with
  | cons r3 r4=>cases r4;exact⟨_,_,rfl,r1,r3⟩
end
structure ObjM(h:au)(x dx C:aa)(mA:Str->Option ad):Prop where
 obj:h.get? x=some (mE C dx)
 ns:h.Ns1 dx mA
 ne:dx≠x
variable {dx:aa}{mA:Str->Option ad}
theorem jdy(n:h.Ns1 dx mA):∃od,h.get? dx=some od/\∀name,HS name od=some (mA name):=by
 obtain⟨o,es,ep,ho,hd,hk,_,hm⟩:=n;refine⟨o,ho,fun name=>?_⟩;have e:=hm name;unfold nsFind findBy at e;rw[<- Array.find?_toList]at e;unfold HS;rw[hd];dsimp only;split
 .rename_i y q
  rw[q]at e;exact Tw some e
 .rename_i q
  rw[q]at e;have a:es.toList.any (·.refKey)=false:=by
   rw[List.any_eq_false];intro y hy;obtain⟨z,t,NW⟩:=hk y (Tk.mp hy);simp[vV.refKey,NW]
  have a':¬es.toList.any (·.refKey)=true:=by rw[a];exact bF
  rw[Tt a'];exact Tw some e
variable {C:aa}
theorem ObjM.look{x:aa}(I:ObjM h x dx C mA):∃od,PySem.W.InstAt h x (mE C dx) C (some od)/\∀name,HS name od=some (mA name):=
 let ⟨od,ho,hl⟩:=jdy I.ns
 ⟨od,⟨I.obj,rfl,rfl,ho⟩,hl⟩
variable {f:aa}{kw:List (Str×ad)}
section
variable {prog:az}{x:aa}{name:Str}{v:ad}
theorem jgv{rb:Bool}{Q:ad->af->Prop}(X:K.In s.heap)(I:ObjM s.heap x dx C mA)(hg:d_ K C name=true)(hh:ef K C=true)
  (ha:aG K (.ref C) name=some none) (hv:mA name=some v) (f_:Rb v=true) (h:Q v { s with toks:=s.toks+1 }) :
  ah (am prog w) A (getAttr (.ref x) name rb) Q E s:=by
 obtain⟨od,J,hl⟩:=I.look
 exact PySem.W.get_value X J (PySem.W.plainGet_of hg).1 (PySem.W.findObj_own hh ha rfl (by rw[hl,hv])) f_ h
theorem jfU{ns:List Str}(X:K.In s.heap)(I:ObjM s.heap x dx C mA)
  (hs:aG K (.ref C) "__setattr__" = some (some (.builtin "object.__setattr__"))) (hp:eP K C=true) (ht:HN K C name=some none) (hh:ef K C=true)
  (hw:Dk mA ns) (hsz:ns.length<=aF)
  (h:∀h',ObjM h' x dx C (fun y=>if y=name then some v else mA y)->cr dx s.heap h'->Q () { s with heap:=h',toks:=s.toks+2 }) :
  ah (am prog w) A (setAttr (.ref x) name v) Q E s:=by
 obtain⟨od,J,hl⟩:=I.look
 refine PySem.W.set_plain X J hs (PySem.W.osa_open (s:={ s with toks:=s.toks+1 }) (r:=none) X J hp ht fun b=>?_)
 obtain⟨cd,hc,pX⟩:=PySem.W.any_some hh
 have hx:s.heap.get? x=some ⟨.ref C,some dx,.plain,#[]⟩:=I.obj
 refine ae (aq (ae (ae (wpAny_loadPart hx (ae (PySem.W.Looks.here (s:={ s with toks:=s.toks+1 }) (PySem.W.looks_clsIn X hc) ?_))))))
 rw[pX]
 refine aq (a:=some dx) (ae (aq (ae ?_)))
 refine wpAny_nsSet1 (s:={ s with toks:=s.toks+1 }) I.ns fun h' tQ dU=>?_
 obtain⟨oD,esD,epD,Nt,Oh,ik⟩:=tQ.count (Dk.cons name v hw)
 refine ae (wpAny_lookBehind Nt (by rw[Oh];exact pastItsLine_dict (aU ik (by rw[bo];omega))) ?_)
 exact aq (h _ ⟨(dU.2 _ (br I.ne)).trans I.obj,tQ,I.ne⟩ dU)
theorem je5{R:ly->af->Prop}{vs:List ad}(X:K.In s.heap)(hm:eQ K C=true)
  (hi:aG K (.ref C) "__init__" = some (some (.ref f))) (hf:PySem.W.typeIn K (.ref f)=some (.type "function"))
  (h:cD (am prog w) (A.under (.builtin "type.__call__" ⟨.ref C :: vs,kw⟩)) (.call (.ref f) ⟨.ref (s.heap.objs.size+1) :: vs,kw⟩) (PySem.W.InitBack (s.heap.objs.size+1) R)
   { s with heap:=(s.heap.push lr).push (mE C s.heap.objs.size) }) :
  cD (am prog w) A (.call (.ref C) ⟨vs,kw⟩) R s:=by
 obtain⟨hh,g,d,t,os⟩:=s
 exact PySem.W.make_core (PySem.W.makes_of X hm) (PySem.W.looks_findIn X hi) (fun self=>PySem.W.bind_fn X self hf) (.inl rfl) h
end
def qW(f:Str)(v:V):List (Str×V)->List (Str×V)
 | []=>[(f,v)]
 | (g,x) :: r=>if g=f then (g,v) :: r else (g,x) :: qW f v r
theorem KJ(f g:Str)(v:V):∀fs:List (Str×V),(qW f v fs).lookup g=if g=f then some v else fs.lookup g
 | []=>by
  show eW g [(f,v)]=_;by_cases h:g=f
  .have hb:(g == f)=true:=beq_iff_eq.mpr h
   simp only[eW,hb,Tu h]
  .have hb:(g == f)=false:=Tv.mpr h
   simp only[eW,hb,Tt h]
 | (k,x) :: r=>by
  have ih:=KJ f g v r;rw[show qW f v ((k,x) :: r)=(if k=f then (k,v) :: r else (k,x) :: qW f v r) from rfl];by_cases hk:k=f
  .rw[Tu hk]
   by_cases h:g=k
   .have hb:(g == k)=true:=beq_iff_eq.mpr h
    simp only[eW,hb,Tu (h.trans hk)]
   .have hb:(g == k)=false:=Tv.mpr h
    simp only[eW,hb,Tt (fun e:g=f=>h (e.trans hk.symm))]
  .rw[Tt hk]
   by_cases h:g=k
   .have hb:(g == k)=true:=beq_iff_eq.mpr h
    simp only[eW,hb,Tt (fun e:g=f=>hk (h.symm.trans e))]
   .have hb:(g == k)=false:=Tv.mpr h
    simp only[eW,hb];exact ih
theorem Kr(f:Str)(v:V):∀fs:List (Str×V),f∈(qW f v fs).map (·.1)/\∀g,g∈fs.map (·.1)->g∈(qW f v fs).map (·.1)
 | []=>⟨by simp[qW],fun g h=>by simp at h⟩
 | (k,x) :: r=>by
  obtain⟨i1,i2⟩:=Kr f v r;rw[show qW f v ((k,x) :: r)=(if k=f then (k,v) :: r else (k,x) :: qW f v r) from rfl];by_cases hk:k=f
  .rw[Tu hk]
   subst hk;exact⟨by simp,fun g h=>by simpa using h⟩
  .rw[Tt hk]
   refine⟨?_,fun g h=>?_⟩
   .rw[bE]
    exact bu _ i1
   .rw[bE]at h |-
    rcases aN.mp h with e | e
    .exact aN.mpr (.inl e)
    .exact bu _ (i2 g e)
theorem KK(f:Str)(v:V):∀fs:List (Str×V),(qW f v fs).length<=fs.length+1
 | []=>by simp[qW]
 | (k,x) :: r=>by
  have ih:=KK f v r;rw[show qW f v ((k,x) :: r)=(if k=f then (k,v) :: r else (k,x) :: qW f v r) from rfl];by_cases hk:k=f
  .rw[Tu hk,bo,bo];omega
  .rw[Tt hk,bo,bo];omega
theorem RelO.some_of{o:Option ad}(r:RelO (some v) o):∃u,o=some u/\RelV v u:=by
 cases o with
 | none=>exact (show False from r).elim
 | some u=>exact⟨u,rfl,r⟩
theorem jdH(r:RelV v u):Rb u=true:=by
 cases v with
 | non=>cases (show u=Value.none from r);rfl
 | bl b=>cases (show u=Value.bool b from r);rfl
 | int i=>obtain⟨t,e⟩:=(show ∃t,u=Value.int i t from r);cases e;rfl
 | str x=>obtain⟨t,e⟩:=(show ∃t,u=Value.str x t from r);cases e;rfl
 | byt b=>obtain⟨t,e⟩:=(show ∃t,u=Value.bytes b t from r);cases e;rfl
 | flt b=>obtain⟨t,e⟩:=(show ∃t,u=Value.float b t from r);cases e;rfl
 | ref a=>cases (show u=Value.ref a from r);rfl
 | ty n=>cases (show u=Value.type n from r);rfl
section
variable {fs io:List (Str×V)}
theorem jcy(hok:HOk P w H h)(e:H a=some (.ins C dx fs)):∃mA,ObjM h a dx C mA/\(∀f,RelO (fs.lookup f) (mA f))/\Dk mA (fs.map (·.1))/\fs.length<=1000/\H dx=some (.own a):=by
 obtain⟨d,z,ne,ob,mA,n,r,q⟩:=(show ObjOk P w H h a (.ins C dx fs) from hok a _ e)
 exact⟨mA,⟨ob,n,ne⟩,r,q,z,d⟩
end
structure Cls(K:av)(C:aa):Prop where
 pg:d_ K C eR=true
 hd:ef K C=true
 po:eP K C=true
 sa:aG K (.ref C) "__setattr__" = some (some (.builtin "object.__setattr__"))
theorem Cls.get(c:Cls K C)(f:Str):d_ K C f=true:=c.pg
def NoAttr(K:av)(C:aa)(f:Str):Prop:=aG K (.ref C) f=some none
theorem NoAttr.taker{f:Str}(n:NoAttr K C f):HN K C f=some none:=by
 unfold HN;rw[show aG K (.ref C) f=some none from n];rfl
section
variable {σ:St}{fs:List (Str×V)}{f:Str}
theorem jbY{b:Bool}{Q:ad->af->Prop}(I:Inv X ac σ H s)(e:H a=some (.ins C dx fs))(c:Cls X.K C)(n:NoAttr X.K C f)(l:fs.lookup f=some v)
  (h:∀u s',Inv X ac σ H s'->RelV v u->Q u s'):ah (am X.prog X.w) A (getAttr (.ref a) f b) Q E s:=by
 obtain⟨mA,O,r,_,_,_⟩:=jcy I.hok e
 obtain⟨u,hu,ru⟩:=RelO.some_of (v:=v) (o:=mA f) (by rw[<- l];exact r f)
 exact jgv I.kIn O (c.get f) c.hd n hu (jdH ru) (h u _ (I.tok _) ru)
theorem jbB(I:Inv X ac σ H s)(e:H a=some (.ins C dx fs))(c:Cls X.K C)(n:NoAttr X.K C f)(hl:fs.length < 1000)(ry:RelV y u)
  (h:∀s',Inv X ac σ (upd H a (.ins C dx (qW f y fs))) s'->Q () s'):ah (am X.prog X.w) A (setAttr (.ref a) f u) Q E s:=by
 obtain⟨mA,O,r,wi,_,ho⟩:=jcy I.hok e
 have hz:(fs.map (·.1)).length<=aF:=by rw[aC,eJ];omega
 refine jfU I.kIn O c.sa c.po n.taker c.hd wi hz fun h' O' sb=>h _ ?_
 have hd:∃o,h'.get? dx=some o:=let ⟨o,_,_,e',_⟩:=O'.ns;⟨o,e'⟩
 refine I.write (x:=a) (e:=dx) (by rw[e];exact True.intro) (.inr ho) (fun b q hb z=>(sb.2 b hb).trans z) hd ?_
 refine⟨by rw[jp O.ne];exact ho,?_,O.ne,O'.obj,_,O'.ns,fun g=>?_,fun g hg=>?_⟩
 .have:=KK f y fs;omega
 .show RelO ((qW f y fs).lookup g) (if g=f then some u else mA g)
  rw[KJ]
  by_cases q:g=f
  .rw[Tu q,Tu q];exact ry
  .rw[Tt q,Tt q];exact r g
 .by_cases q:g=f
  .rw[q];exact (Kr f y fs).1
  .refine (Kr f y fs).2 g (wi g fun z=>hg ?_)
   show (if g=f then some u else mA g)=none
   rw[Tt q];exact z
theorem Inv.made(I:Inv X ac σ H s):Inv X ac σ (upd (upd H s.heap.objs.size (.own (s.heap.objs.size+1))) (s.heap.objs.size+1) (.ins C s.heap.objs.size []))
  { s with heap:=(s.heap.push lr).push (mE C s.heap.objs.size) }:=by
 have e1:(s.heap.push lr).get? s.heap.objs.size=some lr:=bV s.heap rfl
 have e2:((s.heap.push lr).push (mE C s.heap.objs.size)).get? (s.heap.objs.size+1)=some (mE C s.heap.objs.size):=by
  have:=bV (s.heap.push lr) (o:=mE C s.heap.objs.size) rfl;rwa [lA]at this
 have e3:(s.heap.push lr).Ns s.heap.objs.size (fun _=>none):=⟨lr,#[],_,e1,rfl,(fun e he=>absurd he (by simp)),fun _=>rfl⟩
 have I1:=I.laid (a:=s.heap.objs.size) (o:=.own (s.heap.objs.size+1)) (h':=s.heap.push lr) (t':=s.toks) (fun b u q=>aQ _ q) (aB _) ⟨_,e1⟩
 refine I1.laid (a:=s.heap.objs.size+1) (o:=.ins C s.heap.objs.size []) (t':=s.toks) (fun b u q=>aQ _ q) (SI (lA _ _)) ?_
 have ne:s.heap.objs.size≠s.heap.objs.size+1:=aT (IY _)
 refine⟨by rw[jp ne,jb],bA _,ne,e2,fun _=>none,(au.Ns1.of_empty e3).at fun o q=>aQ _ q,fun _=>True.intro,fun y hy=>absurd rfl hy⟩
theorem jgF{prog:az}{env:Env}{f:Str}{Q:ad->af->Prop}(hb:n_ e f env (eval e env)=eval e env)
  (h:ah (am prog w) A (eval e env) (fun o s₁=>ah (am prog w) A (getAttr o f true) Q E s₁) E s):ah (am prog w) A (eval (.Attribute e f pos) env) Q E s:=
 Attribute_any_ h (by rw[arm_eval_Attribute,hb])
end
def jgZ(K:av)(ta:TE)(f:Str):TE:=fun σ H Q=>ta σ H fun x H1=>∃a C dx fs v,x=.ref a/\H1 a=some (.ins C dx fs)/\Cls K C/\NoAttr K C f/\fs.lookup f=some v/\Q v H1
def jiK(K:av)(ta tv:TE)(f:Str):TS:=fun D σ H=>tv σ H fun y H1=>ta σ H1 fun x H2=>∃a C dx fs,x=.ref a/\H2 a=some (.ins C dx fs)/\Cls K C/\NoAttr K C f/\fs.length < 1000/\
 D.nx σ (upd H2 a (.ins C dx (qW f y fs)))
section
variable {o value:aj}{f:Str}{fV tpos:Pos}{tv:TE}
theorem jeB(he:PE X e ta)(hb:n_ e f X.env (eval e X.env)=eval e X.env):PE X (.Attribute e f pos) (jgZ X.K ta f):=by
 intro ac s σ H Q I h;refine jgF hb (thn (he ac s σ H _ I h) fun u s1 hM=>?_);obtain⟨x,H1,I1,rx,a,C,dx,fs,v,ex,ea,c,n,l,q⟩:=hM;subst ex;obtain rfl:u=Value.ref a:=rx;exact jbY I1 ea c n l fun u' s2 I2 ru=>⟨v,H1,I2,ru,q⟩
end
structure Room(k:Nat)(A:aM):Prop where
 hd:A.handled=none
 dp:A.depth+3 * k+5 < recursionLimit
 un:A.units+16 * k+200 < cLine
 gd:A.guards=some []
theorem Room.mono{j k:Nat}(r:Room k A)(h:j<=k):Room j A:=⟨r.hd,by have:=r.dp;omega,by have:=r.un;omega,r.gd⟩
theorem Room.deeper{k:Nat}(r:Room (k+1) A)(env:Env):Room k (A.deeper env):=
 ⟨r.hd,by have:=r.dp;show A.depth+1+3 * k+5 < _;omega,by have:=r.un;show A.units+3+16 * k+200 < _;omega,r.gd⟩
theorem jbU:(A.under (.builtin "type.__call__" ⟨.ref C :: us,kw⟩)).depth=A.depth+1:=by
 first | rfl | simp[IJ,Code.weight,Code.isCreation,Code.isGuard,Code.isCaller,RS,Iv,guardIds]
theorem jbT:(A.under (.builtin "type.__call__" ⟨.ref C :: us,kw⟩)).units=A.units+1:=by
 first | rfl | simp[IJ,Code.cUnits,RS,Iv]
theorem jaW:(A.under (.builtin "type.__call__" ⟨.ref C :: us,kw⟩)).guards=A.guards:=by
 first | rfl | (cases A with | mk a b c d e=>cases d <;> rfl)
theorem Room.make{k:Nat}(r:Room (k+1) A)(C:aa)(us:List ad)(kw:List (Str×ad)):Room k (A.under (.builtin "type.__call__" ⟨.ref C :: us,kw⟩)):=
 ⟨r.hd,by have:=r.dp;rw[jbU];omega,by have:=r.un;rw[jbT];omega,by rw[jaW];exact r.gd⟩
theorem Room.depth{k:Nat}(r:Room k A):A.depth < recursionLimit:=by have:=r.dp;omega
theorem Room.units{k:Nat}(r:Room k A):A.units+64 < cLine:=by have:=r.un;omega
def jbx:TA:=fun _ H Q=>Q [] H
def jcc(ta:TE)(tr:TA):TA:=fun σ H Q=>ta σ H fun x H1=>tr σ H1 fun xs H2=>Q (x :: xs) H2
variable {es:List aj}{t:TA}
section
variable {te:TE}
theorem jeG:PA X [] jbx:=fun _ _ _ _ H Q I h=>RU ⟨[],H,I,.nil,h⟩
theorem jf2(ha:PE X e te)(hr:PA X es t)(hs:bT (e :: es) X.env=(false,eval e X.env) :: bT es X.env:=by rfl):PA X (e :: es) (jcc te t):=by
 intro pos ac s σ H Q I h;rw[hs];show ah _ _ (spliced ((false,eval e X.env) :: fM pos (bT es X.env))) _ _ s;refine Iw (thn (ha ac s σ H _ I h) fun u s1 hM=>?_);obtain⟨x,H1,I1,r1,q1⟩:=hM;exact thn (hr pos ac s1 σ H1 _ I1 q1) fun us s2 ⟨xs,H2,I2,r2,q2⟩=>⟨x :: xs,H2,I2,.cons r1 r2,q2⟩
def jhL(t:TA):TE:=fun σ H Q=>t σ H fun xs H1=>xs.length<=aF/\∀p,H1 p=none->Q (.ref p) (upd H1 p (.tup xs))
def jiB(t:TA):TE:=fun σ H Q=>t σ H fun xs H1=>xs.length<=aF/\∀p,H1 p=none->Q (.ref p) (upd H1 p (.lst xs))
theorem jex{x1}(h:PA X es t):PE X (.Tuple es x1 pos) (jhL t):=by
 intro ac s σ H Q I hq;refine wpAny_Tuple_spliced (thn (h pos ac s σ H _ I hq) fun us s1 ⟨xs,H1,I1,r,z,q⟩=>⟨by rw[<- r.length];exact z,?_⟩);have hf:H1 s1.heap.objs.size=none:=I1.hok.fresh (aB _);refine⟨.ref s1.heap.objs.size,upd H1 s1.heap.objs.size (.tup xs),I1.laid (t':=s1.toks) (fun b u e=>aQ _ e) (aB _) ?_,rfl,q _ hf⟩;exact⟨z,us,r,⟨_,bV _ rfl,rfl,_,rfl⟩⟩
end
abbrev Sp:=List V->Hp->VK->XK->Prop
abbrev CXT:=List Env->Hp->af->XK->ad->af->Prop
structure Env0(P:az)(w:ax)(K:av)(mg:Str->Option ad)(base:au)(A:aM)(outer:List Env)(s:af)(H:Hp):Prop where
 frames:A.frames=some outer
 mod:Mod K mg base
 bs:∀b o,base.get? b=some o->s.heap.get? b=some o/\H b=none
 bsz:base.objs.size<=s.heap.objs.size
 funs:s.heap.FunFrames base outer
 frf:∀b∈frs outer,H b=none
 hok:HOk P w H s.heap
 bare:iK s.gens
def CE(outer:List Env)(P:az)(w:ax)(H:Hp)(s:af)(Q:VK)(u:ad)(s':af):Prop:=
 ∃v H',s'.os=s.os/\iK s'.gens/\Un (frs outer) [] H H' s.heap s'.heap/\HOk P w H' s'.heap/\RelV v u/\Q v H'
def CR(CX:CXT)(outer:List Env)(P:az)(w:ax)(H:Hp)(s:af)(Q:VK)(E:XK)(r:ly)(s':af):Prop:=
 match r with
 | .ok (.ret u)=>CE outer P w H s Q u s'
 | .ok _=>False
 | .error e=>CX outer H s E e s'
structure FnOk(P:az)(w:ax)(K:av)(mg:Str->Option ad)(base:au)(CX:CXT)(k:Nat)(f:aa)(fd:aD)(ps:List Str)(sp:Sp):Prop where
 len:∀vs H Q E,sp vs H Q E->vs.length=ps.length
 run:∀(A:aM) (outer:List Env) (s:af) (H:Hp) (args:Args) (us:List ad) (vs:List V) (Q:VK) (E:XK),Room k A->Env0 P w K mg base A outer s H->oq s fd args (ps.zip us)->Vals vs us->sp vs H Q E->
  cD (am P w) A (.call (.ref f) args) (CR CX outer P w H s Q E) s
variable {mg:Str->Option ad}{base:au}
theorem Env0.make{outer:List Env}(e:Env0 P w K mg base A outer s H)(C:aa)(us:List ad)(kw:List (Str×ad)):
  Env0 P w K mg base (A.under (.builtin "type.__call__" ⟨.ref C :: us,kw⟩)) outer s H:=⟨by first | exact e.frames | (simpa[IJ,Code.envs,Iv,pushEnvs]using e.frames),e.mod,e.bs,e.bsz,e.funs,e.frf,e.hok,e.bare⟩
section
variable {σ:St}
theorem Inv.env0(I:Inv X ac σ H s):Env0 X.prog X.w X.K X.mg X.base X.A X.stack s H:=
 ⟨I.ok.frames,I.ok.mod,I.bs,aU I.ok.bsz I.sz,I.stack,I.stkFree,I.hok,I.bare⟩
theorem Inv.after{Q:VK}(I:Inv X ac σ H s)(h:CE X.stack X.prog X.w H s Q u s'):EP X ac σ Q u s':=by
 obtain⟨v,H',os,bare,un,hok,r,q⟩:=h;obtain⟨hh,g,d,t,o8⟩:=s';obtain rfl:o8=s.os:=os;exact⟨v,H',I.call (h':=hh) (g':=g) (d':=d) (t':=t) (ch:=[]) un hok bare (fun b z=>absurd z (by simp)),r,q⟩
end
def jaA(sp:Sp)(cJ:List V)(E:XK)(t:TA):TE:=fun σ H Q=>t σ H fun vs H1=>sp (vs++cJ) H1 Q E
def Ze(C:aa)(sp:Sp)(cJ:List V)(E:XK)(t:TA):TE:=fun σ H Q=>t σ H fun vs H1=>∀x dx,H1 x=none->H1 dx=none->dx≠x->
 sp (.ref x :: (vs++cJ)) (upd (upd H1 dx (.own x)) x (.ins C dx [])) (fun v H2=>v=.non/\Q (.ref x) H2) E
def Binds(K:av)(fd:aD)(ps:List Str)(ds:List ad):Prop:=
 ∀(s:af) (us:List ad),K.In s.heap->(us++ds).length=ps.length->oq s fd ⟨us,[]⟩ (ps.zip (us++ds))
variable {ps:List Str}
theorem Binds.all{fd:aD}(h:∀us:List ad,us.length=ps.length->bindArgs fd ⟨us,[]⟩=pure (ps.zip us)):Binds K fd ps []:=fun s us _ hl=>by
 rw[dl]at hl |-;exact .of_eq (h us hl)
def JB(CX:CXT)(X:Cx)(E:XK):Prop:=∀(ac:List (aa×Obj)) (σ:St) (H:Hp) (s:af) (e:ad) (s':af),Inv X ac σ H s->CX X.stack H s E e s'->X.xe e s'
variable {CX:CXT}{vs:List V}
section
variable {k:Nat}{fd:aD}{sp:Sp}{cJ:List V}{ds:List ad}{E:XK}{m:Str}{p fJ:Pos}{o:aj}
theorem jg7{σ:St}{Q:VK}(F:FnOk X.prog X.w X.K X.mg X.base CX k f fd ps sp)(hr:Room k X.A)(hb:Binds X.K fd ps ds)(hd:Vals cJ ds)(hx:JB CX X E)
  (I:Inv X ac σ H s) (r:Vals vs us) (h:sp (vs++cJ) H Q E):ah (am X.prog X.w) X.A (call (.ref f) us) (EP X ac σ Q) X.xe s:=by
 have r2:Vals (vs++cJ) (us++ds):=r.append hd
 have hl:(us++ds).length=ps.length:=by rw[<- r2.length];exact F.len _ _ _ _ h
 refine Db (lj (F.run X.A X.stack s H ⟨us,[]⟩ (us++ds) (vs++cJ) Q E hr I.env0 (hb s us I.kIn hl) r2 h) fun r s' hq=>?_)
 cases r with
 | error e=>exact hx ac σ H s e s' I hq
 | ok fl=>
  cases fl with
  | ret u=>exact I.after hq
  | next=>exact ez hq
  | brk=>exact ez hq
  | cont=>exact ez hq
theorem jcp(F:FnOk X.prog X.w X.K X.mg X.base CX k f fd ps sp)(hr:Room k X.A)(hg:Gl X x)(hm:X.mg x=some (.ref f))(hk:bQ X.K (.ref f)=true)(hb:Binds X.K fd ps ds)(hd:Vals cJ ds)(hx:JB CX X E)
  (ha:PA X (e :: es) t) (fj:(x == ("__debug__" : Str))=false:=by decide) (he:bT (e :: es) X.env=(false,eval e X.env) :: bT es X.env:=by rfl) (cy:(fM pos (bT es X.env)).any (·.1)=false:=by rfl) :
  PE X (.Call (.Name x p) (e :: es) [] pos) (jaA sp cJ E t):=by
 intro ac s σ H Q I h
 refine rJ (zS I hg hm ?_ fj)
 refine Re (h₀:=X.base) I.ok.mod.kin hk (thn (ha pos ac s σ H _ I h) fun us s1 ⟨vs,H1,I1,r,q⟩=>⟨I1.kIn,?_⟩) he cy
 exact jg7 F hr hb hd hx I1 r q
structure Mk(K:av)(C f:aa):Prop where
 makes:eQ K C=true
 init:aG K (.ref C) "__init__" = some (some (.ref f))
 fn:PySem.W.isFn K (.ref f)=true
 kp:bQ K (.ref C)=true
theorem jaI{σ:St}{Q:VK}(M:Mk X.K C f)(F:FnOk X.prog X.w X.K X.mg X.base CX k f fd ps sp)(hr:Room (k+1) X.A)(hb:Binds X.K fd ps ds)(hd:Vals cJ ds)
  (hx:JB CX X E) (I:Inv X ac σ H s) (r:Vals vs us)
  (h:∀x dx,H x=none->H dx=none->dx≠x->sp (.ref x :: (vs++cJ)) (upd (upd H dx (.own x)) x (.ins C dx [])) (fun v H2=>v=.non/\Q (.ref x) H2) E) :
  ah (am X.prog X.w) X.A (call (.ref C) us) (EP X ac σ Q) X.xe s:=by
 have hq:=h (s.heap.objs.size+1) s.heap.objs.size (I.hok.fresh (ox _)) (I.hok.fresh (aB _)) (aT (IY _))
 have I2:=Inv.made (C:=C) I
 have r2:Vals (V.ref (s.heap.objs.size+1) :: (vs++cJ)) (Value.ref (s.heap.objs.size+1) :: (us++ds)):=.cons rfl (r.append hd)
 have hl:(Value.ref (s.heap.objs.size+1) :: us++ds).length=ps.length:=by
  have e:=r2.length;rw[F.len _ _ _ _ hq]at e;exact e.symm
 refine Db (je5 (f:=f) I.kIn M.makes M.init (beq_iff_eq.mp M.fn) (lj (F.run _ X.stack _ _ ⟨Value.ref (s.heap.objs.size+1) :: us,[]⟩ (Value.ref (s.heap.objs.size+1) :: (us++ds)) _ _ E (hr.make C us [])
  (I2.env0.make C us []) (hb _ (Value.ref (s.heap.objs.size+1) :: us) I2.kIn hl) r2 hq) fun r s' lT=>?_))
 cases r with
 | error e=>exact hx ac σ _ _ e s' I2 lT
 | ok fl=>
  cases fl with
  | ret u=>
   obtain⟨v,H',I3,rv,ev,q3⟩:=I2.after lT
   subst ev
   exact⟨rv,⟨V.ref (s.heap.objs.size+1),H',I3,rfl,q3⟩⟩
  | next=>exact ez lT
  | brk=>exact ez lT
  | cont=>exact ez lT
theorem jfZ(M:Mk X.K C f)(F:FnOk X.prog X.w X.K X.mg X.base CX k f fd ps sp)(hr:Room (k+1) X.A)(hg:Gl X x)(hm:X.mg x=some (.ref C))(hb:Binds X.K fd ps ds)(hd:Vals cJ ds)(hx:JB CX X E)
  (ha:PA X (e :: es) t) (fj:(x == ("__debug__" : Str))=false:=by decide) (he:bT (e :: es) X.env=(false,eval e X.env) :: bT es X.env:=by rfl) (cy:(fM pos (bT es X.env)).any (·.1)=false:=by rfl) :
  PE X (.Call (.Name x p) (e :: es) [] pos) (Ze C sp cJ E t):=by
 intro ac s σ H Q I h
 refine rJ (zS I hg hm ?_ fj)
 refine Re (h₀:=X.base) I.ok.mod.kin M.kp (thn (ha pos ac s σ H _ I h) fun us s1 ⟨vs,H1,I1,r,q⟩=>⟨I1.kIn,?_⟩) he cy
 exact jaI M F hr hb hd hx I1 r q
theorem jez(M:Mk X.K C f)(F:FnOk X.prog X.w X.K X.mg X.base CX k f fd ps sp)(hr:Room (k+1) X.A)(hg:Gl X x)(hm:X.mg x=some (.ref C))(hb:Binds X.K fd ps ds)(hd:Vals cJ ds)(hx:JB CX X E)
  (fj:(x == ("__debug__" : Str))=false:=by decide):PE X (.Call (.Name x p) [] [] pos) (Ze C sp cJ E jbx):=by
 intro ac s σ H Q I h
 refine rJ (zS I hg hm ?_ fj)
 exact PySem.W.callWith_K0 I.kIn M.kp (jaI (us:=[]) M F hr hb hd hx I .nil h)
end
structure FnScope(N P:List Str)(sc:bO):Prop where
 kind:sc.kind=.function
 co:sc.isCoroutine=false
 gen:sc.isGenerator=false
 nd:N.Nodup
 pre:N.take P.length=P
 par:∀x∈P,sc.names.lookup x=some .local\/sc.names.lookup x=some .cell
 nofree:∀y∈sc.names,y.2≠.free
theorem ZG{kindOf:Str->Option gz}{x:Str}:∀{binds:List (Str×ad)} {m:Str->Option ad},(∀v,(x,v) ∉ binds)->bindL kindOf binds m x=m x
 | [],_,_=>rfl
 | (n,v) :: r,m,h=>by
  unfold bindL;rw[ZG fun w hw=>h w (bu _ hw)];split
  .have:x≠n:=by rintro rfl;exact h v bt
   simp[this]
  .rfl
theorem ZI{kindOf:Str->Option gz}{x:Str}:∀{binds:List (Str×ad)} {m:Str->Option ad},(∀v,(x,v) ∉ binds)->bindC kindOf binds m x=m x
 | [],_,_=>rfl
 | (n,v) :: r,m,h=>by
  unfold bindC;rw[ZI fun w hw=>h w (bu _ hw)];split
  .rfl
  .have:x≠n:=by rintro rfl;exact h v bt
   simp[this]
theorem ZH{kindOf:Str->Option gz}{x:Str}{v:ad}:∀{P:List Str} {vs:List ad} {i:Nat} {m:Str->Option ad},P.Nodup->P[i]?=some x->vs[i]?=some v->kindOf x=some .local->
  bindL kindOf (P.zip vs) m x=some v
 | [],_,_,_,_,h,_,_=>by simp at h
 | _ :: _,[],_,_,_,_,h,_=>by simp at h
 | p :: P,w :: vs,0,m,nd,h1,h2,hk=>by
  simp at h1 h2;subst h1;subst h2;show bindL kindOf ((p,w) :: P.zip vs) m p=_;unfold bindL;rw[ZG fun v hv=>(cW.mp nd).1 (Lf hv).1,Tu hk];simp
 | p :: P,w :: vs,i+1,m,nd,h1,h2,hk=>by
  show bindL kindOf ((p,w) :: P.zip vs) m x=_;unfold bindL;exact ZH (i:=i) (cW.mp nd).2 (by simpa using h1) (by simpa using h2) hk
theorem ZJ{kindOf:Str->Option gz}{x:Str}{v:ad}:∀{P:List Str} {vs:List ad} {i:Nat} {m:Str->Option ad},P.Nodup->P[i]?=some x->vs[i]?=some v->kindOf x≠some .local->
  bindC kindOf (P.zip vs) m x=some v
 | [],_,_,_,_,h,_,_=>by simp at h
 | _ :: _,[],_,_,_,_,h,_=>by simp at h
 | p :: P,w :: vs,0,m,nd,h1,h2,hk=>by
  simp at h1 h2;subst h1;subst h2;show bindC kindOf ((p,w) :: P.zip vs) m p=_;unfold bindC;rw[ZI fun v hv=>(cW.mp nd).1 (Lf hv).1,Tt hk];simp
 | p :: P,w :: vs,i+1,m,nd,h1,h2,hk=>by
  show bindC kindOf ((p,w) :: P.zip vs) m x=_;unfold bindC;exact ZJ (i:=i) (cW.mp nd).2 (by simpa using h1) (by simpa using h2) hk
def zr(N:List Str)(vs:List V):St:=vs.map some++DT (N.length - vs.length) none
def j5(CX:CXT)(P:az)(w:ax)(K:av)(mg:Str->Option ad)(base:au)(N:List Str)(aX:Str)(scope:bO)(f:aa)(cd:ad)(A:aM)(outer:List Env)(s:af)(H:Hp)(E:XK):Cx where
 prog:=P
 w:=w
 K:=K
 mg:=mg
 base:=base
 A:=A.deeper (envOfC aX scope s.heap.objs.size f cd)
 N:=N
 s₀:=s
 H₀:=H
 env:=envOfC aX scope s.heap.objs.size f cd
 outer:=outer
 stack:=envOfC aX scope s.heap.objs.size f cd :: outer
 ex:=[]
 calm:=true
 fn:=fun _=>true
 pn:=[]
 xe:=fun e s'=>ah (am P w) (A.deeper (envOfC aX scope s.heap.objs.size f cd)) (leaving (envOfC aX scope s.heap.objs.size f cd) e) (fun _ fU=>CX outer H s E e fU) (fun e' fU=>CX outer H s E e' fU) s'
theorem jbm{sc:bO}{n:Nat}(h:sc.names.lookup x=some .cell):∃c,(Hy n sc.names []).lookup x=some c:=by
 have q:=Rc sc.names n [] (.inl h);exact vZ.mp q
theorem jdE{N:List Str}{aX:Str}{scope:bO}{cd:ad}{outer:List Env}{s1:af}{E:XK}
  (S:FnScope N ps scope) (hd:A.handled=none) (e0:Env0 P w K mg base A outer s H) (hl:vs.length=ps.length) (r:Vals vs us)
  (x:InCallC s s.heap.objs.size (bindL (envOfC aX scope s.heap.objs.size f cd).kindOf (ps.zip us) fun _=>none) (Hy (s.heap.objs.size+1) scope.names []) (bindC (envOfC aX scope s.heap.objs.size f cd).kindOf (ps.zip us) fun _=>none) s1) :
  Inv (j5 CX P w K mg base N aX scope f cd A outer s H E) [] (zr N vs) H s1:=by
 have cy:ps.length<=N.length:=by have:=Tw lC S.pre;rw[cM]at this;omega
 obtain⟨h1,tk,rfl,hk⟩:=x.done
 have pd:∀b:aa,b ∉ (j5 CX P w K mg base N aX scope f cd A outer s H E).ex:=fun b z=>absurd (show b∈([]:List aa) from z) (by simp)
 refine⟨⟨e0.mod,S.kind,rfl,rfl,aB _,fun y z c h1 h2=>?_,fun y hy=>?_,fun y c _ h=>?_,fun _=>hd,aM.frames_deeper e0.frames,.inr ⟨rfl,rfl⟩,fun b z=>absurd z (pd b),e0.bs,e0.bsz,fun b _ _=>pd b,fun b z=>absurd z (pd b),e0.funs,e0.frf⟩,
  rfl,e0.bare,Un.kept hk,⟨_,x.toInCall.ns,fun i y v h1 h2 h3=>?_⟩,fun y c h=>⟨_,x.cell y c h⟩,e0.hok.fresh (aB _),fun y c h=>?_,fun p hp=>absurd (show p∈([]:List (aa×Obj)) from hp) (by simp),e0.hok.kept hk,?_⟩
 .exact name_of_addr x.apart (mC h1) (mC h2)
 .have hy:scope.names.lookup y=some .cell\/scope.names.lookup y=some .free:=hy
  rcases hy with hy | hy
  .exact jbm hy
  .exact absurd rfl (S.nofree _ (mC hy))
 .exact cP (x.above y c (mC h))
 .have hi:i < vs.length:=by
   unfold zr at h2;by_cases hi:i < vs.length
   .exact hi
   .rw[Lk (by simpa using hi)]at h2
    rw[List.getElem?_replicate]at h2;split at h2 <;> cases h2
  have ha:vs[i]?=some v:=by
   unfold zr at h2;rw[S4 (by simpa using hi),bU]at h2
   cases e:vs[i]? with
   | none=>rw[e]at h2;cases h2
   | some a=>rw[e]at h2;cases h2;rfl
  obtain⟨u,hu,rv⟩:=r.get ha;have hp:ps[i]?=some y:=by
   rw[<- S.pre,List.getElem?_take_of_lt (by omega)];exact h1
  have EL:ps.Nodup:=by rw[<- S.pre];exact S.nd.sublist (SK _ _)
  refine⟨u,rv,?_⟩;rcases S.par y (Lg hp) with k | k
  .exact .inl ⟨k,ZH EL hp hu k⟩
  .obtain⟨c,e⟩:=jbm (n:=s.heap.objs.size+1) k
   refine .inr ⟨.inl k,c,e,?_⟩;have q:=x.cell y c e;rw[ZJ EL hp hu (by show scope.names.lookup y≠_;rw[k];decide)]at q;exact q
 .exact e0.hok.fresh (cP (x.above y c (mC h)))
 .unfold zr
  show _=N.length
  rw[aO,aC,SX]
  omega
theorem jfe{k:Nat}{name aX:Str}{params:Arguments}{body:List aA}{scope:bO}{dV kV cn pm ay ct oc:ad}{an od:Option aa}
  {fu:Array (Option ad)} {N ps:List Str} {sp:Sp} (lk:K.lookup f=some ⟨oc,od,.func (iF name aX params body scope dV kV cn pm an ay ct),fu⟩) (cR:dj K ay aX=true) (S:FnScope N ps scope)
  (len:∀vs H Q E,sp vs H Q E->vs.length=ps.length)
  (im:∀(A:aM) (outer:List Env) (s:af) (H:Hp) (vs:List V) (Q:VK) (E:XK),Room k (A.deeper (envOfC aX scope s.heap.objs.size f ay))->sp vs H Q E->
   ∃t,PSs (j5 CX P w K mg base N aX scope f ay A outer s H E) body t/\t { nx:=fun _ H'=>Q .non H',rt:=Q } (zr N vs) H) :
  FnOk P w K mg base CX (k+1) f (iF name aX params body scope dV kV cn pm an ay ct) ps sp:=by
 refine⟨len,fun A outer s H args us vs Q E hr e0 hb r cQ=>?_⟩
 have hl:=len _ _ _ _ cQ
 have KX:K.In s.heap:=e0.mod.kin.keeps fun b o e=>(e0.bs b o e).1
 have Mr:s.heap.NoLimit:=e0.mod.nolimit.keeps fun b o e=>(e0.bs b o e).1
 have NV:∀y∈ps.zip us,scope.names.lookup y.1=some .local\/(scope.names.lookup y.1=some .cell/\((Hy (s.heap.objs.size+1) scope.names []).lookup y.1).isSome=true):=fun⟨n,v⟩ hy=>by
  rcases S.par n (Lf hy).1 with q | q
  .exact .inl q
  .exact .inr ⟨q,Rc _ _ _ (.inl q)⟩
 refine codeAny_call_function hr.depth (KX _ _ lk) rfl S.co S.gen rfl (PySem.W.codeRec_of KX cR) (hb _ _ _ _ ?_)
 refine wpAny_newFunctionEnv_cells S.kind NV fun env he s1 x=>?_
 subst he
 refine⟨Mr.keeps x.toInCall.keep,codeAny_func ?_⟩
 obtain⟨t,ht,hq⟩:=im A outer s H vs Q E (hr.deeper _) cQ
 have I:Inv (j5 CX P w K mg base N aX scope f ay A outer s H E) [] (zr N vs) H s1:=jdE S hr.hd e0 hl r x
 refine bi (ht [] s1 (zr N vs) H _ I hq) (fun fl s' hs=>?_) fun e s' hs=>hs
 have fin:∀{σ':St} {H':Hp} {v:V} {u:ad},Inv (j5 CX P w K mg base N aX scope f ay A outer s H E) [] σ' H' s'->RelV v u->Q v H'->CE outer P w H s Q u s':=
  fun {σ' H' v u} J rv q=>⟨v,H',J.os,J.bare,J.base,J.hok,rv,q⟩
 cases fl with
 | ret u=>
  obtain⟨v,σ',H',J,rv,q⟩:=hs
  exact fin J rv q
 | next=>
  obtain⟨σ',H',J,q⟩:=hs
  exact fin (v:=V.non) (u:=Value.none) J rfl q
 | brk=>
  obtain⟨_,_,_,q⟩:=hs
  exact ez q
 | cont=>
  obtain⟨_,_,_,q⟩:=hs
  exact ez q
section
variable {p:Pos}{id T:String}{r:List V->Hp->VK->Prop}
def tCB(r:List V->Hp->VK->Prop)(t:TA):TE:=fun σ H Q=>t σ H fun vs H1=>r vs H1 Q
theorem jeD(hc:qX X (.builtin id) r)(hg:Gl X x)(hm:X.mg x=none)(hv:eL x=some (.builtin id))(ha:PA X (e :: es) t)(hn:x≠"__name__":=by decide)(fj:(x == ("__debug__" : Str))=false:=by decide)
  (he:bT (e :: es) X.env=(false,eval e X.env) :: bT es X.env:=by rfl) (cy:(fM pos (bT es X.env)).any (·.1)=false:=by rfl):PE X (.Call (.Name x p) (e :: es) [] pos) (tCB r t):=by
 intro ac s σ H Q I h
 refine rJ (Yx I hg hm hv ?_ hn fj)
 exact PyProof.Rows.callWith_builtin1 (thn (ha pos ac s σ H _ I h) fun us s1 ⟨vs,H1,I1,r1,q1⟩=>hc ac s1 σ H1 vs us Q I1 r1 q1) he cy
theorem jc8(hc:qX X (.type T) r)(hg:Gl X x)(hm:X.mg x=none)(hv:eL x=some (.type T))(ha:PA X (e :: es) t)(hn:x≠"__name__":=by decide)(fj:(x == ("__debug__" : Str))=false:=by decide)
  (he:bT (e :: es) X.env=(false,eval e X.env) :: bT es X.env:=by rfl) (cy:(fM pos (bT es X.env)).any (·.1)=false:=by rfl):PE X (.Call (.Name x p) (e :: es) [] pos) (tCB r t):=by
 intro ac s σ H Q I h
 refine rJ (Yx I hg hm hv ?_ hn fj)
 exact DI (thn (ha pos ac s σ H _ I h) fun us s1 ⟨vs,H1,I1,r1,q1⟩=>hc ac s1 σ H1 vs us Q I1 r1 q1) he cy
end
end L2
namespace HT
open PySem PyProof.Rows
section
variable {prog:az}{w:ax}{A:aM}{E:ad->af->Prop}{s:af}
theorem cat_tup{t b:aa}{vs ws:List ad}{Q:ad->af->Prop}(ht:IsTup s.heap t vs.toArray)(hb:IsTup s.heap b ws.toArray)(hv:vs≠[])
  (h1:ws=[]->Q (.ref t) s) (h2:ws≠[]->Q (.ref s.heap.objs.size) { s with heap:=s.heap.push { cls:=.type "tuple",data:=.seq (vs++ws).toArray } })
  (hsz:vs.length+ws.length<=aF):ah (am prog w) A (eM .Add (.ref t) (.ref b)) Q E s:=by
 obtain⟨⟨cls,dd,data,sl⟩,ho,hc,n,hd⟩:=id ht
 obtain⟨⟨O1,ui,data2,sW⟩,dW,il,n2,fD⟩:=id hb
 simp only at hc hd il fD
 subst hc hd il fD
 have e:vs.toArray++ws.toArray=(vs++ws).toArray:=by simp
 by_cases hw:ws=[]
 .exact Hu ⟨_,ho,rfl⟩ ⟨_,dW,rfl⟩ Hk Hh Il Iq (Ir _ _)
   (tuple_addW1 t b vs.toArray ws.toArray n n2 dd ui sl sW (by simpa using hv) (by simp[hw])) ⟨ho,dW,h1 hw⟩
 .refine Hu ⟨_,ho,rfl⟩ ⟨_,dW,rfl⟩ Hk Hh Il Iq (Ir _ _)
   (tuple_addW2 t b vs.toArray ws.toArray n n2 dd ui sl sW (by simpa using hv) (by simpa using hw) (by rw[bP,bP];exact hsz)) ⟨ho,dW,?_⟩
  rw[e]
  exact h2 hw
def sIx(n d:Nat):Option Int->Nat
 | none=>d
 | some v=>if v < 0 then (v+(n:Int)).toNat else min v.toNat n
theorem sIx_none(n d:Nat):sIx n d none=d:=rfl
theorem sIx_nat(n d k:Nat):sIx n d (some (k:Int))=min k n:=by
 show (if (k:Int) < 0 then ((k:Int)+(n:Int)).toNat else min (k:Int).toNat n)=min k n;rw[Tt (by omega),oE]
theorem jg6(n d:Nat)(hd:d<=n)(o:Option Int):sIx n d o<=n:=by
 cases o with
 | none=>exact hd
 | some v=>
  show (if v < 0 then (v+(n:Int)).toNat else min v.toNat n)<=n;by_cases hv:v < 0
  .rw[Tu hv];omega
  .rw[Tt hv];exact Nat.min_le_right _ _
theorem jcJ(v:Int)(n d:Nat):(if v < 0 then max (v+(n:Int)) 0 else min v (n:Int))=((sIx n d (some v):Nat):Int):=by
 show (if v < 0 then max (v+(n:Int)) 0 else min v (n:Int))=(((if v < 0 then (v+(n:Int)).toNat else min v.toNat n):Nat):Int);by_cases hv:v < 0
 .simp only[Tu hv];omega
 .simp only[Tt hv];omega
theorem jb6(lo hi:Option Int)(n:Nat):Iz lo hi 1 (n:Int)=(((sIx n 0 lo:Nat):Int),((sIx n n hi:Nat):Int)):=by
 have h1:¬((1:Int) < 0):=by omega
 unfold Iz;simp only[h1,if_false];refine Prod.ext ?_ ?_
 .cases lo with
  | none=>rfl
  | some v=>exact jcJ v n 0
 .cases hi with
  | none=>rfl
  | some v=>exact jcJ v n n
theorem jbD(i j:Nat):DE (i:Int) (j:Int) 1=j - i:=by
 unfold DE;have h1:(1:Int) > 0:=by omega
 simp only[h1,if_true,Int.ediv_one];split <;> omega
theorem Yg{v:ad}{o:Option Int}{Q:Option Int->af->Prop}(p:mF v o)(h:Q o s):ah (am prog w) A (Builtin.Slice.slicePartIndex v) Q E s:=by
 cases p with
 | none=>exact slicePart_none h
 | int i t=>exact slicePart_int h
theorem Kl{sl:aa}{vl vu:ad}{lo hi:Option Int}{n:Nat}{Q:Int×Int×Nat->af->Prop}(hs:s.heap.IsSliceOf sl vl vu .none)(pl:mF vl lo)(pu:mF vu hi)
  (h:Q (((sIx n 0 lo:Nat):Int),1,sIx n n hi - sIx n 0 lo) s):ah (am prog w) A (RZ (.ref sl) (pure (n:Int))) Q E s:=by
 obtain⟨os,ib,iZ,tU⟩:=id hs
 unfold RZ Builtin.Slice.sliceFields
 refine ae (ae (fL ib tU (x:=vl) rfl (ae (fL ib tU (x:=vu) rfl (ae (fL ib tU (x:=.none) rfl (aq ?_)))))))
 refine ae (slicePart_none ?_)
 show ah _ _ (if ((1:Int) == 0)=true then _ else _) _ _ s
 rw[Tt (by decide)]
 refine ae (Yg pl (ae (Yg pu (ae (aq ?_)))))
 show ah _ _ (match Iz lo hi 1 (n:Int) with | (lo,hi)=>pure (lo,(1:Int),DE lo hi 1)) _ _ s
 rw[jb6 lo hi n]
 show ah _ _ (pure (((sIx n 0 lo:Nat):Int),(1:Int),DE ((sIx n 0 lo:Nat):Int) ((sIx n n hi:Nat):Int) 1)) _ _ s
 rw[jbD]
 exact aq h
theorem jeu(xs:Array ad)(i k:Nat):((bL k).filterMap fun (m:Nat)=>xs[((i:Int)+(m:Int) * 1).toNat]?).toArray=((xs.toList.drop i).take k).toArray:=by
 have e:(fun (m:Nat)=>xs[((i:Int)+(m:Int) * 1).toNat]?)=fun m=>xs[i+m]?:=by
  funext m;have:((i:Int)+(m:Int) * 1).toNat=i+m:=by omega
  rw[this]
 rw[e];have:=pick_run xs i k;rw[List.filterMap_map]at this;have e2:((fun x=>xs[x]?) ∘ fun x=>i+x)=fun m=>xs[i+m]?:=rfl
 rw[e2]at this;rw[this]
theorem getItem_tuple_cut{t sl:aa}{items:Array ad}{vl vu:ad}{lo hi:Option Int}{Q:ad->af->Prop}(ht:IsTup s.heap t items)(hs:s.heap.IsSliceOf sl vl vu .none)(pl:mF vl lo)(pu:mF vu hi)
  (hw:¬(sIx items.size 0 lo=0/\sIx items.size items.size hi=items.size))
  (h:Q (.ref s.heap.objs.size) { s with heap:=s.heap.push { cls:=.type "tuple",data:=.seq ((items.toList.drop (sIx items.size 0 lo)).take (sIx items.size items.size hi - sIx items.size 0 lo)).toArray } })
  (hsz:items.size<=aF):ah (am prog w) A (mD (.ref t) (.ref sl)) Q E s:=by
 have tK:sizeOk (.seq ((items.toList.drop (sIx items.size 0 lo)).take (sIx items.size items.size hi - sIx items.size 0 lo)).toArray):=by
  show ((items.toList.drop (sIx items.size 0 lo)).take (sIx items.size items.size hi - sIx items.size 0 lo)).toArray.size<=aF;rw[bP,cM,we,cF];omega
 have hj:sIx items.size items.size hi<=items.size:=jg6 _ _ (aB _) hi
 obtain⟨os,ib,iZ,tU⟩:=id hs
 have Oy:s.TypeIs (.ref sl) "slice":=⟨os,ib,iZ⟩
 unfold mD
 try with_reducible refine dr ?_
 first | refine ae (aq ?_) | skip
 refine ae (wpAny_sequenceKey ht.typeIs (by decide) ?_)
 refine ae (rH (name:=bx "__getitem__") ht.typeIs IN
  (iA IN ht.typeIs entry_tuple_getitem ?_ (args_tuple_getitem _ _)))
 show ah _ _ (Builtin.Tuple.tupleItemsOf (.ref t) >>= _) _ _ s
 refine ae (tupleItemsOf_ ht ?_)
 refine ae (C6 Oy ?_)
 rw[Tu (by decide)]
 refine ae (Kl hs pl pu ?_)
 have lW:¬((((sIx items.size 0 lo:Nat):Int) == 0 && (1:Int) == 1 && (sIx items.size items.size hi - sIx items.size 0 lo) == items.size)=true):=by
  intro q;rw[cm,cm]at q;have q1:((sIx items.size 0 lo:Nat):Int)=0:=eq_of_beq q.1.1;have q2:sIx items.size items.size hi - sIx items.size 0 lo=items.size:=eq_of_beq q.2;exact hw ⟨by omega,by omega⟩
 show ah _ _ (if (((sIx items.size 0 lo:Nat):Int) == 0 && (1:Int) == 1 && (sIx items.size items.size hi - sIx items.size 0 lo) == items.size)=true then _ else _) _ _ s
 rw[Tt lW,jeu]
 first
  | exact ae (m:=DC _) (dY (aq ⟨_,rfl,aq h⟩) tK)
  | exact ae (m:=DC _) (dY (ae (aq (aq ⟨_,rfl,aq h⟩))) tK)
  | exact ae (ae (m:=DC _) (dY (aq (aq ⟨_,rfl,aq h⟩)) tK))
  | exact ae (ae (m:=DC _) (dY (aq ⟨_,rfl,aq h⟩) tK))
end
end HT
namespace L2
open PySem PySem.Spec PyProof.Rows
abbrev TO:=St->Hp->(Option Int->Hp->Prop)->Prop
def PO(X:Cx)(e:Option aj)(t:TO):Prop:=
 ∀(ac:List (aa×Obj)) (s:af) (σ:St) (H:Hp) (Q:Option Int->Hp->Prop),Inv X ac σ H s->t σ H Q->
  ah (am X.prog X.w) X.A (evalPart e X.env) (fun u s'=>∃o H',Inv X ac σ H' s'/\mF u o/\Q o H') X.xe s
def jfO:TO:=fun _ H Q=>Q none H
def jhR(t:TE):TO:=fun σ H Q=>t σ H fun x H1=>∃i,x=.int i/\Q (some i) H1
variable {X:Cx}{pos:Pos}{xs:List V}{us:List ad}
section
variable {e:aj}{te:TE}{lo hi:Option aj}{tl th:TO}{p2:Pos}
def SlR(X:Cx)(r:V->Option Int->Option Int->Hp->VK->Prop):Prop:=
 ∀(ac:List (aa×Obj)) (s:af) (σ:St) (H:Hp) (x:V) (v vl vu:ad) (lo hi:Option Int) (sl:aa) (Q:VK),Inv X ac σ H s->RelV x v->s.heap.IsSliceOf sl vl vu .none->mF vl lo->mF vu hi->r x lo hi H Q->
  ∃T id,Ha (.type T) "__getitem__" = pure (some (.builtin id))/\s.TypeIs v T/\ah (am X.prog X.w) X.A (mD v (.ref sl)) (EP X ac σ Q) X.xe s
def tSl(r:V->Option Int->Option Int->Hp->VK->Prop)(te:TE)(tl th:TO):TE:=fun σ H Q=>te σ H fun x H1=>tl σ H1 fun l H2=>th σ H2 fun u H3=>r x l u H3 Q
def qo(xs:List V)(lo hi:Option Int):List V:=(xs.drop (HT.sIx xs.length 0 lo)).take (HT.sIx xs.length xs.length hi - HT.sIx xs.length 0 lo)
theorem KP(xs:List V)(lo hi:Option Int):(qo xs lo hi).length<=xs.length:=by
 unfold qo;rw[cM,we];omega
def jiL(K:av):V->Option Int->Option Int->Hp->VK->Prop:=fun x lo hi H Q=>∃a xs,x=.ref a/\SqT K H a xs/\
 ¬(HT.sIx xs.length 0 lo=0/\HT.sIx xs.length xs.length hi=xs.length)/\∀p,H p=none->Q (.ref p) (upd H p (.tup (qo xs lo hi)))
theorem zZ:SlR X (jiL X.K):=by
 intro ac s σ H x v vl vu lo hi sl Q I rx hs pl pu h;obtain⟨a,xs,rfl,hx,hw,q⟩:=h
 cases rx
 obtain⟨its,r,ht,hz⟩:=I.tuple hx;have hlen:its.toArray.size=xs.length:=by rw[bP];exact r.length.symm
 refine⟨"tuple",_,IN.lookup,ht.typeIs,?_⟩;refine HT.getItem_tuple_cut ht hs pl pu (by rw[hlen];exact hw) ?_ (by rw[hlen];exact hz);rw[hlen];refine⟨.ref s.heap.objs.size,_,I.laid (t':=s.toks) (o:=.tup (qo xs lo hi)) (fun b ob q=>aQ _ q) (aB _) ?_,rfl,q _ (I.hok.fresh (aB _))⟩;exact⟨aU (KP xs lo hi) hz,_,(r.drop (HT.sIx xs.length 0 lo)).take (HT.sIx xs.length xs.length hi - HT.sIx xs.length 0 lo),DK _ _⟩
def jh8(K:av):R2:=fun x y H Q=>∃a b xs ys,x=.ref a/\y=.ref b/\SqT K H a xs/\SqT K H b ys/\xs≠[]/\xs.length+ys.length<=aF/\
 (ys=[]->Q (.ref a) H)/\(ys≠[]->∀p,H p=none->Q (.ref p) (upd H p (.tup (xs++ys))))
theorem Vals.nil_iff(r:Vals xs us):us=[]↔xs=[]:=by
 cases r with
 | nil=>simp
 | cons _ _=>simp
theorem jf5:OpR X (eM .Add) (jh8 X.K):=by
 intro ac s σ H x y v u Q I rx ry h;obtain⟨a,b,xs,ys,rfl,rfl,ha,hb,hx,hz,q1,q2⟩:=h
 cases rx
 cases ry
 obtain⟨its,r1,p1,_⟩:=I.tuple ha;obtain⟨aS,r2,p2,_⟩:=I.tuple hb;refine HT.cat_tup p1 p2 (fun z=>hx (r1.nil_iff.mp z)) (fun z=>⟨.ref a,H,I,rfl,q1 (r2.nil_iff.mp z)⟩) (fun z=>?_) (by rw[<- r1.length,<- r2.length];exact hz);refine⟨.ref s.heap.objs.size,_,I.laid (t':=s.toks) (o:=.tup (xs++ys)) (fun b ob q=>aQ _ q) (aB _) ?_,rfl,q2 (fun w=>z (r2.nil_iff.mpr w)) _ (I.hok.fresh (aB _))⟩;exact⟨by rw[aO];exact hz,_,r1.append r2,DK _ _⟩
end
def ixN(n:Nat)(i:Int):Option Nat:=if 0<=i then (if i < n then some i.toNat else none) else if -(n:Int)<=i then some (i+n).toNat else none
def atI{α:Type}(xs:List α)(i:Int):Option α:=(ixN xs.length i).bind fun j=>xs[j]?
variable {n:Nat}
theorem jcx{i:Int}{j:Nat}(h:ixN n i=some j):seqIndex? i n=some j/\j < n/\-(n:Int)<=i/\i < n:=by
 unfold ixN at h;by_cases h0:0<=i
 .rw[Tu h0]at h
  by_cases h1:i < n
  .rw[Tu h1]at h
   have e:i.toNat=j:=bZ h;exact⟨by rw[Hi h0 h1,e],by omega,by omega,h1⟩
  .rw[Tt h1]at h;cases h
 .rw[Tt h0]at h
  by_cases h1:-(n:Int)<=i
  .rw[Tu h1]at h
   have e:(i+n).toNat=j:=bZ h;exact⟨by rw[seqIndex_neg (by omega) h1,e],by omega,h1,by omega⟩
  .rw[Tt h1]at h;cases h
theorem jcL{α:Type}{xs:List α}{i:Int}{v:α}(h:atI xs i=some v):∃j,seqIndex? i xs.length=some j/\xs[j]?=some v/\j < xs.length/\-(xs.length:Int)<=i/\i < xs.length:=by
 unfold atI at h
 cases e:ixN xs.length i with
 | none=>rw[e]at h;cases h
 | some j=>
  rw[e]at h;obtain⟨h1,h2,h3,h4⟩:=jcx e;exact⟨j,h1,h,h2,h3,h4⟩
theorem jH{α:Type}{xs:List α}{j:Nat}{v:α}(h:xs[j]?=some v):atI xs (j:Int)=some v:=by
 have hj:j < xs.length:=(aY.mp h).1;have e:ixN xs.length (j:Int)=some j:=by
  unfold ixN;rw[Tu (by omega),Tu (by omega)];simp
 unfold atI;rw[e];exact h
theorem jfw{α:Type}(xs:List α)(v:α):atI (xs++[v]) (-1)=some v:=by
 have hl:(xs++[v]).length=xs.length+1:=by simp
 have e:ixN (xs++[v]).length (-1)=some xs.length:=by
  unfold ixN;rw[hl,Tt (by decide),Tu (by omega)];congr 1;omega
 unfold atI;rw[e];show (xs++[v])[xs.length]?=some v;simp
def jgI(b:aj):Prop:=∀o i,subscripted b false o i=operate [o,i] (mD o i)
def IxR(X:Cx)(r:R2):Prop:=
 ∀(value hO:aj) (ac:List (aa×Obj)) (s:af) (σ:St) (H:Hp) (x y:V) (v u:ad) (Q:VK),Inv X ac σ H s->RelV x v->RelV y u->r x y H Q->
  subscripted hO false v u=operate [v,u] (mD v u)->ah (am X.prog X.w) X.A (IK value hO v u) (EP X ac σ Q) X.xe s
def MtR(X:Cx)(id:String)(r:V->List V->Hp->VK->Prop):Prop:=
 ∀(ac:List (aa×Obj)) (s:af) (σ:St) (H:Hp) (x:V) (xs:List V) (v:ad) (us:List ad) (Q:VK),Inv X ac σ H s->RelV x v->Vals xs us->r x xs H Q->
  ah (am X.prog X.w) X.A (call (.builtin id) (v :: us)) (EP X ac σ Q) X.xe s
variable {ac:List (aa×Obj)}{H:Hp}{s:af}{its:List ad}{A:aM}{y x:V}{u:ad}{T:String}
section
variable {a b:aj}{ta tb:TE}
def jh7(K:av):R2:=fun x y H Q=>∃p xs i v,x=.ref p/\y=.int i/\SqL K H p xs/\atI xs i=some v/\Q v H
def jh6(K:av):R2:=fun x y H Q=>∃p xs i v,x=.ref p/\y=.int i/\SqT K H p xs/\atI xs i=some v/\Q v H
theorem qx:IxR X (jh7 X.K):=by
 intro value hO ac s σ H x y v u Q I rx ry h hs;obtain⟨p,xs,i,z,rfl,rfl,hq,he,q⟩:=h
 cases rx
 obtain⟨t,rfl⟩:=ry;obtain⟨its,r,pl,hz⟩:=I.list hq;obtain⟨j,h1,h2,h3,h4,h5⟩:=jcL he;obtain⟨w,ew,e_⟩:=r.get h2;have hl:=r.length;have hn:=Yv;have fin:EP X ac σ Q w s:=⟨z,H,I,e_,q⟩
 by_cases h0:0<=i
 .have hj:i.toNat=j:=by
   rw[Hi h0 h5]at h1;exact bZ h1
  exact item_listR pl.isList h0 (by omega) (by rw[hj];simpa using ew) fin hs
 .have hj:(i+(its.toArray.size:Int)).toNat=j:=by
   rw[seqIndex_neg (by omega) h4]at h1;rw[bP,<- hl];exact bZ h1
  exact R_ (x:=w) pl.isList.typeIs Qf.lookup
   (wpAny_getItem_list_neg (Q:=fun r s'=>r=w/\EP X ac σ Q r s') pl.isList (by omega) (by rw[bP] <;> omega) (by omega) (by rw[hj];simpa using ew) ⟨rfl,fin⟩) hs
theorem jE:IxR X (jh6 X.K):=by
 intro value hO ac s σ H x y v u Q I rx ry h hs;obtain⟨p,xs,i,z,rfl,rfl,hq,he,q⟩:=h
 cases rx
 obtain⟨t,rfl⟩:=ry;obtain⟨its,r,pl,hz⟩:=I.tuple hq;obtain⟨j,h1,h2,h3,h4,h5⟩:=jcL he;obtain⟨w,ew,e_⟩:=r.get h2;have hl:=r.length;have hn:=Yv;have fin:EP X ac σ Q w s:=⟨z,H,I,e_,q⟩
 exact R_ (x:=w) pl.typeIs slot_tuple_getitem.lookup
  (getItem_tuple (j:=j) (Q:=fun r s'=>r=w/\EP X ac σ Q r s') pl (by omega) (by omega) (by rw[bP,<- hl];exact h1) (by simpa using ew) ⟨rfl,fin⟩) hs
theorem jbS(its:List ad)(n j:Nat)(u:ad):dF (·.setIfInBounds j u) { cls:=.type "list",data:=.seq its.toArray n }={ cls:=.type "list",data:=.seq (its.set j u).toArray n }:=by
 simp[dF]
theorem Inv.lst{σ:St}{p:aa}(I:Inv X ac σ H s)(h:H p=some (.lst xs)):
  ∃(its:List ad) (n:Nat),Vals xs its/\s.heap.get? p=some { cls:=.type "list",data:=.seq its.toArray n }/\xs.length<=aF:=by
 obtain⟨z,its,n,r,e⟩:=I.hok p _ h
 exact⟨its,n,r,e,z⟩
theorem Inv.lstUpd{σ:St}{p:aa}{ys:List V}{its':List ad}{n':Nat}{f:Obj->Obj}(I:Inv X ac σ H s)(h:H p=some (.lst xs))
  (ho:s.heap.get? p=some { cls:=.type "list",data:=.seq its.toArray n }) (hf:f { cls:=.type "list",data:=.seq its.toArray n }={ cls:=.type "list",data:=.seq its'.toArray n' }) (r:Vals ys its') (hz:ys.length<=aF) (t:Nat) :
  Inv X ac σ (upd H p (.lst ys)) { s with heap:=s.heap.update p f,toks:=t }:=by
 have e:(s.heap.update p f).get? p=some { cls:=.type "list",data:=.seq its'.toArray n' }:=by
  rw[Dx f ho (by rw[hf] <;> rfl),hf]
 refine I.write (x:=p) (e:=p) (by rw[h];trivial) (.inl rfl) (fun b u hb q=>(vT _ _ (br hb)).trans q) ⟨_,e⟩ ?_
 exact⟨hz,its',n',r,e⟩
def jh5:V->V->V->Hp->(Hp->Prop)->Prop:=fun o i v H Q=>∃p xs k j,o=.ref p/\i=.int k/\H p=some (.lst xs)/\ixN xs.length k=some j/\Q (upd H p (.lst (xs.set j v)))
theorem jej:jix X jh5:=by
 intro ac s σ H o i v ov iv u Q I ro ri rv h;obtain⟨p,xs,k,j,rfl,rfl,hp,hj,q⟩:=h
 cases ro
 obtain⟨t,rfl⟩:=ri;obtain⟨its,n,r,ho,hz⟩:=I.lst hp;obtain⟨h1,h2,h3,h4⟩:=jcx hj;have hl:=r.length;have hn:=Yv;have I':Inv X ac σ (upd H p (.lst (xs.set j v))) { s with heap:=s.heap.update p (dF (·.setIfInBounds j u)) }:=
  I.lstUpd hp ho (jbS its n j u) (r.set rv j) (by rw[List.length_set];exact hz) s.toks
 by_cases h0:0<=k
 .have hk:k.toNat=j:=by
   rw[Hi h0 h4]at h1;exact bZ h1
  exact PySem.W.ki_setAt ho h0 (by omega) (by rw[bP,<- hl];exact h4) (by rw[hk];exact⟨_,I',q⟩)
 .have hk:(k+(its.toArray.size:Int)).toNat=j:=by
   rw[seqIndex_neg (by omega) h3]at h1;rw[bP,<- hl];exact bZ h1
  exact PySem.W.ki_setBack ho (by omega) (by rw[bP,<- hl];exact h3) (by omega) (by rw[hk];exact⟨_,I',q⟩)
theorem ZZ(lo hi:Option Int)(n:Nat):(nX lo hi none n).1=((HT.sIx n 0 lo:Nat):Int)/\(nX lo hi none n).2.1=((HT.sIx n n hi:Nat):Int)/\(nX lo hi none n).2.2=1:=by
 refine⟨?_,?_,rfl⟩
 .cases lo with
  | none=>simp[nX,HT.sIx]
  | some i=>
   simp only[nX,HT.sIx,SB,show (1:Int) > 0 by decide,if_true];by_cases h:i < 0
   .simp only[h,if_true] <;> omega
   .simp only[h,if_false] <;> omega
 .cases hi with
  | none=>simp[nX,HT.sIx]
  | some i=>
   simp only[nX,HT.sIx,SB,show (1:Int) > 0 by decide,if_true];by_cases h:i < 0
   .simp only[h,if_true] <;> omega
   .simp only[h,if_false] <;> omega
theorem YW(its:List ad)(lo hi:Option Int):slicePick its.toArray lo hi none=((its.drop (HT.sIx its.length 0 lo)).take (HT.sIx its.length its.length hi - HT.sIx its.length 0 lo)).toArray:=by
 obtain⟨h1,h2,h3⟩:=ZZ lo hi its.toArray.size;unfold slicePick;rw[h1,h2,h3];simp only[sliceRange_one,pick_run,bP] <;> rfl
def jiM(K:av):V->Option Int->Option Int->Hp->VK->Prop:=fun x lo hi H Q=>∃a xs,x=.ref a/\SqL K H a xs/\∀p,H p=none->Q (.ref p) (upd H p (.lst (qo xs lo hi)))
theorem jcd:SlR X (jiM X.K):=by
 intro ac s σ H x v vl vu lo hi sl Q I rx hs pl pu h;obtain⟨a,xs,rfl,hx,q⟩:=h
 cases rx
 obtain⟨its,r,ht,hz⟩:=I.list hx;have hlen:=r.length;refine⟨"list",_,Qf.lookup,ht.isList.typeIs,?_⟩;refine wpAny_getItem_list_slice ht.isList hs pl pu .none (by simp) ?_ (by rw[bP] <;> omega);rw[YW,<- hlen];refine⟨.ref s.heap.objs.size,_,I.laid (t':=s.toks) (o:=.lst (qo xs lo hi)) (fun b ob q=>aQ _ q) (aB _) ?_,rfl,q _ (I.hok.fresh (aB _))⟩;exact⟨aU (KP xs lo hi) hz,_,0,(r.drop (HT.sIx xs.length 0 lo)).take (HT.sIx xs.length xs.length hi - HT.sIx xs.length 0 lo),bV _ rfl⟩
def JX:V->Bool
 | .non=>true
 | .bl _=>true
 | .int _=>true
 | .str _=>true
 | _=>false
def eqV:V->V->Bool
 | .non,.non=>true
 | .bl a,.bl b=>a == b
 | .bl a,.int b=>(if a then 1 else 0) == b
 | .int a,.bl b=>a == (if b then 1 else 0)
 | .int a,.int b=>a == b
 | .str a,.str b=>a == b
 | _,_=>false
theorem jhx{v:ad}(ry:RelV y u)(rx:RelV x v)(fy:JX y=true)(fx:JX x=true):cL A s u v (eqV y x):=by
 cases y with
 | non=>
  cases ry
  cases x with
  | non=>cases rx;exact vR _
  | bl b=>cases rx;exact cL.none_bool b
  | int b=>obtain⟨t,rfl⟩:=rx;exact cL.none_int b t
  | str b=>obtain⟨t,rfl⟩:=rx;exact cL.none_str b t
  | _=>exact absurd (show false=true from fx) bF
 | bl a=>
  cases ry
  cases x with
  | non=>cases rx;exact cL.bool_none a
  | bl b=>cases rx;exact Ro a b
  | int b=>obtain⟨t,rfl⟩:=rx;exact cL.bool_int a b t
  | str b=>obtain⟨t,rfl⟩:=rx;exact cL.bool_str a b t
  | _=>exact absurd (show false=true from fx) bF
 | int a=>
  obtain⟨t',rfl⟩:=ry
  cases x with
  | non=>cases rx;exact cL.int_none a t'
  | bl b=>cases rx;exact cL.int_bool a t' b
  | int b=>obtain⟨t,rfl⟩:=rx;exact Dr a t' b t
  | str b=>obtain⟨t,rfl⟩:=rx;exact Ic a t' b t
  | _=>exact absurd (show false=true from fx) bF
 | str a=>
  obtain⟨t',rfl⟩:=ry
  cases x with
  | non=>cases rx;exact cL.str_none a t'
  | bl b=>cases rx;exact cL.str_bool a t' b
  | int b=>obtain⟨t,rfl⟩:=rx;exact Ib a t' b t
  | str b=>obtain⟨t,rfl⟩:=rx;exact vQ a t' b t
  | _=>exact absurd (show false=true from fx) bF
 | _=>exact absurd (show false=true from fy) bF
def eqU(x:V)(u:ad):Bool:=match u with
 | .none=>eqV .non x
 | .bool b=>eqV (.bl b) x
 | .int i _=>eqV (.int i) x
 | .str z _=>eqV (.str z) x
 | _=>false
theorem jfh(r:RelV y u)(f:JX y=true):eqU x u=eqV y x:=by
 cases y with
 | non=>cases r;rfl
 | bl b=>cases r;rfl
 | int i=>obtain⟨t,rfl⟩:=r;rfl
 | str z=>obtain⟨t,rfl⟩:=r;rfl
 | _=>exact absurd (show false=true from f) bF
theorem jan{x:V}:∀{xs:List V} {us:List ad},Vals xs us->xs.all JX=true->us.any (eqU x)=xs.any fun y=>eqV y x
 | _,_,.nil,_=>rfl
 | y :: xs,u :: us,.cons r t,f=>by
  rw[g7,cm]at f;rw[sJ,sJ,jfh r f.1,jan t f.2]
theorem Yt{A:aM}{s:af}{x:V}{v:ad}(rx:RelV x v)(fx:JX x=true):∀{xs:List V} {us:List ad},Vals xs us->xs.all JX=true->∀u∈us,cL A s u v (eqU x u)
 | _,_,.nil,_=>fun u hu=>by cases hu
 | y :: xs,u :: us,.cons r t,f=>fun u' hu=>by
  rw[g7,cm]at f;rcases aN.mp hu with rfl | hu
  .rw[jfh r f.1];exact jhx r rx f.1 fx
  .exact Yt rx fx t f.2 u' hu
def inV(x:V)(xs:List V):Bool:=xs.any fun y=>eqV y x
def rIn(K:av)(neg:Bool):R2:=fun x y H Q=>∃p xs,y=.ref p/\(SqL K H p xs\/SqT K H p xs)/\JX x=true/\xs.all JX=true/\Q (.bl (if neg then !inV x xs else inV x xs)) H
theorem Z6:OpR X (dZ .NotIn) (rIn X.K true):=by
 intro ac s σ H x y v u Q I rx ry h;obtain⟨p,xs,rfl,hq,fx,fs,q⟩:=h
 cases ry
 rcases hq with hq | hq
 .obtain⟨its,r,pl,hz⟩:=I.list hq
  refine SeqAt.notIn_listAt (eqU x) pl.isList (fun w hw=>Yt rx fx r fs w (by simpa using hw)) ⟨.bl _,H,I,rfl,?_⟩;rw[show its.toArray.any (eqU x)=its.any (eqU x) by simp,jan r fs];exact q
 .obtain⟨its,r,pl,hz⟩:=I.tuple hq
  refine SeqAt.notIn_tupleAt (eqU x) pl (fun w hw=>Yt rx fx r fs w (by simpa using hw)) ⟨.bl _,H,I,rfl,?_⟩;rw[show its.toArray.any (eqU x)=its.any (eqU x) by simp,jan r fs];exact q
theorem ko:qX X (.builtin "len") (fun xs H Q=>∃p ys,xs=[.ref p]/\(SqL X.K H p ys\/SqT X.K H p ys)/\Q (.int ys.length) H):=by
 intro ac s σ H xs us Q I r h;obtain⟨p,ys,rfl,hq,q⟩:=h;obtain⟨u,rfl,rx⟩:=yP r
 cases rx
 have hn:=Yv;rcases hq with hq | hq
 .obtain⟨its,r',pl,hz⟩:=I.list hq
  have hlen:=r'.length;exact Calls.call_len_list pl.isList (by simp only[bP] <;> omega) ⟨.int ys.length,H,I.tok _,⟨s.toks+1,by rw[bP,hlen]⟩,q⟩
 .obtain⟨its,r',pl,hz⟩:=I.tuple hq
  have hlen:=r'.length;exact len_tuple pl (by simp only[bP] <;> omega) ⟨.int ys.length,H,I.tok _,⟨s.toks+1,by rw[bP,hlen]⟩,q⟩
theorem J9:qX X (.type "list") (fun xs H Q=>∃p ys,xs=[.ref p]/\(SqL X.K H p ys\/SqT X.K H p ys)/\∀l,H l=none->Q (.ref l) (upd H l (.lst ys))):=by
 intro ac s σ H xs us Q I r h;obtain⟨p,ys,rfl,hq,q⟩:=h;obtain⟨u,rfl,rx⟩:=yP r
 cases rx
 have fin:∀(its:List ad),Vals ys its->ys.length<=aF->∀(h':au) (c':Nat),(∀b o',s.heap.get? b=some o'->h'.get? b=some o')->
   h'.get? s.heap.objs.size=some { cls:=.type "list",dict:=none,data:=.seq its.toArray c',slots:=#[] }->EP X ac σ Q (.ref s.heap.objs.size) { s with heap:=h' }:=fun its r' hz h' c' kp e=>
  ⟨.ref s.heap.objs.size,_,I.laid (t':=s.toks) kp (aB _) (show ObjOk X.prog X.w _ h' _ (.lst ys) from⟨hz,its,c',r',e⟩),rfl,q _ (I.hok.fresh (aB _))⟩
 rcases hq with hq | hq
 .obtain⟨its,r',pl,hz⟩:=I.list hq
  have hlen:=r'.length;obtain⟨o,ho,hc,n,hd⟩:=pl.isList;exact call_list_seq p (.inl rfl) ho hc hd (fun h' c' kp e=>fin its r' hz h' c' kp e) (by simp only[bP] <;> omega)
 .obtain⟨its,r',pl,hz⟩:=I.tuple hq
  have hlen:=r'.length;obtain⟨o,ho,hc,n,hd⟩:=pl;exact call_list_seq p (.inr rfl) ho hc hd (fun h' c' kp e=>fin its r' hz h' c' kp e) (by simp only[bP] <;> omega)
theorem yc:qX X (.type "tuple") (fun xs H Q=>∃p ys,xs=[.ref p]/\((SqL X.K H p ys/\∀l,H l=none->Q (.ref l) (upd H l (.tup ys)))\/(SqT X.K H p ys/\Q (.ref p) H))):=by
 intro ac s σ H xs us Q I r h;obtain⟨p,ys,rfl,h⟩:=h;obtain⟨u,rfl,rx⟩:=yP r
 cases rx
 rcases h with⟨hq,q⟩ | ⟨hq,q⟩
 .obtain⟨its,r',pl,hz⟩:=I.list hq
  have hlen:=r'.length;refine call_tuple_list pl.isList (fun h' kp=>?_) (by simp only[bP] <;> omega);have I1:Inv X ac σ H { s with heap:=h' }:=I.kept (t':=s.toks) kp;have I2:Inv X ac σ (upd H h'.objs.size (.tup ys)) { s with heap:=h'.push { cls:=.type "tuple",data:=.seq its.toArray } }:=
   I1.laid (t':=s.toks) (fun b o e=>aQ _ e) (aB _) (show ObjOk X.prog X.w _ _ _ (.tup ys) from⟨hz,its,r',DK _ _⟩)
  exact⟨.ref h'.objs.size,_,I2,rfl,q _ (I1.hok.fresh (aB _))⟩
 .obtain⟨its,r',pl,hz⟩:=I.tuple hq
  exact call_tuple_same pl ⟨.ref p,H,I,rfl,q⟩
def tyV(K:av)(T:String)(x:V)(H:Hp):Prop:=match x with
 | .str _=>T = "str"
 | .int _=>T = "int"
 | .ref p=>(T = "list"/\∃xs,SqL K H p xs)\/(T = "tuple"/\∃o,K.lookup p=some o/\o.cls=.type "tuple"/\o.dict=none)\/
   (T = "dict"/\((∃kvs,H p=some (.dK kvs))\/∃kvs,H p=some (.dT kvs)))\/(T = "set"/\∃S n,H p=some (.set S n))
 | _=>False
theorem jea{σ:St}{v:ad}(I:Inv X ac σ H s)(r:RelV x v)(ty:tyV X.K T x H):
  s.TypeIs v T/\∀a,v=.ref a->∃ob,s.heap.get? a=some ob/\ob.dict=none:=by
 cases x with
 | str z=>
  obtain⟨t,rfl⟩:=r
  cases (show T = "str" from ty)
  exact⟨typeIs_str s z t,fun _ e=>nomatch e⟩
 | int i=>
  obtain⟨t,rfl⟩:=r
  cases (show T = "int" from ty)
  exact⟨typeIs_int s i t,fun _ e=>nomatch e⟩
 | ref p=>
  cases r
  rcases ty with⟨rfl,xs,hq⟩ | ⟨rfl,o,hk,hc,hd⟩ | ⟨rfl,hk⟩ | ⟨rfl,S,n,hk⟩
  .obtain⟨its,_,pl,_⟩:=I.list hq
   refine⟨pl.isList.typeIs,fun a e=>?_⟩
   cases e
   obtain⟨o,n,e,c,hd,_⟩:=pl
   exact⟨o,e,hd⟩
  .refine⟨⟨o,I.kIn p o hk,hc⟩,fun a e=>?_⟩
   cases e
   exact⟨o,I.kIn _ o hk,hd⟩
  .have z:∃o,s.heap.get? p=some o/\o.ExactDict:=by
    rcases hk with⟨kvs,hk⟩ | ⟨kvs,hk⟩
    .obtain⟨_,_,_,_,o,_,_,e,ex,_⟩:=I.hok p _ hk
     exact⟨o,e,ex⟩
    .obtain⟨_,_,_,_,o,_,_,e,ex,_⟩:=I.hok p _ hk
     exact⟨o,e,ex⟩
   obtain⟨o,e,ex⟩:=z;refine⟨⟨o,e,ex.1⟩,fun a e2=>?_⟩
   cases e2
   exact⟨o,e,ex.2.1⟩
  .obtain⟨o,_,_,_,e,ex,_⟩:=I.hok p _ hk
   refine⟨⟨o,e,ex.1⟩,fun a e2=>?_⟩
   cases e2
   exact⟨o,e,ex.2.1⟩
 | _=>exact ez ty
def jiG(K:av)(T:String)(r:V->List V->Hp->VK->Prop)(to:TE):TE:=fun σ H Q=>to σ H fun x H1=>tyV K T x H1/\r x [] H1 Q
def tBM(K:av)(T:String)(r:V->List V->Hp->VK->Prop)(to:TE)(t:TA):TE:=fun σ H Q=>to σ H fun x H1=>tyV K T x H1/\t σ H1 fun xs H2=>r x xs H2 Q
variable {o e:aj}{es:List aj}{to:TE}{t:TA}{name:Str}{fJ cC:Pos}{id:String}{r:V->List V->Hp->VK->Prop}
end
def MtM(X:Cx)(id:String)(r:V->List V->Hp->VK->Prop):Prop:=
 ∀(ac:List (aa×Obj)) (s:af) (σ:St) (H:Hp) (x:V) (xs:List V) (v:ad) (us:List ad) (Q:VK),Inv X ac σ H s->RelV x v->Vals xs us->r x xs H Q->
  ah (am X.prog X.w) X.A (call (.builtin id) (v :: us)) (EP X ac σ Q) X.xe s
theorem Vals.one(h:Vals [x] us):∃u,us=[u]/\RelV x u:=by
 cases h with
 | cons r t=>cases t;exact⟨_,rfl,r⟩
theorem Vals.zero:∀{us:List ad},Vals [] us->us=[]
 | _,.nil=>rfl
theorem Vals.reverse(h:Vals xs us):Vals xs.reverse us.reverse:=by
 induction h with
 | nil=>exact .nil
 | cons r t ih=>rw[wa,wa];exact Vals.append ih (.cons r .nil)
variable {t':Nat}
section
variable {σ:St}{l b:aa}{ys zs:List V}
theorem Inv.lset{its':List ad}{f:Array ad->Array ad}(I:Inv X ac σ H s)(hH:H l=some (.lst xs))
  (e:s.heap.get? l=some { cls:=.type "list",data:=.seq its.toArray n }) (hf:f its.toArray=its'.toArray) (hv:Vals ys its') (hz:ys.length<=aF) :
  Inv X ac σ (upd H l (.lst ys)) { s with heap:=s.heap.update l (dF f),toks:=t' }:=by
 have q:=PySem.IsL.update e f
 rw[hf]at q
 refine I.write (x:=l) (e:=l) (by rw[hH];exact trivial) (.inl rfl) (fun b' u hb hu=>(vT s.heap (dF f) (br hb)).trans hu) ⟨_,q⟩ ?_
 exact⟨hz,its',_,hv,q⟩
theorem Inv.lnew(I:Inv X ac σ H s)(hv:Vals ys its)(hz:ys.length<=aF):
  Inv X ac σ (upd H s.heap.objs.size (.lst ys)) { s with heap:=s.heap.push { cls:=.type "list",data:=.seq its.toArray },toks:=t' }:=
 I.laid (fun _ _ q=>aQ _ q) (aB _) ⟨hz,its,0,hv,bV _ rfl⟩
theorem Inv.fresh(I:Inv X ac σ H s):H s.heap.objs.size=none:=I.hok.fresh (aB _)
theorem Inv.lstM(I:Inv X ac σ H s)(hH:H l=some (.lst xs)):xs.length<=aF/\∃(its:List ad) (n:Nat),Vals xs its/\xs.length=its.length/\s.heap.get? l=some { cls:=.type "list",data:=.seq its.toArray n }:=by
 obtain⟨z,its,n,r,e⟩:=I.hok l _ hH;exact⟨z,its,n,r,r.length,e⟩
theorem je1(h:n<=aF):IH n=false:=by
 unfold IH;exact Ts (by omega)
end
section
def jck:V->List V->Hp->VK->Prop:=fun x vs H Q=>∃l xs y,x=.ref l/\vs=[y]/\H l=some (.lst xs)/\xs.length < aF/\Q .non (upd H l (.lst (xs++[y])))
theorem kE:MtM X "list.append" jck:=by
 intro ac s σ H x vs v us Q I rx rv h;obtain⟨l,xs,y,rfl,rfl,hH,hz,q⟩:=h
 cases rx
 obtain⟨u,rfl,ru⟩:=rv.one;obtain⟨z,its,n,r,hl,e⟩:=I.lstM hH;refine HI F.slot_list_append ⟨_,e,rfl⟩ F.entry_list_append (F.args_list_append_2 _ _) (PySem.list_append l its.toArray n u (by rw[bP];omega)) ⟨e,?_⟩;refine⟨.non,_,I.lset (its':=its++[u]) hH e (by simp) (r.append (.cons ru .nil)) ?_,rfl,q⟩;rw[aO,List.length_singleton];omega
def jfX:V->List V->Hp->VK->Prop:=fun x vs H Q=>∃l b xs zs,x=.ref l/\vs=[.ref b]/\H l=some (.lst xs)/\H b=some (.lst zs)/\xs.length+zs.length<=aF/\Q .non (upd H l (.lst (xs++zs)))
theorem zB:MtM X "list.extend" jfX:=by
 intro ac s σ H x vs v us Q I rx rv h;obtain⟨l,b,xs,zs,rfl,rfl,hH,hB,hz,q⟩:=h
 cases rx
 obtain⟨u,rfl,ru⟩:=rv.one
 cases ru
 obtain⟨z,its,n,r,hl,e⟩:=I.lstM hH;obtain⟨z2,aS,n2,r2,dq,e2⟩:=I.lstM hB;have hsz:its.toArray.size+aS.toArray.size<=aF:=by rw[bP,bP];omega
 have NL:¬(!its.toArray.isEmpty && IH (its.toArray.size+aS.toArray.size))=true:=by
  rw[je1 hsz,Lp];exact bF
 refine HI F.slot_list_extend ⟨_,e,rfl⟩ F.entry_list_extend (F.args_list_extend_2 _ _)
  (AutoSeq1.list_extend_list_list_0 l its.toArray n b aS.toArray n2 NL (by rw[bP];omega) (by omega)) ⟨e,e2,?_⟩
 refine⟨.non,_,I.lset (its':=its++aS) hH e (by simp) (r.append r2) ?_,rfl,q⟩;rw[aO];omega
def jeq:V->List V->Hp->VK->Prop:=fun x vs H Q=>∃l xs,x=.ref l/\vs=[]/\H l=some (.lst xs)/\Q .non (upd H l (.lst xs.reverse))
theorem jbP:MtM X "list.reverse" jeq:=by
 intro ac s σ H x vs v us Q I rx rv h;obtain⟨l,xs,rfl,rfl,hH,q⟩:=h
 cases rx
 have cf:=rv.zero;subst cf;obtain⟨z,its,n,r,hl,e⟩:=I.lstM hH;refine HI F.slot_list_reverse ⟨_,e,rfl⟩ F.entry_list_reverse (F.args_list_reverse_1 _) (AutoSeq1.list_reverse_list_0 l its.toArray n (by rw[bP];omega)) ⟨e,?_⟩;refine⟨.non,_,I.lset (its':=its.reverse) hH e (by simp) r.reverse ?_,rfl,q⟩;rw[SW];omega
def jiN:R2:=fun x y H Q=>∃l b xs zs,x=.ref l/\y=.ref b/\H l=some (.lst xs)/\H b=some (.lst zs)/\xs.length+zs.length<=aF/\∀p,H p=none->Q (.ref p) (upd H p (.lst (xs++zs)))
theorem kW:OpR X (eM .Add) jiN:=by
 intro ac s σ H x y v u Q I rx ry h;obtain⟨l,b,xs,zs,rfl,rfl,hH,hB,hz,q⟩:=h
 cases rx
 cases ry
 obtain⟨z,its,n,r,hl,e⟩:=I.lstM hH;obtain⟨z2,aS,n2,r2,dq,e2⟩:=I.lstM hB;refine PySem.P.add_list e e2 ?_ (by rw[bP,bP];omega);have ea:its.toArray++aS.toArray=(its++aS).toArray:=by simp
 rw[ea];exact⟨.ref _,_,I.lnew (t':=s.toks) (r.append r2) (by rw[aO];omega),rfl,q _ I.fresh⟩
end
variable {o:Option V}
section
variable {κ:Type}[DecidableEq κ]
def qm(kvs:List (κ×V))(k:κ):Option V:=(kvs.find? fun kv=>decide (kv.1=k)).map (·.2)
def kB(kvs:List (κ×V))(k:κ)(v:V):List (κ×V):=
 if (kvs.any fun kv=>decide (kv.1=k))=true then kvs.map (fun kv=>if kv.1=k then (kv.1,v) else kv) else kvs++[(k,v)]
theorem qb{p:κ×V}{r:List (κ×V)}{k:κ}(e:p.1=k):qm (p :: r) k=some p.2:=by simp[qm,mO,e]
theorem qc{p:κ×V}{r:List (κ×V)}{k:κ}(e:¬p.1=k):qm (p :: r) k=qm r k:=by simp[qm,mO,e]
theorem JE(k:κ):∀kvs:List (κ×V),(kvs.any fun kv=>decide (kv.1=k))=(qm kvs k).isSome
 | []=>rfl
 | p :: r=>by
  rw[sJ];by_cases e:p.1=k
  .simp only[qb e,Tr e,Bool.true_or,Option.isSome_some]
  .rw[qc e,Ts e,Th];exact JE k r
theorem jax(k j:κ)(y:V):∀kvs:List (κ×V),qm (kvs.map fun kv=>if kv.1=k then (kv.1,y) else kv) j=(qm kvs j).map fun x=>if j=k then y else x
 | []=>rfl
 | p :: r=>by
  have ih:=jax k j y r;rw[bE];by_cases h:p.1=k
  .rw[Tu h]
   by_cases e:p.1=j
   .rw[qb (p:=(p.1,y)) e,qb e,DM,Tu (e.symm.trans h)]
   .rw[qc (p:=(p.1,y)) e,qc e,ih]
  .rw[Tt h]
   by_cases e:p.1=j
   .rw[qb (p:=p) e,qb e,DM,Tt (fun z=>h (e.trans z))]
   .rw[qc (p:=p) e,qc e,ih]
theorem Zc(k j:κ)(y:V):∀kvs:List (κ×V),qm kvs k=none->qm (kvs++[(k,y)]) j=if j=k then some y else qm kvs j
 | [],_=>by
  by_cases e:k=j
  .rw[Tu e.symm];exact qb (p:=(k,y)) e
  .rw[Tt (fun z=>e z.symm)];exact qc (p:=(k,y)) e
 | p :: r,hn=>by
  rw[bW];have hk:¬p.1=k:=fun z=>by rw[qb z]at hn;cases hn
  rw[qc hk]at hn;have ih:=Zc k j y r hn;by_cases e:p.1=j
  .rw[qb e,qb e,Tt (fun z=>hk (e.trans z))]
  .rw[qc e,qc e,ih]
theorem JD(kvs:List (κ×V))(k j:κ)(y:V):qm (kB kvs k y) j=if j=k then some y else qm kvs j:=by
 unfold kB;by_cases a:(kvs.any fun kv=>decide (kv.1=k))=true
 .rw[Tu a,jax]
  rw[JE]at a;by_cases e:j=k
  .obtain⟨x,hx⟩:=vZ.mp a
   rw[Tu e,e,hx,DM,Tu rfl]
  .rw[Tt e]
   cases qm kvs j with
   | none=>rfl
   | some x=>rw[DM,Tt e]
 .rw[Tt a]
  refine Zc k j y kvs ?_;rw[JE]at a
  cases q:qm kvs k with
  | none=>rfl
  | some x=>rw[q]at a;exact (a rfl).elim
theorem kH(kvs:List (κ×V))(k:κ)(v:V):(kB kvs k v).length<=kvs.length+1:=by
 unfold kB;split
 .rw[aC];omega
 .rw[aO,bo,mM];omega
theorem RelO.isSome_eq{u:Option ad}(r:RelO o u):o.isSome=u.isSome:=by
 cases o with
 | none=>cases u with
  | none=>rfl
  | some _=>exact (show False from r).elim
 | some _=>cases u with
  | none=>exact (show False from r).elim
  | some _=>rfl
theorem RelO.getD{u:Option ad}{d:V}{d':ad}(r:RelO o u)(rd:RelV d d'):RelV (o.getD d) (u.getD d'):=by
 cases o with
 | none=>cases u with
  | none=>exact rd
  | some _=>exact (show False from r).elim
 | some _=>cases u with
  | none=>exact (show False from r).elim
  | some _=>exact r
theorem KV.val{kvs:List (κ×V)}{vs:List (κ×ad)}(r:KV kvs vs)(k:κ):RelO (qm kvs k) (nV vs k):=by
 unfold KV at r;induction r with
 | nil=>exact True.intro
 | @cons p q ps qs h t ih=>
  obtain⟨h1,h2⟩:=h;by_cases e:p.1=k
  .have e':q.1=k:=h1.symm.trans e
   have b:nV (q :: qs) k=some q.2:=by simp[nV,mO,e']
   rw[qb e,b];exact h2
  .have e':¬q.1=k:=fun z=>e (h1.trans z)
   have b:nV (q :: qs) k=nV qs k:=by simp[nV,mO,e']
   rw[qc e,b];exact ih
theorem KV.any{kvs:List (κ×V)}{vs:List (κ×ad)}(r:KV kvs vs)(k:κ):(kvs.any fun kv=>decide (kv.1=k))=vs.any fun kv=>decide (kv.1=k):=by
 unfold KV at r;induction r with
 | nil=>rfl
 | cons h t ih=>rw[sJ,sJ,ih,h.1]
theorem KV.repl{kvs:List (κ×V)}{vs:List (κ×ad)}(r:KV kvs vs)(k:κ)(ry:RelV y u):
  KV (kvs.map fun kv=>if kv.1=k then (kv.1,y) else kv) (vs.map fun kv=>if kv.1=k then (kv.1,u) else kv):=by
 unfold KV at r |-
 induction r with
 | nil=>exact .nil
 | @cons p q ps qs h t ih=>
  rw[bE,bE]
  refine .cons ?_ ih
  obtain⟨h1,h2⟩:=h
  by_cases e:p.1=k
  .rw[Tu e,Tu (h1.symm.trans e)];exact⟨h1,ry⟩
  .rw[Tt e,Tt (fun z=>e (h1.trans z))];exact⟨h1,h2⟩
theorem KV.put{kvs:List (κ×V)}{vs:List (κ×ad)}(r:KV kvs vs)(k:κ)(ry:RelV y u):KV (kB kvs k y) (stored vs k u):=by
 unfold kB stored;rw[r.any k];by_cases e:(vs.any fun kv=>decide (kv.1=k))=true
 .rw[Tu e,Tu e];exact r.repl k ry
 .rw[Tt e,Tt e];exact Ru r ⟨rfl,ry⟩
theorem KV.length{kvs:List (κ×V)}{vs:List (κ×ad)}(r:KV kvs vs):kvs.length=vs.length:=Dv r
end
variable {P:az}{w:ax}
theorem KM{k:Key}(r:RelV (kV k) u):(j6 P w).is k u=true:=by
 cases k with
 | inl i=>obtain⟨t,e⟩:=(show ∃t,u=Value.int i t from r);subst e;exact jaV P w i t
 | inr x=>obtain⟨t,e⟩:=(show ∃t,u=Value.str x t from r);subst e;exact jaU P w x t
theorem Zr{P:az}{w:ax}:∀{ks:List Key} {us:List ad},Vals (ks.map kV) us->ItemsAre (j6 P w) ks us
 | [],_,r=>by rw[oy]at r;cases r;exact .nil
 | k :: ks,_,r=>by
  rw[bE]at r
  cases r with
  | cons h t=>exact .cons (KM h) (Zr t)
abbrev KT(H:Hp):List (List Key×V)->List (List Key×aa×ad)->Prop:=Paired fun p q=>p.1=q.1/\H q.2.1=some (.tup (p.1.map kV))/\RelV p.2 q.2.2
variable {kvs:List (List Key×V)}
theorem KT.val{xs:List (List Key×aa×ad)}(r:KT H kvs xs)(k:List Key):RelO (qm kvs k) ((atKey xs k).map (·.2)):=by
 induction r with
 | nil=>exact True.intro
 | @cons p q ps qs h t ih=>
  obtain⟨h1,_,h2⟩:=h;by_cases e:p.1=k
  .have e':q.1=k:=h1.symm.trans e
   have b:atKey (q :: qs) k=some q.2:=by simp[atKey,mO,e']
   rw[qb e,b];exact h2
  .have e':¬q.1=k:=fun z=>e (h1.trans z)
   have b:atKey (q :: qs) k=atKey qs k:=by simp[atKey,mO,e']
   rw[qc e,b];exact ih
theorem KT.repl{xs:List (List Key×aa×ad)}(r:KT H kvs xs)(k:List Key)(ry:RelV y u):
  KT H (kvs.map fun kv=>if kv.1=k then (kv.1,y) else kv) (xs.map (putAt k u)):=by
 induction r with
 | nil=>exact .nil
 | @cons p q ps qs h t ih=>
  rw[bE,bE]
  refine .cons ?_ ih
  obtain⟨h1,h2,h3⟩:=h
  unfold putAt
  by_cases e:p.1=k
  .rw[Tu e,Tu (h1.symm.trans e)];exact⟨h1,h2,ry⟩
  .rw[Tt e,Tt (fun z=>e (h1.trans z))];exact⟨h1,h2,h3⟩
theorem KT.put{xs:List (List Key×aa×ad)}(r:KT H kvs xs)(k:List Key){b:aa}(hb:H b=some (.tup (k.map kV)))(ry:RelV y u):
  KT H (kB kvs k y) (storedH xs k b u):=by
 have e:(kvs.any fun kv=>decide (kv.1=k))=(atKey xs k).isSome:=by
  rw[JE,(r.val k).isSome_eq,Sy]
 unfold kB storedH
 rw[e]
 by_cases q:(atKey xs k).isSome=true
 .rw[Tu q,Tu q];exact r.repl k ry
 .rw[Tt q,Tt q];exact Ru r ⟨rfl,hb,ry⟩
variable {H':Hp}
theorem KT.keeps{xs:List (List Key×aa×ad)}(r:KT H kvs xs)(ht:∀b ys,H b=some (.tup ys)->H' b=some (.tup ys)):KT H' kvs xs:=
 Paired.mapP r fun _ _ z=>⟨z.1,ht _ _ z.2.1,z.2.2⟩
variable {a:aa}
section
variable {h:au}
theorem jgM{u:HO}(ok:HOk P w H h)(e:Rd H a u):ObjOk P w H h a u:=e.ok ok
theorem ZC{kvs:List (Key×V)}(ok:HOk P w H h)(e:Rd H a (.dK kvs)):kvs.length<=aF/\(a == gu)=false/\∃vs,KV kvs vs/\h.DictOf (j6 P w) a vs:=
 show ObjOk P w H h a (.dK kvs) from jgM ok e
theorem jcF{kvs:List (Key×V)}(ok:HOk P w H h)(e:H a=some (.dK kvs)):kvs.length<=aF/\(a == gu)=false/\∃vs,KV kvs vs/\h.DictOf (j6 P w) a vs:=ZC ok (.inl e)
theorem Yz{ks:List Key}(ok:HOk P w H h)(e:H a=some (.tup (ks.map kV))):(rL (j6 P w)).is h ks a:=by
 obtain⟨_,its,r,o,h1,h2,n,h3⟩:=(show ObjOk P w H h a (.tup (ks.map kV)) from ok a _ e)
 exact⟨o,its.toArray,n,h1,h2,h3,by simpa using Zr r⟩
theorem ZB(ok:HOk P w H h)(e:Rd H a (.dT kvs)):kvs.length<=aF/\(a == gu)=false/\
  ∃xs,KT H kvs xs/\h.DictOfH (rL (j6 P w)) a xs:=by
 obtain⟨z,y,xs,r,o,es,ep,h1,h2,h3,h4,h5⟩:=(show ObjOk P w H h a (.dT kvs) from jgM ok e)
 refine⟨z,y,xs,r,o,es,ep,h1,h2,h3,h4,fun x hx=>?_,h5⟩
 have all:∀{l:List (List Key×V)} {m:List (List Key×aa×ad)},KT H l m->∀x∈m,(rL (j6 P w)).is h x.1 x.2.1:=by
  intro l m q;induction q with
  | nil=>intro x hx;exact nomatch hx
  | @cons p q ps qs hq t ih=>
   intro x hx;rcases aN.mp hx with e | hx
   .subst e
    exact Yz ok (by rw[<- hq.1];exact hq.2.1)
   .exact ih x hx
 exact all r x hx
theorem jis(ok:HOk P w H h)(e:H a=some (.dT kvs)):kvs.length<=aF/\(a == gu)=false/\
  ∃xs,KT H kvs xs/\h.DictOfH (rL (j6 P w)) a xs:=ZB ok (.inl e)
end
def DGet(H:Hp)(a:aa)(y:V)(r:Option V):Prop:=
 (∃kvs k,Rd H a (.dK kvs)/\y=kV k/\r=qm kvs k)\/∃kvs k b,Rd H a (.dT kvs)/\y=.ref b/\H b=some (.tup (k.map kV))/\r=qm kvs k
def DPut(H:Hp)(a:aa)(y v:V)(H':Hp):Prop:=
 (∃kvs k,H a=some (.dK kvs)/\y=kV k/\kvs.length < aF/\H'=upd H a (.dK (kB kvs k v)))\/
 ∃kvs k b,H a=some (.dT kvs)/\y=.ref b/\H b=some (.tup (k.map kV))/\kvs.length < aF/\H'=upd H a (.dT (kB kvs k v))
theorem DGet.k{kvs:List (Key×V)}{k:Key}(e:H a=some (.dK kvs)):DGet H a (kV k) (qm kvs k):=.inl ⟨kvs,k,.inl e,rfl,rfl⟩
theorem DPut.k{kvs:List (Key×V)}{k:Key}{v:V}(e:H a=some (.dK kvs))(hl:kvs.length < aF):DPut H a (kV k) v (upd H a (.dK (kB kvs k v))):=.inl ⟨kvs,k,e,rfl,hl,rfl⟩
variable {E Q:ad->af->Prop}
section
variable {σ:St}{v:V}{r:ad}
theorem Inv.big(I:Inv X ac σ H s):gu < s.heap.objs.size:=by
 have h:aH < s.heap.objs.size:=(I.mod.glob.keeps I.bk).lt;exact iL (by decide) h
theorem jdO(hu:A.units+1 < cLine)(I:Inv X ac σ H s)(g:DGet H a y (some v))(ry:RelV y u)(h:∀w' s',Inv X ac σ H s'->RelV v w'->Q w' s'):
  ah (am X.prog X.w) A (mD (.ref a) u) Q E s:=by
 rcases g with⟨kvs,k,e,ey,l⟩ | ⟨kvs,k,b,e,ey,eb,l⟩
 .subst ey
  obtain⟨z,hd,vs,bG,dd⟩:=ZC I.hok e
  obtain⟨w',hw,e_⟩:=RelO.some_of (v:=v) (o:=nV vs k) (by rw[l];exact bG.val k)
  exact wpAny_getItem_of (KM ry) dd.mapOf hw (h w' _ (I.tok _) e_)
 .subst ey
  cases (show u=Value.ref b from ry)
  obtain⟨z,hd,xs,bG,dd⟩:=ZB I.hok e
  obtain⟨w',hw,e_⟩:=RelO.some_of (v:=v) (o:=(atKey xs k).map (·.2)) (by rw[l];exact bG.val k)
  obtain⟨p,hp,pI⟩:=Option.map_eq_some_iff.mp hw
  refine wpAny_getItem_heap (Dd hu) (Yz I.hok eb) dd hp ?_
  rw[pI]
  exact h w' _ (I.tok _) e_
theorem jgD(hu:A.units+1 < cLine)(I:Inv X ac σ H s)(g:DGet H a y o)(ry:RelV y u)(h:∀s',Inv X ac σ H s'->Q (.bool (!o.isSome)) s'):
  ah (am X.prog X.w) A (dZ .NotIn u (.ref a)) Q E s:=by
 rcases g with⟨kvs,k,e,ey,l⟩ | ⟨kvs,k,b,e,ey,eb,l⟩
 .subst ey
  obtain⟨z,hd,vs,bG,dd⟩:=ZC I.hok e
  refine wpAny_notIn_of (KM ry) hd dd.mapOf ?_
  rw[<- (bG.val k).isSome_eq,<- l]
  exact h _ (I.tok _)
 .subst ey
  cases (show u=Value.ref b from ry)
  obtain⟨z,hd,xs,bG,dd⟩:=ZB I.hok e
  refine wpAny_notIn_heap (Dd hu) (Yz I.hok eb) hd dd ?_
  have q:=(bG.val k).isSome_eq
  rw[Sy]at q
  rw[<- q,<- l]
  exact h _ (I.tok _)
theorem J7{h':au}{ob:HO}(I:Inv X ac σ H s)(mu:Mut (H a))(hs:cr a s.heap h')(he:∃q,h'.get? a=some q)(new:ObjOk X.prog X.w (upd H a ob) h' a ob):
  Inv X ac σ (upd H a ob) { s with heap:=h',toks:=t' }:=
 I.write (x:=a) (e:=a) mu (.inl rfl) (fun b q hb z=>(hs.2 b hb).trans z) he new
theorem jah{h':au}{kvs:List (Key×V)}{vs:List (Key×ad)}(z:kvs.length<=aF)(hd:(a == gu)=false)(bG:KV kvs vs)(dd:h'.DictOf (j6 P w) a vs):
  ObjOk P w H' h' a (.dK kvs):=⟨z,hd,vs,bG,dd⟩
theorem jdN{Q:Unit->af->Prop}(hu:A.units+1 < cLine)(I:Inv X ac σ H s)(g:DPut H a y v H')(ry:RelV y u)(rv:RelV v r)(h:∀s',Inv X ac σ H' s'->Q () s'):
  ah (am X.prog X.w) A (setItem (.ref a) u r) Q E s:=by
 rcases g with⟨kvs,k,e,ey,l,eH⟩ | ⟨kvs,k,b,e,ey,eb,l,eH⟩
 .subst ey eH
  obtain⟨z,hd,vs,bG,dd⟩:=jcF I.hok e
  have hz:vs.length<=aF:=by rw[<- bG.length];exact z
  have hl:(kB kvs k v).length<=aF:=by have:=kH kvs k v;omega
  refine wpAny_setItem_pairs (hsz:=hz) (KM ry) dd fun h' dI hs=>h _ ?_
  have he:∃q,h'.get? a=some q:=let ⟨q,_,_,hq,_⟩:=dI;⟨q,hq⟩
  exact J7 I (by rw[e];exact True.intro) hs he (jah hl hd (bG.put k rv) dI)
 .subst ey eH
  cases (show u=Value.ref b from ry)
  obtain⟨z,hd,xs,bG,dd⟩:=jis I.hok e
  have hz:xs.length<=aF:=by rw[<- Dv bG];exact z
  have hl:(kB kvs k v).length<=aF:=by have:=kH kvs k v;omega
  refine wpAny_setItem_heap (hsz:=hz) (Dd hu) (Yz I.hok eb) dd fun h' dI hs=>h _ ?_
  obtain⟨q,es,ep,hq,h2,h3,h4,_,h5⟩:=dI
  refine J7 I (by rw[e];exact True.intro) hs ⟨q,hq⟩ ⟨hl,hd,_,(bG.put k eb rv).keeps fun c ys ec=>?_,q,es,ep,hq,h2,h3,h4,h5⟩
  rw[jp (KI ec e (fun z=>nomatch z))]
  exact ec
end
def jiy(i:aj):Prop:=∀ov iv,subscripted i false ov iv=operate [ov,iv] (mD ov iv)
theorem jfR{prog:az}{env:Env}{value hO:aj}{id:String}
  (hl:Ha (.type T) "__getitem__" = pure (some (.builtin id))) (hs:jiy hO)
  (h:ah (am prog w) A (eval value env) (fun o s₁=>ah (am prog w) A (eval hO env) (fun i s₂=>s₂.TypeIs o T/\ah (am prog w) A (mD o i) Q E s₂) E s₁) E s) :
  ah (am prog w) A (eval (.Subscript value hO pos) env) Q E s:=by
 refine IS (bi h (fun o s₁ h₁=>bi h₁ (fun i s₂ h₂=>?_) fun _ _ x=>x) fun _ _ x=>x)
 obtain⟨hT,h₂⟩:=h₂
 unfold IK
 refine ae ?_
 rw[getitemInPython_of_ne hT.not_modules]
 refine ae (wpAny_specialOf hT hl ?_)
 have fin:ah (am prog w) A (subscripted hO false o i) (fun r s₃=>ah (am prog w) A (letTemporaryGo value o r >>= fun _=>pure r) Q E s₃) E s₂:=by
  rw[hs o i];exact wpAny_operating (bi h₂ (fun r s₃ h₃=>ae (wpAny_letTemporaryGo (aq h₃))) fun _ _ x=>x)
 first
  | exact aq (ae fin)
  | exact ae (aq (ae fin))
  | exact ae fin
theorem jbi{σ:St}(I:Inv X ac σ H s)(g:DGet H a y o):s.TypeIs (.ref a) "dict":=by
 rcases g with⟨kvs,k,e,_,_⟩ | ⟨kvs,k,b,e,_,_,_⟩
 .obtain⟨_,_,vs,_,dd⟩:=ZC I.hok e
  exact dd.typeIs
 .obtain⟨_,_,xs,_,dd⟩:=ZB I.hok e
  exact dd.typeIs
def jhZ(td ty:TE):TE:=fun σ H Q=>td σ H fun x H1=>ty σ H1 fun y H2=>∃a v,x=.ref a/\DGet H2 a y (some v)/\Q v H2
def jfQ(ty td:TE):TE:=fun σ H Q=>ty σ H fun y H1=>td σ H1 fun x H2=>∃a o,x=.ref a/\DGet H2 a y o/\Q (.bl (!o.isSome)) H2
def jh4(td ty tv:TE):TS:=fun D σ H=>tv σ H fun v H1=>td σ H1 fun x H2=>ty σ H2 fun y H3=>∃a H4,x=.ref a/\DPut H3 a y v H4/\D.nx σ H4
theorem J5(h:au)(hb:gu < h.objs.size):ObjOk P w H (h.push { cls:=.type "dict",data:=.dict #[] }) h.objs.size (.dK []):=
 ⟨bA _,Tv.mpr (br (aT hb)),[],.nil,au.DictOf.new h⟩
theorem jfl(h:au)(hb:gu < h.objs.size):ObjOk P w H (h.push { cls:=.type "dict",data:=.dict #[] }) h.objs.size (.dT []):=
 ⟨bA _,Tv.mpr (br (aT hb)),[],.nil,_,#[],0,bV _ rfl,⟨rfl,rfl,rfl⟩,rfl,rfl,fO⟩
def jg1:TE:=fun _ H Q=>∀p,H p=none->Q (.ref p) (upd H p (.dK []))
def jg0:TE:=fun _ H Q=>∀p,H p=none->Q (.ref p) (upd H p (.dT []))
def jbw:List (TE×TE)->St->Hp->(List (V×V)->Hp->Prop)->Prop
 | [],_,H,Q=>Q [] H
 | (tk,tv) :: r,σ,H,Q=>tk σ H fun x H1=>tv σ H1 fun y H2=>jbw r σ H2 fun ps H3=>Q ((x,y) :: ps) H3
abbrev VV:List (V×V)->List (ad×ad)->Prop:=Paired fun p q=>RelV p.1 q.1/\RelV p.2 q.2
def PPs(X:Cx)(pos:Pos)(iP:List (Option aj))(oJ:List aj)(hJ:List (TE×TE)):Prop:=
 ∀(ac:List (aa×Obj)) (s:af) (σ:St) (H:Hp) (Q:List (V×V)->Hp->Prop),Inv X ac σ H s->jbw hJ σ H Q->
  ah (am X.prog X.w) X.A (evalPairs (pairTrees iP oJ X.env pos)) (fun vs s'=>∃ps H',Inv X ac σ H' s'/\VV ps vs/\Q ps H') X.xe s
def Kp(kvs more:List (Key×V)):List (Key×V):=more.foldl (fun aP kv=>kB aP kv.1 kv.2) kvs
theorem KV.merge:∀{more:List (Key×V)} {rs:List (Key×ad)} {kvs:List (Key×V)} {vs:List (Key×ad)},KV more rs->KV kvs vs->KV (Kp kvs more) (merged vs rs):=by
 intro more rs kvs vs r;unfold KV at r;induction r generalizing kvs vs with
 | nil=>intro q;exact q
 | @cons p q ps qs h t ih=>
  intro r0;have e:KV (kB kvs p.1 p.2) (stored vs q.1 q.2):=by
   have:=r0.put p.1 h.2;rw[<- h.1];exact this
  exact ih e
theorem Jq:∀(more kvs:List (Key×V)),(Kp kvs more).length<=kvs.length+more.length
 | [],kvs=>by show kvs.length<=kvs.length+0;omega
 | p :: r,kvs=>by
  have h1:=Jq r (kB kvs p.1 p.2);have h2:=kH kvs p.1 p.2;show (Kp (kB kvs p.1 p.2) r).length<=_;rw[bo];omega
theorem YN{P:az}{w:ax}:∀{kvs:List (Key×V)} {ws:List (ad×ad)},VV (kvs.map fun kv=>(kV kv.1,kv.2)) ws->∃rs,Carries (j6 P w) ws rs/\KV kvs rs
 | [],_,r=>by rw[oy]at r;cases r;exact⟨[],True.intro,.nil⟩
 | p :: kvs,_,r=>by
  rw[bE]at r
  cases r with
  | @cons a b as bs h t=>
   obtain⟨rs,c,q⟩:=YN (P:=P) (w:=w) t;obtain⟨b1,b2⟩:=b;exact⟨(p.1,b2) :: rs,⟨KM h.1,rfl,c⟩,.cons ⟨rfl,h.2⟩ q⟩
def jhY(hJ:List (TE×TE)):TE:=fun σ H Q=>∀p,H p=none->jbw hJ σ (upd H p (.dK [])) fun ps H2=>H2 p=some (.dK [])/\∃kvs:List (Key×V),ps=kvs.map (fun kv=>(kV kv.1,kv.2))/\kvs.length<=15/\Q (.ref p) (upd H2 p (.dK (Kp [] kvs)))
structure M2(X:Cx)(o:aj)(m:Str)(fJ:Pos)(e f:aj)(cC:Pos):Prop where
 base:n_ o m X.env (eval o X.env)=eval o X.env
 few:((fM cC (bT [e,f] X.env)).all (fun x=>!x.1) && (backToKw cC (keywordEach [] X.env)).all (fun x=>x.1.isSome)
  && decide (([e,f]:List aj).length+([]:List Keyword).length+(if ([]:List Keyword).isEmpty then 0 else 1) < 30))=true
 line:(fJ.endLine == cC.line)=true
 trees:fM cC (bT [e,f] X.env)=[(false,eval e X.env),(false,eval f X.env)]
def IsD(H:Hp)(a:aa):Prop:=(∃kvs,Rd H a (.dK kvs))\/∃kvs,Rd H a (.dT kvs)
theorem jhs{σ:St}(I:Inv X ac σ H s)(d:IsD H a):
  s.TypeIs (.ref a) "dict"/\(∀b,Value.ref a=.ref b->∃ob,s.heap.get? b=some ob/\ob.dict=none)/\(a == gu)=false:=by
 rcases d with⟨kvs,e⟩ | ⟨kvs,e⟩
 .obtain⟨_,hd,vs,_,dd⟩:=ZC I.hok e
  refine⟨dd.typeIs,fun b q=>?_,hd⟩
  cases q
  obtain⟨ob,_,_,h1,h2,_⟩:=dd
  exact⟨ob,h1,h2.2.1⟩
 .obtain⟨_,hd,xs,_,dd⟩:=ZB I.hok e
  refine⟨dd.typeIs,fun b q=>?_,hd⟩
  cases q
  obtain⟨ob,_,_,h1,h2,_⟩:=dd
  exact⟨ob,h1,h2.2.1⟩
section
variable {σ:St}{d:V}{r:ad}
theorem jhy(hu:A.units+1 < cLine)(I:Inv X ac σ H s)(g:DGet H a y o)(ry:RelV y u)(rd:RelV d r)(h:∀w' s',Inv X ac σ H s'->RelV (o.getD d) w'->Q w' s'):
  ah (am X.prog X.w) A (call (.builtin "dict.get") [.ref a,u,r]) Q E s:=by
 rcases g with⟨kvs,k,e,ey,l⟩ | ⟨kvs,k,b,e,ey,eb,l⟩
 .subst ey
  obtain⟨z,hd,vs,bG,dd⟩:=ZC I.hok e
  refine HH Io dd.typeIs RM (RQ _ _ _) (meets_dict_get_default (j6 X.prog X.w) a (KM ry) hd r) ⟨_,dd.mapOf,h _ _ (I.tok _) ?_⟩
  rw[l]
  exact (bG.val k).getD rd
 .subst ey
  cases (show u=Value.ref b from ry)
  obtain⟨z,hd,xs,bG,dd⟩:=ZB I.hok e
  refine HH Io dd.typeIs RM (RQ _ _ _) (meetsH_dict_get_default (rL (j6 X.prog X.w)) a b hd r) ⟨Dd hu,k,xs,Yz I.hok eb,dd,h _ _ (I.tok _) ?_⟩
  rw[l]
  exact (bG.val k).getD rd
end
def jg2(td ty tx:TE):TE:=fun σ H Q=>td σ H fun x H1=>∃a,x=.ref a/\IsD H1 a/\ty σ H1 fun y H2=>tx σ H2 fun z H3=>∃o,DGet H3 a y o/\Q (o.getD z) H3
end L2
namespace Att
open PySem PySem.W PySem.Calls PyProof.Rows
theorem KR{P:Params}{h:au}:∀(ns:List Int) (vs:List ad),WellAll P h vs (ns.map WData.int)->vY vs ns:=by
 intro ns;induction ns with
 | nil=>
  intro vs w;rw[oy]at w
  cases w
  exact .nil
 | cons n ns ih=>
  intro vs w;rw[bE]at w
  cases w with
  | cons a b=>
   cases a
   exact .cons _ _ (ih _ b)
theorem jc3{l:OpenLaw}{n:Nat}(hn:l.most=some n){P:Params}{h:au}{args:List WData}{aR:List ad}
  (tN:l.row.toRowW.claim.pre args=true) (iQ:WellAll P h aR args) :
  ∃a vs ns,aR=[Value.ref a]/\args=[WData.list (ns.map WData.int)]/\h.get? a=some { cls:=.type "list",data:=.seq vs.toArray }/\vY vs ns/\ns.length<=n:=by
 have Nf:WShape.hasAll [] args [.list .int]=true:=(pre_splitW tN).1
 have hc:l.pre.holds [] { args:=args }=true:=(pre_splitW tN).2
 obtain⟨d,r,rfl,h1,h2⟩:=hasAllW_cons Nf
 obtain rfl:=hasAllW_nil h2
 obtain⟨xs,rfl,h3⟩:=hasW_list h1
 obtain⟨ns,rfl⟩:=items_int h3
 have hlen:ns.length<=n:=by
  unfold OpenLaw.pre at hc;have h4:(WTm.not (.lt (.lit (.int (n:Int))) (.len (.arg 0)))).holds [] { args:=[.list (ns.map .int)] }=true:=by
   have h4:=(holds_andW hc).1;rw[hn]at h4;exact h4
  have h5:=condW_of h4 (w_not (w_lt w_lit (w_len_list (w_arg rfl))));rw[aC]at h5;refine I_ fun q=>?_
  have q':(n:Int) < ((ns.length:Nat):Int):=by omega
  first
   | (rw[Tr q']at h5;exact absurd h5 (by decide))
   | (simp at h5;omega)
 cases iQ with
 | cons w1 w2=>
  cases w2
  cases w1 with
  | list ho nA=>exact⟨_,_,ns,rfl,rfl,ho,KR ns _ nA,hlen⟩
theorem jc6(l:OpenLaw)(args:List WData):l.row.toRowW.claim.post args (.bool true) args=true:=
 postW_of (r:=l.row.toRowW) (X:=(true == true))
  (show Rh [] (.bool true) .bool=true by first | rfl | decide | simp[Rh,WShape.arms,WShape.armsAll])
  (show (WTm.eq .res (.lit (.bool true))).value [] { args:=args,res:=some (.bool true),after:=args }=some (.bool (true == true)) from w_eq_bool (w_res rfl) w_lit) rfl
theorem attach_call{l:OpenLaw}{n:Nat}{q:az}{m6:List Str}{XP:(Str->Option ad)->au->Prop}{YP:ax->au->Prop}{d:DefRec}
  (hn:l.most=some n) (pW:d.params.defaults=[])
  (call:∀(w:ax) (s₀ s₁:af) (mg mb:Str->Option ad) (fa:aa) (o:Obj) (pm cd cn:ad) (a:aa) (vs:List ad) (ns:List Int),
   Ground q m6 [] XP w s₀ mg mb s₁.heap->YP w s₁.heap->
   s₁.heap.get? fa=some o->o.data=.func (docDef d.name d.params d.body d.scope pm cd cn)->s₁.heap.CodeRec cd d.name->mg d.name=some (.ref fa)->
   s₁.heap.get? a=some { cls:=.type "list",data:=.seq vs.toArray }->vY vs ns->ns.length<=n->s₁.gens=#[]->
   cD (am l.prog w) nY (.call (.ref fa) ⟨[.ref a],[]⟩) (fun r s'=>r=.ok (.ret (.bool true))/\OldK s₁.heap s'.heap/\s'.os=s₁.os/\iK s'.gens) s₁) :
  WalkO q m6 XP YP l.row.toRowW d [] (fun f vs=>HJ f vs):=by
 intro w s₀ s₁ mg mb G Y fa o pm cd cn dV kV ho hd cR hD pM hg args aR as tN hlay hrd iQ dH
 obtain rfl:dV=.none:=Dflts.none hD pW
 obtain rfl:kV=.none:=Dflts.noKw hD
 obtain⟨a,vs,ns,rfl,rfl,AH,AV,hlen⟩:=jc3 hn tN iQ
 refine enter_call (lj (call w s₀ s₁ mg mb fa o pm cd cn a vs ns G Y ho (fd_plain hd) cR pM AH AV hlen hg) fun r s' hq=>?_)
 obtain⟨rfl,h2,h3,h4⟩:=hq
 exact⟨.inl ⟨.bool true,.bool true,[],rfl,fun _=>rfl,.bool true,jc6 l _,fun _=>⟨List.Pairwise.nil,fun _ hm=>(nomatch hm)⟩⟩,h2,h3,h4⟩
end Att
namespace L2
open PySem PySem.Spec PyProof.Rows
theorem Zb:∀{vs:List ad} {ns:List Int},vY vs ns->Vals (ns.map V.int) vs
 | _,_,.nil=>.nil
 | _,_,.cons n t h=>.cons ⟨t,rfl⟩ (Zb h)
def JU(s:aA)(j:Nat):aA:=match s with
 | .ClassDef _ _ _ body _ _ _ _ _ _ _=>body.getD j (.Pass ⟨0,0,0,0⟩)
 | _=>.Pass ⟨0,0,0,0⟩
def zX(s:aA):Arguments:=match s with
 | .FunctionDef _ a _ _ _ _ _ _ _ _=>a
 | _=>{ posonlyargs:=[],args:=[],vararg:=none,kwonlyargs:=[],kw_defaults:=[],kwarg:=none,defaults:=[] }
def qy(s:aA):List aA:=match s with
 | .FunctionDef _ _ b _ _ _ _ _ _ _=>b
 | _=>[]
def ji(s:aA):bO:=match s with
 | .FunctionDef _ _ _ _ _ _ sc _ _ _=>sc
 | _=>{ kind:=.function,names:=[],isGenerator:=false,isCoroutine:=false }
abbrev CX0:CXT:=fun _ _ _ _ _ _=>False
abbrev E0:XK:=fun _ _ _=>False
variable {X:Cx}
theorem jeF:JB CX0 X E0:=fun _ _ _ _ _ _ _ h=>h.elim
structure Fun(K:av)(x aX:Str)(st:aA)(f:aa)(fd:aD):Prop where
 ex:∃(oc:ad) (od:Option aa) (kV cn pm:ad) (an:Option aa) (ay ct:ad) (fu:Array (Option ad)),
  fd=iF x aX (zX st) (qy st) (ji st) .none kV cn pm an ay ct/\K.lookup f=some ⟨oc,od,.func fd,fu⟩/\dj K ay aX=true
 kp:bQ K (.ref f)=true
variable {w:ax}{K:av}{x aX:Str}{st:aA}{f:aa}{fd:aD}{ps:List Str}
section
variable {P:az}{mg:Str->Option ad}{base:au}
theorem Fun.ok{N:List Str}{k:Nat}{sp:Sp}(F:Fun K x aX st f fd)(S:FnScope N ps (ji st))(len:∀vs H Q E,sp vs H Q E->vs.length=ps.length)
  (im:∀(ay:ad) (A:aM) (outer:List Env) (s:af) (H:Hp) (vs:List V) (Q:VK) (E:XK),Room k (A.deeper (envOfC aX (ji st) s.heap.objs.size f ay))->sp vs H Q E->
   ∃t,PSs (j5 CX0 P w K mg base N aX (ji st) f ay A outer s H E).nox (qy st) t/\t { nx:=fun _ H'=>Q .non H',rt:=Q } (zr N vs) H):FnOk P w K mg base CX0 (k+1) f fd ps sp:=by
 obtain⟨oc,od,kV,cn,pm,an,ay,ct,fu,rfl,lk,cR⟩:=F.ex
 refine jfe lk cR S len fun A outer s H vs Q E hr cQ=>?_
 obtain⟨t,h,q⟩:=im ay A outer s H vs Q E hr cQ
 exact⟨t,h.nox,q⟩
theorem Fun.binds(F:Fun K x aX st f fd)
  (h:∀(kV cn pm:ad) (an:Option aa) (ay ct:ad) (us:List ad),us.length=ps.length->bindArgs (iF x aX (zX st) (qy st) (ji st) .none kV cn pm an ay ct) ⟨us,[]⟩=pure (ps.zip us)):Binds K fd ps []:=by
 obtain⟨oc,od,kV,cn,pm,an,ay,ct,fu,rfl,lk,cR⟩:=F.ex
 exact .all (h kV cn pm an ay ct)
theorem Jx{oc:ad}{od an:Option aa}{fu:Array (Option ad)}{kV cn pm ay ct:ad}(l:K.lookup f=some ⟨oc,od,.func (iF x aX (zX st) (qy st) (ji st) .none kV cn pm an ay ct),fu⟩)
  (c:dj K ay aX=true) (k:bQ K (.ref f)=true):Fun K x aX st f (iF x aX (zX st) (qy st) (ji st) .none kV cn pm an ay ct):=⟨⟨oc,od,kV,cn,pm,an,ay,ct,fu,rfl,l,c⟩,k⟩
end
theorem jS{n:Nat}(h:n<=1000):n < aF:=v8 h (by decide)
section
theorem pv(i:Nat){x:Str}{pos:Pos}(hN:X.N[i]?=some x:=by rfl)(hv:Vis X.env.scope x:=by first | exact Or.inl rfl | exact Or.inr (Or.inl rfl) | exact Or.inr (Or.inr rfl))(hd:(x == ("__debug__" : Str))=false:=by decide)
  (cR:(x == ("__classdict__" : Str))=false:=by decide):PE X (.Name x pos) (jcY i):=jew hN hv hd cR
end
variable {A B:Prop}
theorem yj(h:B):if false=true then A else B:=by
 rw[Tt bF];exact h
theorem kY(h:A):if true=true then A else B:=by
 rw[Tu rfl];exact h
theorem jZ{c:Prop}[Decidable c](h1:c->A)(h2:¬c->B):if c then A else B:=by
 by_cases h:c
 .rw[Tu h]
  exact h1 h
 .rw[Tt h]
  exact h2 h
def Same(H H':Hp):Prop:=∀b o,H b=some o->H' b=some o
theorem Same.refl(H:Hp):Same H H:=fun _ _ h=>h
variable {H:Hp}
theorem Same.trans{H1 H2:Hp}(a:Same H H1)(b:Same H1 H2):Same H H2:=fun c o h=>b c o (a c o h)
theorem Same.free{H':Hp}(e:Same H H'){l:aa}(h:H' l=Option.none):H l=Option.none:=by
 cases q:H l with
 | none=>rfl
 | some o=>
  rw[e l o q]at h
  cases h
theorem jfg:(NameKind.free == NameKind.free)=true:=rfl
def yH(cells:List (Str×aa)):List (Str×gz)->List (Str×aa)->List (Str×aa)
 | [],aP=>aP
 | (n,k) :: r,aP=>if k == .free then yH cells r ((n,(cells.lookup n).getD 0) :: aP) else yH cells r aP
theorem jba{env:Env}:∀(names:List (Str×gz)) (aP:List (Str×aa)),(∀x∈names,x.2=.free->(env.cells.lookup x.1).isSome=true)->
  (forIn names aP fun x (cs:List (Str×aa))=>(match x with | (name,kind)=>if (kind == NameKind.free)=true then do let c <- cellOf env name;pure (ForInStep.yield ((name,c) :: cs)) else pure (ForInStep.yield cs):Sem (ForInStep (List (Str×aa)))))=(pure (yH env.cells names aP):Sem (List (Str×aa)))
 | [],aP,_=>by simp only[wf];rfl
 | (n,k) :: r,aP,h=>by
  have ih:=fun a=>jba (env:=env) r a fun x hx=>h x (bu _ hx)
  rw[DZ];by_cases hk:k=.free
  .subst hk
   have q:=h (n,.free) bt rfl;obtain⟨c,hc⟩:=vZ.mp q;have e:cellOf env n=pure c:=by unfold cellOf;rw[show env.cells.lookup n=some c from hc]
   simp only[beq_self_eq_true,if_true,e,pure_bind];rw[ih];show _=pure (if (NameKind.free == NameKind.free)=true then yH env.cells r ((n,(env.cells.lookup n).getD 0) :: aP) else _);rw[Tu jfg,show env.cells.lookup n=some c from hc];rfl
  .have hb:(k == NameKind.free)=false:=by simpa using hk
   simp only[hb,sL,if_false,pure_bind];rw[ih];show _=pure (if (k == NameKind.free)=true then _ else yH env.cells r aP);rw[hb];rfl
variable {scope:bO}
theorem yG{env:Env}(h:∀x∈scope.names,x.2=.free->(env.cells.lookup x.1).isSome=true):closureFor scope env=pure (yH env.cells scope.names []):=by
 unfold closureFor;have e:=jba (env:=env) scope.names [] h;simp only[bind_pure]at *;exact e
theorem jb1{cells:List (Str×aa)}:∀(names:List (Str×gz)) (aP:List (Str×aa)),(∀x∈names,x.2=.free->(cells.lookup x.1).isSome=true)->(∀x c,aP.lookup x=some c->cells.lookup x=some c)->
  ∀x c,(yH cells names aP).lookup x=some c->cells.lookup x=some c
 | [],aP,_,ha=>ha
 | (n,k) :: r,aP,h,ha=>by
  unfold yH;by_cases hk:k=.free
  .subst hk
   rw[Tu jfg];refine jb1 r _ (fun x hx=>h x (bu _ hx)) fun x c e=>?_
   by_cases hx:x=n
   .subst hx
    rw[mL]at e;obtain⟨d,hd⟩:=vZ.mp (h (x,.free) bt rfl);have pX:cells.lookup x=some d:=hd;rw[pX]at e |-;exact e
   .rw[gC,Tv.mpr hx]at e
    exact ha x c e
  .rw[Tt (by simpa using hk)]
   exact jb1 r _ (fun x hx=>h x (bu _ hx)) ha
theorem jaj{cells:List (Str×aa)}:∀(names:List (Str×gz)) (aP:List (Str×aa)) (x:Str),(aP.lookup x).isSome=true->((yH cells names aP).lookup x).isSome=true
 | [],aP,_,ha=>ha
 | (n,k) :: r,aP,x,ha=>by
  unfold yH;split
  .refine jaj r _ x ?_
   rw[gC];split
   .rfl
   .exact ha
  .exact jaj r _ x ha
theorem jb2{cells:List (Str×aa)}:∀(names:List (Str×gz)) (aP:List (Str×aa)) (x:Str),(x,NameKind.free)∈names->((yH cells names aP).lookup x).isSome=true
 | [],_,_,h=>by simp at h
 | (n,k) :: r,aP,x,h=>by
  unfold yH;rcases aN.mp h with e | h
  .obtain⟨e1,e2⟩:=Prod.mk.inj e
   subst e1 e2;rw[Tu jfg];refine jaj r _ _ ?_;rw[mL];rfl
  .split
   .exact jb2 r _ x h
   .exact jb2 r _ x h
theorem zH{env:Env}:∀{names:List (Str×gz)} {x:Str} {k:gz},
  (names.map fun (n,k)=>if (k == NameKind.free && env.scope.kind == .function && env.kindOf n == some .cell) then (n,NameKind.cell) else (n,k)).lookup x=some k->
   names.lookup x=some k\/(k=.cell/\names.lookup x=some .free)
 | [],_,_,h=>by simp at h
 | (n,k') :: r,x,k,h=>by
  rw[bE]at h;by_cases hx:x=n
  .subst hx
   rw[mL];by_cases hc:(k' == NameKind.free && env.scope.kind == .function && env.kindOf x == some .cell)=true
   .simp only[hc,if_true]at h
    rw[mL]at h;have hk:k'=.free:=by
     simp only[cm,beq_iff_eq]at hc;exact hc.1.1
    exact .inr ⟨(bZ h).symm,by rw[hk]⟩
   .simp only[hc]at h
    rw[Tt (by simp),mL]at h;exact .inl h
  .have e:(x == n)=false:=Tv.mpr hx
   have h':(r.map fun (n,k)=>if (k == NameKind.free && env.scope.kind == .function && env.kindOf n == some .cell) then (n,NameKind.cell) else (n,k)).lookup x=some k:=by
    by_cases hc:(k' == NameKind.free && env.scope.kind == .function && env.kindOf n == some .cell)=true
    .simp only[hc,if_true]at h
     rw[gC,e]at h;exact h
    .simp only[hc]at h
     rw[Tt (by simp),gC,e]at h;exact h
   have ih:=@zH env r x k h';rw[gC,e];exact ih
theorem JP{env:Env}:∀{names:List (Str×gz)} {x:Str},names.lookup x=some .free->
  (names.map fun (n,k)=>if (k == NameKind.free && env.scope.kind == .function && env.kindOf n == some .cell) then (n,NameKind.cell) else (n,k)).lookup x=some .cell\/
  (names.map fun (n,k)=>if (k == NameKind.free && env.scope.kind == .function && env.kindOf n == some .cell) then (n,NameKind.cell) else (n,k)).lookup x=some .free
 | [],_,h=>by simp at h
 | (n,k') :: r,x,h=>by
  rw[bE];by_cases hx:x=n
  .subst hx
   rw[mL]at h
   cases h
   by_cases hc:(NameKind.free == NameKind.free && env.scope.kind == .function && env.kindOf x == some .cell)=true
   .simp only[hc,if_true]
    exact .inl mL
   .simp only[hc]
    rw[Tt (by simp)];exact .inr mL
  .have e:(x == n)=false:=Tv.mpr hx
   rw[gC,e]at h;have ih:=@JP env r x h;by_cases hc:(k' == NameKind.free && env.scope.kind == .function && env.kindOf n == some .cell)=true
   .simp only[hc,if_true]
    rw[gC,e];exact ih
   .simp only[hc]
    rw[Tt (by simp),gC,e];exact ih
def blk(X:Cx)(scope:bO)(own:List Str)(fr:List Nat)(s:af)(H:Hp)(ex:List aa):Cx where
 prog:=X.prog
 w:=X.w
 K:=X.K
 mg:=X.mg
 base:=X.base
 A:=X.A
 N:=own++fr.map fun j=>X.N.getD j (bx "")
 s₀:=s
 H₀:=H
 env:=compEnvC scope (yH X.env.cells scope.names []) s.heap.objs.size X.env
 outer:=X.stack
 stack:=X.stack
 ex:=ex
 fn:=fun _=>false
 calm:=X.calm
 pn:=[]
 xe:=fun _ _=>False
def jb5(own:List Str)(fr:List Nat)(σ:St):St:=own.map (fun _=>none)++fr.map fun j=>(σ[j]?).join
structure CompOk(X:Cx)(scope:bO)(fr:List Nat):Prop where
 kind:scope.kind=.function
 nocell:∀y∈scope.names,y.2≠.cell
 loc:∀y∈scope.names,y.2=.local->scope.names.lookup y.1=some .local
 frees:∀y∈scope.names,y.2=.free->X.env.scope.names.lookup y.1=some .cell\/X.env.scope.names.lookup y.1=some .free
 fr:∀j∈fr,scope.names.lookup (X.N.getD j (bx ""))=some .free
variable {fr:List Nat}{s:af}
theorem K6{own:List Str}{ac:List (aa×Obj)}{σ:St}{ex:List aa}{h1:au}{t1:Nat}(I:Inv X ac σ H s)(O:CompOk X scope fr)
  (hex:∀b∈ex,yK X ac H b/\b < s.heap.objs.size) (fB:h1.Ns s.heap.objs.size fun _=>none) (hk:∀b o,s.heap.get? b=some o->h1.get? b=some o) :
  Inv (blk X scope own fr s H ex) [] (jb5 own fr σ) H { s with heap:=h1,toks:=t1 }:=by
 have ia:∀x∈scope.names,x.2=.free->(X.env.cells.lookup x.1).isSome=true:=fun x hx e=>by
  obtain⟨c,hc⟩:=I.ok.has x.1 (O.frees x hx e);rw[hc];rfl
 have sub:∀x c,(yH X.env.cells scope.names []).lookup x=some c->X.env.cells.lookup x=some c:=jb1 scope.names [] ia fun x c e=>by simp at e
 have Be:∀x,scope.names.lookup x=some .free->∃c,(yH X.env.cells scope.names []).lookup x=some c:=fun x e=>vZ.mp (jb2 scope.names [] x (mC e))
 have hcne:∀x c,X.env.cells.lookup x=some c->c < s.heap.objs.size:=fun x c e=>by
  obtain⟨v,q⟩:=I.cell x c e;exact q.lt
 have hN:σ.length=X.N.length:=I.len
 refine⟨⟨I.ok.mod,O.kind,I.ok.glob,I.ok.blt,aB _,fun x y c e1 e2=>I.ok.inj x y c (sub x c e1) (sub y c e2),fun x hx=>?_,fun x c z=>absurd z (by simp[blk]),I.ok.hd,I.ok.frames,.inl rfl,fun b hb=>⟨aT (hex b hb).2,fun x c e=>(hex b hb).1.2.2.2.2.1 x c (sub x c e)⟩,
  fun b o e=>I.bs b o e,aU I.ok.bsz I.sz,fun b o e hb=>?_,fun b hb z=>?_,I.stack,I.stkFree⟩,
  rfl,I.bare,Un.kept hk,⟨_,fB,fun i x v e1 e2 e3=>?_⟩,fun x c e=>?_,I.fresh,fun x c e=>I.freeC x c (sub x c e),fun p hp=>absurd hp (by simp[blk]),I.hok.kept hk,?_⟩
 .have aZ:(relabel scope X.env).names.lookup x=some .cell\/(relabel scope X.env).names.lookup x=some .free:=hx
  rcases aZ with hx | hx
  .rcases zH hx with q | ⟨_,q⟩
   .exact absurd rfl (O.nocell _ (mC q))
   .exact Be x q
  .rcases zH hx with q | ⟨q,_⟩
   .exact Be x q
   .cases q
 .rcases (hex b hb).1.2.2.2.1 with z | z
  .exact I.ok.noex b o e z
  .exact absurd (cj (aL e) (aU I.ok.bsz z)) (g0 _)
 .obtain⟨_,f1,f2,_⟩:=(hex b hb).1
  rcases aN.mp (I.stkSub b z) with q | q
  .exact f1 q
  .exact f2 q
 .have mi:(own++fr.map fun j=>X.N.getD j (bx ""))[i]?=some x:=e1
  unfold jb5 at e2
  have hi:own.length<=i:=by
   by_cases h:own.length<=i
   .exact h
   .rw[S4 (by simpa using Nat.lt_of_not_le h),bU]at e2
    cases q:own[i]? with
    | none=>rw[q]at e2;cases e2
    | some z=>rw[q]at e2;cases e2
  rw[Lk hi,bU]at mi
  rw[Lk (by simpa using hi),bU,aC]at e2
  cases q:fr[i - own.length]? with
  | none=>rw[q]at e2;cases e2
  | some j=>
   rw[q]at mi e2
   have uh:X.N.getD j (bx "")=x:=bZ mi
   have gS:(σ[j]?).join=some v:=bZ e2
   have Gu:σ[j]?=some (some v):=by
    cases z:σ[j]? with
    | none=>rw[z]at gS;cases gS
    | some y=>rw[z]at gS;rw[<- gS];rfl
   have hj:j < X.N.length:=by rw[<- hN];exact (aY.mp Gu).1
   have Bx:X.N[j]?=some x:=by
    rw[aI hj,<- uh,sI,aI hj];rfl
   have hf:=O.fr j (Lg q)
   rw[uh]at hf
   have hv:=O.frees _ (mC hf) rfl
   obtain⟨m,_,hl⟩:=I.loc
   obtain⟨u,ru,lk⟩:=hl j x v Bx Gu (.inr hv)
   refine⟨u,ru,.inr ⟨?_,?_⟩⟩
   .exact JP hf
   .obtain⟨c,hc⟩:=Be x hf
    refine⟨c,hc,?_⟩
    rcases lk with⟨k,_⟩ | ⟨_,c',bC,z⟩
    .have k':X.env.scope.names.lookup x=some .local:=k
     rcases hv with hv | hv <;> · rw[k']at hv;cases hv
    .have:=sub x c hc
     rw[bC]at this
     cases this
     obtain⟨o,ho,hd⟩:=z
     exact⟨o,hk _ _ ho,hd⟩
 .obtain⟨v,o,ho,hd⟩:=I.cell x c (sub x c e)
  exact⟨v,o,hk _ _ ho,hd⟩
 .show (jb5 own fr σ).length=(own++fr.map fun j=>X.N.getD j (bx "")).length
  unfold jb5
  rw[aO,aO,aC,aC,aC]
theorem zo{own:List Str}{ac:List (aa×Obj)}{σ σ':St}{H':Hp}{s':af}{ex:List aa}(I:Inv X ac σ H s)(hex:∀b∈ex,yK X ac H b/\b < s.heap.objs.size)
  (J:Inv (blk X scope own fr s H ex) [] σ' H' s') {h':au} (hs:cr s.heap.objs.size s'.heap h'):Inv X ac σ H' { s' with heap:=h' }:=by
 have hC:H' s.heap.objs.size=none:=J.free
 have u:Un (frs X.stack) ex H H' s.heap s'.heap:=J.base
 have ne:∀b o,s.heap.get? b=some o->b≠s.heap.objs.size:=fun b o e=>aT (aL e)
 have rh:∀b o,b≠s.heap.objs.size->s'.heap.get? b=some o->h'.get? b=some o:=fun b o hb e=>(hs.2 b hb).trans e
 refine I.call' (ch:=ex) J.os ⟨fun b o e n hb hx=>?_,fun b o e n hb hx=>?_,u.free,fun b o e hx=>?_,u.tups,u.frzs,u.tbls,fun b o xs q e hb hx=>rh b o (ne b o e) (u.stay b o xs q e hb hx)⟩ (fun b o e=>?_) J.bare fun b hb=>?_
 .exact rh b o (ne b o e) (u.keep b o e n hb hx)
 .obtain⟨sl,q⟩:=u.slot b o e n hb hx
  exact⟨sl,rh b _ (ne b o e) q⟩
 .obtain⟨o',q⟩:=u.there b o e hx
  exact⟨o',rh b _ (ne b o e) q⟩
 .refine (J.hok b o e).stay (fun c v hc q=>rh c v ?_ q) (fun _ q=>q) fun _ _ q=>q
  rintro z
  rcases hc with y | y
  .rw[y]at z;rw[z,hC]at e;cases e
  .rw[z,hC]at y;cases y
 .obtain⟨f0,f1,f2,f3,f4,f5⟩:=(hex b hb).1
  exact⟨f3,f1,f4,f5⟩
def PTs(X:Cx)(ifs:List aj)(t:TT):Prop:=
 ∀(ac:List (aa×Obj)) (s:af) (σ:St) (H:Hp) (Q:Bool->Hp->Prop),Inv X ac σ H s->t σ H Q->
  ah (am X.prog X.w) X.A (forIn ifs true fun c r=>if r=true then do let ok <- isTrue c X.env (eval c X.env);pure (ForInStep.yield ok) else pure (ForInStep.yield r)) (TP X ac σ Q) X.xe s
def Jo:TT:=fun _ H Q=>Q true H
def YV(J:It)(p:aa)(g:TG)(tt:TT)(te:TE)(Q:VK)(σ:St)(H:Hp):Prop:=∃W:Nat->Nat->St->Hp->Prop,(∃m,W 0 m σ H)/\
 ∀i m σ' H',W i m σ' H'->(J.stop i H'/\Q (.ref p) H')\/(J.go i H'/\∃N:St->Hp->Prop,(∀σ3 H3,N σ3 H3->∃m',m' < m/\W (i+1) m' σ3 H3)/\∀x H2,J.yld i H' x H2->g x σ' H2 fun σ3 H3=>tt σ3 H3 fun c H4=>
  if c=true then te σ3 H4 fun y H5=>∃ys,H5 p=some (.lst ys)/\ys.length < aF/\N σ3 (upd H5 p (.lst (ys++[y]))) else N σ3 H4)
def Zf(own:List Str)(fr:List Nat)(wi:TI)(g:TG)(tt:TT)(te:TE):TE:=fun σ H Q=>wi σ H fun J H1=>∀p,H1 p=none->YV J p g tt te Q (jb5 own fr σ) (upd H1 p (.lst []))
def jgy(M:gY)(A:aM)(C:aa)(XE:ad->af->Prop)(x:ad)(s':af):Prop:=
 ∃m,s'.heap.Ns C m/\∀h',cr C s'.heap h'->∀Gx:Env,Gx.locals=C->ah M A (PySem.passOn "comprehension.variables-let-go" x Gx:Sem ad) (fun _ _=>False) XE { s' with heap:=h' }
variable {aV iter:aj}{ifs:List aj}{pos:Pos}
theorem Y4{prog:az}{A:aM}{target:aj}{it aP:ad}{env:Env}{R:ly->af->Prop}{E:ad->af->Prop}(no:∀x s',E x s'->rP (am prog w) A env (fun e s'=>R (.error e) s') x s')(I:Nat->af->Prop)
  (cY:∀n s,I n s->ah (am prog w) A (dh it) (fun r s1=>match r with
   | none=>R (.ok .next) s1
   | some v=>ah (am prog w) A (le target it v) (fun _ fT=>ah (am prog w) A (assign target env v) (fun _ s2=>
     ah (am prog w) A (forIn ifs true fun c r=>if r=true then do let ok <- isTrue c env (eval c env);pure (ForInStep.yield ok) else pure (ForInStep.yield r)) (fun ok s3=>
      if ok=true then ah (am prog w) A (eval aV env) (fun x s4=>
       ah (am prog w) A (call (.builtin "list.append") [aP,x]) (fun _ s5=>∃m,m < n/\I m s5) E s4) E s3
      else ∃m,m < n/\I m s3) E s2) E fT) E s1) E s)
  (n:Nat) (h:I n s):cD (am prog w) A (.compLoop (.ListComp aV [⟨target,iter,ifs,0⟩] scope pos) 0 it aP env) R s:=by
 refine Dj rfl I (fun n s hI=>?_) n h
 show ah _ A ((rX (.ListComp aV [⟨target,iter,ifs,0⟩] scope pos) 0 it aP env).onRaise (fun x=>do rQ x env;De x)) _ _ s
 refine C9 ?_
 rw[compTurn_list]
 refine ae (ft (ae (bi (cY n s hI) (fun r s1 h1=>?_) no)))
 cases r with
 | none=>exact aq h1
 | some v=>
  refine ae (bi h1 (fun _ fT fH=>?_) no)
  refine ae (bi fH (fun _ s2 h2=>ae (bi h2 (fun ok s3 h3=>?_) no)) no)
  cases ok with
  | false=>exact aq ⟨rfl,h3⟩
  | true=>
   exact ae (ae (bi h3 (fun x s4 h4=>ae (bi h4 (fun _ s5 h5=>aq (aq ⟨rfl,h5⟩)) no)) no))
variable {g:TG}{tt:TT}{te:TE}
theorem jdP{tg:aj}{wi:TI}{use:Option (ad->Sem Unit)}{own:List Str}(hc:X.calm=true)(O:CompOk X scope fr)(hi:PI X tg iter wi)
  (hb:∀{ac:List (aa×Obj)} {σ:St} {H:Hp} {s:af} {ex:List aa},Inv X ac σ H s->(∀b∈ex,yK X ac H b/\b < s.heap.objs.size)->∃xe:ad->af->Prop,(∀x s',xe x s'->rP (am X.prog X.w) X.A (blk X scope own fr s H ex).env (jgy (am X.prog X.w) X.A s.heap.objs.size X.xe) x s')/\PG ((blk X scope own fr s H ex).wish xe) tg g/\PTs ((blk X scope own fr s H ex).wish xe) ifs tt/\PE ((blk X scope own fr s H ex).wish xe) aV te)
  (hs:∀x,du iter X.env x=pure x) {ac:List (aa×Obj)} {s:af} {σ:St} {H:Hp} {Q:VK} {R:ad->af->Prop} (I:Inv X ac σ H s) (h:Zf own fr wi g tt te σ H Q)
  (fin:∀(p C:aa) (H':Hp) (s':af) (m:Str->Option ad),s'.heap.Ns C m->H' C=none->C≠X.env.locals->(∀x c,X.env.cells.lookup x=some c->c≠C)->X.s₀.heap.objs.size<=C->(∀p∈X.pn++ac,p.1≠C)->Inv X ac σ H' s'->(∀h',cr C s'.heap h'->Inv X ac σ H' { s' with heap:=h' })->Q (.ref p) H'->
   li (am X.prog X.w) X.A X.xe use R (.ref p) C (.ok .next) s') :
  ah (am X.prog X.w) X.A (comprehension (.ListComp aV [⟨tg,iter,ifs,0⟩] scope pos) scope X.env (rW [⟨tg,iter,ifs,0⟩] pos) (vJ []) false (eval iter X.env) use) R X.xe s:=by
 have ia:∀x∈scope.names,x.2=.free->(X.env.cells.lookup x.1).isSome=true:=fun x aZ e=>by
  obtain⟨c,hc⟩:=I.ok.has x.1 (O.frees x aZ e);rw[hc];rfl
 refine Da (cl:=yH X.env.cells scope.names []) rfl hs (yG ia) O.kind O.loc ?_
 refine thn (hi ac s σ H _ I h) fun v s1 h1=>thn h1 fun m8 s2 h2=>?_
 obtain⟨it,fp,tn,J,H2,e,I2,T,eZ,f2,q2⟩:=h2
 subst e
 refine dY ?_
 have nw:H2 s2.heap.objs.size=none:=I2.fresh
 obtain⟨W2,⟨m0,w0⟩,cY⟩:=q2 _ nw
 generalize hp:s2.heap.objs.size=p at *
 have I3:Inv X ac σ (upd H2 p (.lst [])) { s2 with heap:=s2.heap.push { cls:=.type "list",dict:=none,data:=.seq ([]:List ad).toArray } }:=by
  have:=I2.lnew (ys:=[]) (its:=[]) (t':=s2.toks) .nil (bA _);rw[hp]at this;exact this
 have fX:∀b∈fp,b < s2.heap.objs.size:=fun b hb=>by
  obtain⟨o,ho,_⟩:=T.obj _ _ eZ b hb;exact aL ho
 have gn:∀b∈fp,(upd H2 p (.lst [])) b=none:=fun b hb=>by
  rw[jp (by rw[<- hp];exact aT (fX b hb))];exact (f2 b hb).1
 generalize eC:({ s2 with heap:=s2.heap.push { cls:=.type "list",dict:=none,data:=.seq ([]:List ad).toArray } }:af)=s3 at *
 have lH:s3.heap.objs.size=p+1:=by
  rw[<- eC];show (s2.heap.push _).objs.size=_;rw[lA,hp]
 have eY:tn 0 s3.heap:=T.keep 0 _ _ eZ fun b hb o e=>by
  rw[<- eC];exact aQ _ e
 refine C_ O.nocell (by intro y hy;simp at hy) (fun h4 gg lS=>?_) O.kind
 have k4:∀b o,s3.heap.get? b=some o->h4.get? b=some o:=fun b o e=>lS.extBut b o (aT (aL e)) (aQ _ e)
 have lV:h4.Ns s3.heap.objs.size fun _=>none:=by
  have z:(fun x:Str=>([]:List (Str×ad)).reverse.lookup x)=fun _=>none:=by funext x;rfl
  rw[z]at gg;exact gg
 have fo:∀b∈fp,yK X ac (upd H2 p (.lst [])) b/\b < s3.heap.objs.size:=fun b hb=>⟨⟨gn b hb,(f2 b hb).2⟩,by rw[lH,<- hp];exact sq (fX b hb)⟩
 obtain⟨xe,MH,hg,ht,he⟩:=hb I3 fo
 have I4:=(K6 (own:=own) (fr:=fr) (t1:=s3.toks+([]:List (Str×ad)).length) I3 O fo lV k4).wish xe
 have c_:tn 0 h4:=T.keep 0 _ _ eY fun b hb o e=>k4 b o e
 have cZ:∀{H':Hp} {pn:List (aa×Obj)} {s':af} {σ':St},Inv ((blk X scope own fr s3 (upd H2 p (.lst [])) fp).wish xe) [] σ' H' s'->(∀b∈fp,H' b=none)->∀b∈fp,yK ((blk X scope own fr s3 (upd H2 p (.lst [])) fp).wish xe) [] H' b:=fun {H' pn s' σ'} J hn b aJ=>
  ⟨hn b aJ,(J.ok.exf b aJ).1,J.ok.exfs b aJ,.inl aJ,(J.ok.exf b aJ).2,fun p hp=>absurd hp (by simp[blk])⟩
 have lM:∀x c,X.env.cells.lookup x=some c->c≠s3.heap.objs.size:=fun x c e=>by
  obtain⟨v,q⟩:=I3.cell x c e;exact aT q.lt
 have fY:∀s5:af,s5={ s3 with heap:=h4,toks:=s3.toks+([]:List (Str×ad)).length }->
   cD (am X.prog X.w) X.A (.compLoop (.ListComp aV [⟨tg,iter,ifs,0⟩] scope pos) 0 (.ref it) (.ref p) (blk X scope own fr s3 (upd H2 p (.lst [])) fp).env) (li (am X.prog X.w) X.A X.xe use R (.ref p) s3.heap.objs.size) s5:=by
  rintro s5 rfl
  refine Y4 (E:=xe) MH (fun n s'=>∃i σ' H',Inv ((blk X scope own fr s3 (upd H2 p (.lst [])) fp).wish xe) [] σ' H' s'/\tn i s'.heap/\(∀b∈fp,H' b=none)/\W2 i n σ' H') ?_ m0 ⟨0,_,_,I4,c_,gn,w0⟩
  rintro n s6 ⟨i,σ6,H6,I6,fP,gm,w6⟩
  rcases cY i n σ6 H6 w6 with⟨stop,qn⟩ | ⟨go,N,hN,step⟩
  .refine thn (T.done ((blk X scope own fr s3 (upd H2 p (.lst [])) fp).wish xe) rfl rfl rfl hc i [] s6 σ6 H6 _ I6 (cZ (pn:=[]) I6 gm) fP stop) fun r s7 ⟨hr,I7⟩=>?_
   subst hr
   obtain⟨m,hm,_⟩:=I7.loc
   exact fin p _ H6 s7 m hm I7.free (mK I3.lt) lM I3.sz (fun p hp=>aT (aL (I3.pin p hp).1)) (zo I3 fo I7.unwish (iH ..)) (fun h' b_=>zo I3 fo I7.unwish b_) qn
  .refine thn (T.item ((blk X scope own fr s3 (upd H2 p (.lst [])) fp).wish xe) rfl rfl rfl hc i [] s6 σ6 H6 _ I6 (cZ (pn:=[]) I6 gm) fP go) fun r s7 ⟨u,hr,h7⟩=>?_
   subst hr
   refine thn h7 fun _ s8 hM=>?_
   obtain⟨x,H8,I8,r8,y8,dO,mh⟩:=hM
   have mm:=I8.pinned (cZ (pn:=[]) I8 mh) (T.obj _ _ dO)
   refine thn (hg _ s8 σ6 H8 x u _ mm r8 (step x H8 y8)) fun _ s9 hM=>?_
   obtain⟨σ9,H9,I9,q9⟩:=hM
   refine thn (ht _ s9 σ9 H9 _ I9 q9) fun ok dP hM=>?_
   obtain⟨mq,i8,eB⟩:=hM
   have again:∀{bK:Hp} {bp:af},Inv ((blk X scope own fr s3 (upd H2 p (.lst [])) fp).wish xe) ([]++zq fp s8.heap) σ9 bK bp->(∃m',m' < n/\W2 (i+1) m' σ9 bK)->
     ∃m,m < n/\∃i σ' H',Inv ((blk X scope own fr s3 (upd H2 p (.lst [])) fp).wish xe) [] σ' H' bp/\tn i bp.heap/\(∀b∈fp,H' b=none)/\W2 i m σ' H':=fun {bK bp} ci ⟨m',hm,g_⟩=>by
    refine⟨m',hm,i+1,σ9,bK,ci.unpinned,T.keep _ _ _ dO fun b aJ o e=>(ci.pin (b,o) (b4 _ (b4 _ (kj aJ e)))).1,fun b aJ=>?_,g_⟩
    obtain⟨o,e,d⟩:=T.obj _ _ dO b aJ
    exact (ci.pin (b,o) (b4 _ (b4 _ (kj aJ e)))).2.1
   cases ok with
   | false=>
    rw[Tt bF]at eB |-
    exact again i8 (hN _ _ eB)
   | true=>
    rw[Tu rfl]at eB |-
    refine thn (he _ dP σ9 mq _ i8 eB) fun yv bp hM=>?_
    obtain⟨y,bK,ci,lK,ys,cI,hlen,o6⟩:=hM
    have ap:=kE (X:=(blk X scope own fr s3 (upd H2 p (.lst [])) fp).wish xe) ([]++zq fp s8.heap) bp σ9 bK (.ref p) [y] (.ref p) [yv] (fun _ mo=>∃m',m' < n/\W2 (i+1) m' σ9 mo) ci rfl (.cons lK .nil) ⟨p,ys,y,rfl,rfl,cI,hlen,hN _ _ o6⟩
    exact thn ap fun _ bv ⟨_,mo,mn,_,o0⟩=>again mn o0
 exact QV (fY _ rfl) (T.self X.A 0 _ _ _ c_ (fY _ rfl))
theorem ZD{own:List Str}{tg:aj}{wi:TI}{use:Option (ad->Sem Unit)}(hc:X.calm=true)(O:CompOk X scope fr)(hi:PI X tg iter wi)
  (hb:∀s H ex,PG (blk X scope own fr s H ex) tg g/\PTs (blk X scope own fr s H ex) ifs tt/\PE (blk X scope own fr s H ex) aV te)
  (hs:∀x,du iter X.env x=pure x) {ac:List (aa×Obj)} {s:af} {σ:St} {H:Hp} {Q:VK} {R:ad->af->Prop} (I:Inv X ac σ H s) (h:Zf own fr wi g tt te σ H Q) (hx:∀e s',X.xe e s'↔False)
  (fin:∀(p C:aa) (H':Hp) (s':af) (m:Str->Option ad),s'.heap.Ns C m->H' C=none->C≠X.env.locals->(∀x c,X.env.cells.lookup x=some c->c≠C)->X.s₀.heap.objs.size<=C->(∀p∈X.pn++ac,p.1≠C)->Inv X ac σ H' s'->(∀h',cr C s'.heap h'->Inv X ac σ H' { s' with heap:=h' })->Q (.ref p) H'->
   li (am X.prog X.w) X.A X.xe use R (.ref p) C (.ok .next) s') :
  ah (am X.prog X.w) X.A (comprehension (.ListComp aV [⟨tg,iter,ifs,0⟩] scope pos) scope X.env (rW [⟨tg,iter,ifs,0⟩] pos) (vJ []) false (eval iter X.env) use) R X.xe s:=by
 exact jdP hc O hi (fun {_ _ H s ex} _ _=>⟨(blk X scope own fr s H ex).xe,fun x s' z=>z.elim,hb s H ex⟩) hs I h fin
theorem jf0{X:Cx}{scope:bO}{aV tg iter:aj}{ifs:List aj}{pos:Pos}{wi:TI}{g:TG}{tt:TT}{te:TE}(own:List Str)(fr:List Nat)(hc:X.calm=true)(O:CompOk X scope fr)(hi:PI X.nox tg iter wi)
  (hb:∀s H ex,PG (blk X.nox scope own fr s H ex) tg g/\PTs (blk X.nox scope own fr s H ex) ifs tt/\PE (blk X.nox scope own fr s H ex) aV te)
  (hs:∀x,du iter X.env x=pure x:=by intro _;rfl):PE X.nox (.ListComp aV [⟨tg,iter,ifs,0⟩] scope pos) (Zf own fr wi g tt te):=by
 intro ac s σ H Q I h
 rw[eval_ListComp]
 refine ZD (X:=X.nox) (use:=none) (Q:=Q) hc ⟨O.kind,O.nocell,O.loc,O.frees,O.fr⟩ hi hb hs I h (fun _ _=>Iff.rfl) fun p C H' s' m hm hC _ _ _ _ I' back q=>?_
 exact⟨m,hm,fun h' b_=>⟨.ref p,H',back h' b_,rfl,q⟩⟩
variable {a:aa}{xs:List V}
section
variable {p:aa}{σ:St}{Q:VK}
theorem Jm(J:It)(n:Nat)(Pv:Nat->St->Hp->Prop)(h0:Pv 0 σ H)(stop:∀σ' H',Pv n σ' H'->J.stop n H')(go:∀i σ' H',i < n->Pv i σ' H'->J.go i H')
  (hs:∀i σ' H',i < n->Pv i σ' H'->∀x H2,J.yld i H' x H2->g x σ' H2 fun σ3 H3=>tt σ3 H3 fun c H4=>if c=true then te σ3 H4 fun y H5=>∃ys,H5 p=some (.lst ys)/\ys.length < aF/\Pv (i+1) σ3 (upd H5 p (.lst (ys++[y]))) else Pv (i+1) σ3 H4)
  (hd:∀σ' H',Pv n σ' H'->Q (.ref p) H'):YV J p g tt te Q σ H:=by
 refine⟨fun i m σ H=>m=n - i/\i<=n/\Pv i σ H,⟨n,by simp,bA _,h0⟩,?_⟩
 rintro i m σ1 H1 ⟨rfl,hi,pv⟩
 by_cases a_:i < n
 .exact .inr ⟨go i σ1 H1 a_ pv,Pv (i+1),fun σ3 H3 q=>⟨n - (i+1),by omega,rfl,a_,q⟩,hs i σ1 H1 a_ pv⟩
 .have e:i=n:=by omega
  subst e
  exact .inl ⟨stop σ1 H1 pv,hd σ1 H1 pv⟩
theorem yF{lo:Int}{n:Nat}(Pv:Nat->St->Hp->Prop)(h0:Pv 0 σ H)
  (hs:∀i σ' H',i < n->Pv i σ' H'->g (.int (lo+i)) σ' H' fun σ3 H3=>tt σ3 H3 fun c H4=>if c=true then te σ3 H4 fun y H5=>∃ys,H5 p=some (.lst ys)/\ys.length < aF/\Pv (i+1) σ3 (upd H5 p (.lst (ys++[y]))) else Pv (i+1) σ3 H4)
  (hd:∀σ' H',Pv n σ' H'->Q (.ref p) H'):YV (Itr lo n) p g tt te Q σ H:=
 Jm (Itr lo n) n Pv h0 (fun _ _ _=>aB _) (fun i _ _ h _=>h) (fun i σ' H' h pv x H2 y=>by
  obtain⟨e1,e2⟩:=y;subst e1 e2;exact hs i σ' _ h pv) hd
theorem jfr(Pv:Nat->St->Hp->Prop)(h0:Pv 0 σ H)(hl:∀i σ' H',i<=xs.length->Pv i σ' H'->SqT K H' a xs)
  (hs:∀i x σ' H',xs[i]?=some x->Pv i σ' H'->g x σ' H' fun σ3 H3=>tt σ3 H3 fun c H4=>if c=true then te σ3 H4 fun y H5=>∃ys,H5 p=some (.lst ys)/\ys.length < aF/\Pv (i+1) σ3 (upd H5 p (.lst (ys++[y]))) else Pv (i+1) σ3 H4)
  (hd:∀σ' H',Pv xs.length σ' H'->Q (.ref p) H'):YV (Itt K a) p g tt te Q σ H:=
 Jm (Itt K a) xs.length Pv h0 (fun σ' H' pv=>⟨xs,hl _ σ' H' (aB _) pv,aB _⟩) (fun i σ' H' h pv=>⟨xs,xs[i],hl i σ' H' (cP h) pv,by simp[h]⟩) (fun i σ' H' h pv x H2 y=>by
  obtain⟨e1,e2⟩:=y;subst e1;exact hs i x σ' _ (e2 xs (hl i σ' _ (cP h) pv)) pv) hd
theorem kU(Pv:Nat->St->Hp->Prop)(h0:Pv 0 σ H)(hl:∀i σ' H',i<=xs.length->Pv i σ' H'->SqL K H' a xs)
  (hs:∀i x σ' H',xs[i]?=some x->Pv i σ' H'->g x σ' H' fun σ3 H3=>tt σ3 H3 fun c H4=>if c=true then te σ3 H4 fun y H5=>∃ys,H5 p=some (.lst ys)/\ys.length < aF/\Pv (i+1) σ3 (upd H5 p (.lst (ys++[y]))) else Pv (i+1) σ3 H4)
  (hd:∀σ' H',Pv xs.length σ' H'->Q (.ref p) H'):YV (Itl K a) p g tt te Q σ H:=
 Jm (Itl K a) xs.length Pv h0 (fun σ' H' pv=>⟨xs,hl _ σ' H' (aB _) pv,aB _⟩) (fun i σ' H' h pv=>⟨xs,xs[i],hl i σ' H' (cP h) pv,by simp[h]⟩) (fun i σ' H' h pv x H2 y=>by
  obtain⟨e1,e2⟩:=y;subst e1;exact hs i x σ' _ (e2 xs (hl i σ' _ (cP h) pv)) pv) hd
end
inductive D where
 | int (i:Int) | str (x:Str) | tup (ds:List D)
mutual
def Held(H:Hp):D->V->Prop
 | .int i,v=>v=.int i
 | .str x,v=>v=.str x
 | .tup ds,v=>∃a xs,v=.ref a/\H a=some (.tup xs)/\HeldL H ds xs
def HeldL(H:Hp):List D->List V->Prop
 | [],vs=>vs=[]
 | d :: ds,vs=>∃v r,vs=v :: r/\Held H d v/\HeldL H ds r
end
mutual
theorem Held.mono{H H':Hp}(e:Same H H'):∀{d:D} {v:V},Held H d v->Held H' d v
 | .int i,v,h=>by unfold Held at h |-;exact h
 | .str x,v,h=>by unfold Held at h |-;exact h
 | .tup ds,v,h=>by
  unfold Held at h |-;obtain⟨a,xs,e1,e2,e3⟩:=h;exact⟨a,xs,e1,e a _ e2,HeldL.mono e e3⟩
theorem HeldL.mono{H H':Hp}(e:Same H H'):∀{ds:List D} {vs:List V},HeldL H ds vs->HeldL H' ds vs
 | [],vs,h=>by unfold HeldL at h |-;exact h
 | d :: ds,vs,h=>by
  unfold HeldL at h |-;obtain⟨v,r,e1,e2,e3⟩:=h;exact⟨v,r,e1,Held.mono e e2,HeldL.mono e e3⟩
end
theorem zm{i:Int}:Held H (.int i) (.int i):=by unfold Held;rfl
theorem j4:Held H (.str x) (.str x):=by unfold Held;rfl
theorem kc{ds:List D}(e:H a=some (.tup xs))(h:HeldL H ds xs):Held H (.tup ds) (.ref a):=by unfold Held;exact⟨a,xs,rfl,e,h⟩
theorem jx:HeldL H [] []:=by unfold HeldL;rfl
theorem jo{d:D}{ds:List D}{v:V}{r:List V}(h:Held H d v)(t:HeldL H ds r):HeldL H (d :: ds) (v :: r):=by unfold HeldL;exact⟨v,r,rfl,h,t⟩
theorem HeldL.length{H:Hp}:∀{ds:List D} {vs:List V},HeldL H ds vs->ds.length=vs.length
 | [],vs,h=>by unfold HeldL at h;subst h;rfl
 | d :: ds,vs,h=>by
  unfold HeldL at h;obtain⟨v,r,e1,_,e3⟩:=h;subst e1;rw[bo,bo,HeldL.length e3]
theorem HeldL.get{H:Hp}:∀{ds:List D} {vs:List V} {j:Nat} {d:D},HeldL H ds vs->ds[j]?=some d->∃v,vs[j]?=some v/\Held H d v
 | [],_,_,_,_,e=>by simp at e
 | d :: ds,vs,0,d',h,e=>by
  unfold HeldL at h;obtain⟨v,r,e1,e2,e3⟩:=h;simp at e;subst e e1;exact⟨v,rfl,e2⟩
 | d :: ds,vs,j+1,d',h,e=>by
  unfold HeldL at h;obtain⟨v,r,e1,e2,e3⟩:=h;subst e1;obtain⟨w,h1,h2⟩:=HeldL.get (j:=j) (d:=d') e3 (by simpa using e);exact⟨w,by simpa using h1,h2⟩
mutual
def D.depth:D->Nat
 | .int _=>0
 | .str _=>0
 | .tup ds=>D.depthL ds+1
def D.depthL:List D->Nat
 | []=>0
 | d :: ds=>max (D.depth d) (D.depthL ds)
end
theorem D.depthL_get:∀{ds:List D} {j:Nat} {d:D},ds[j]?=some d->d.depth<=D.depthL ds
 | [],_,_,e=>by simp at e
 | d :: ds,0,d',e=>by simp at e;subst e;unfold D.depthL;exact Nat.le_max_left _ _
 | d :: ds,j+1,d',e=>by unfold D.depthL;exact aU (D.depthL_get (j:=j) (by simpa using e)) (Nat.le_max_right _ _)
theorem yW:OpR X (eM .FloorDiv) (rI (fun _ j=>0 < j/\j < 2 ^ 200) fun i j=>.int (i / j)):=opI fun i j _ _ _ _ _ hc q=>by
 refine floordiv_int (by omega) ?_ (.inl (PyProof.noPylong_of_log2 ?_))
 .rw[Int.fdiv_eq_ediv_of_nonneg _ (by omega)]
  exact q
 .have h0:j.natAbs≠0:=by omega
  exact iL ((IZ h0).mpr (show j.natAbs < 2 ^ 200 by omega)) (by decide)
def qf:aj->Bool
 | .Starred _ _=>false
 | _=>true
theorem qM{e:aj}(h:qf e=true)(qV:List aj)(env:Env):bT (e :: qV) env=(false,eval e env) :: bT qV env:=by
 cases e <;> first | rfl | cases h
theorem yR(pos:Pos)(env:Env):∀es:List aj,es.all qf=true->(fM pos (bT es env)).any (·.1)=false
 | [],_=>rfl
 | e :: es,h=>by
  rw[g7,cm]at h;rw[qM h.1];have ih:=yR pos env es h.2;show (false || (fM pos (bT es env)).any (·.1))=false;rw[ih];rfl
theorem jid{X:Cx}{e:aj}{es:List aj}{te:TE}{t:TA}(ha:PE X e te)(hr:PA X es t)(hp:qf e=true:=by rfl):PA X (e :: es) (jcc te t):=jf2 ha hr (qM hp es X.env)
structure Fn(P:az)(w:ax)(K:av)(mg:Str->Option ad)(base:au)(k:Nat)(x:Str)(ps:List Str)(sp:Sp):Prop where
 ex:∃f fd,FnOk P w K mg base CX0 k f fd ps sp/\Binds K fd ps []/\bQ K (.ref f)=true/\mg x=some (.ref f)
theorem jgO{X:Cx}{k k':Nat}{x:Str}{ps:List Str}{sp:Sp}{e:aj}{es:List aj}{t:TA}{p pos:Pos}(F:Fn X.prog X.w X.K X.mg X.base k x ps sp)(hr:Room k' X.A)(ha:PA X (e :: es) t)(hk:k<=k':=by decide)(hg:Gl X x:=by rfl)
  (hd:(x == ("__debug__" : Str))=false:=by decide) (hp:(e :: es).all qf=true:=by rfl):PE X (.Call (.Name x p) (e :: es) [] pos) (jaA sp [] E0 t):=by
 obtain⟨f,fd,G,b,kp,m⟩:=F.ex
 rw[g7,cm]at hp
 exact jcp G (hr.mono hk) hg m kp b .nil jeF ha hd (qM hp.1 es X.env) (yR pos X.env es hp.2)
theorem Fn.mk'{P:az}{mg:Str->Option ad}{base:au}{k:Nat}{sp:Sp}(F:Fun K x x st f fd)(b:Binds K fd ps [])(m:mg x=some (.ref f))(G:FnOk P w K mg base CX0 k f fd ps sp):Fn P w K mg base k x ps sp:=⟨f,fd,G,b,F.kp,m⟩
theorem j9{sc:bO}{N:List Str}(h1:X.env.scope=sc)(h2:X.N=N) (h:scope.kind=.function/\(∀y∈scope.names,y.2≠.cell)/\(∀y∈scope.names,y.2=.local->scope.names.lookup y.1=some .local)/\
  (∀y∈scope.names,y.2=.free->sc.names.lookup y.1=some .cell\/sc.names.lookup y.1=some .free)/\∀j∈fr,scope.names.lookup (N.getD j (bx ""))=some .free):CompOk X scope fr:=by
 obtain⟨a,b,c,d,e⟩:=h
 exact⟨a,b,c,by rw[h1];exact d,by rw[h2];exact e⟩
theorem yJ:eL "len" = some (.builtin "len"):=by decide +kernel
theorem zi:eL "isinstance" = some (.builtin "isinstance"):=by decide +kernel
theorem ZF:eL "sorted" = some (.builtin "sorted"):=by decide +kernel
theorem YS:eL "tuple" = some (.type "tuple"):=by decide +kernel
theorem jal:eL "list" = some (.type "list"):=by decide +kernel
theorem jft:eL "set" = some (.type "set"):=by decide +kernel
structure Free0(mg:Str->Option ad):Prop where
 len_:mg "len" = none
 max_:mg "max" = none
 min_:mg "min" = none
 all_:mg "all" = none
 isinstance_:mg "isinstance" = none
 abs_:mg "abs" = none
 sorted_:mg "sorted" = none
 int_:mg "int" = none
 str_:mg "str" = none
 bool_:mg "bool" = none
 tuple_:mg "tuple" = none
 list_:mg "list" = none
 dict_:mg "dict" = none
 range_:mg "range" = none
 set_:mg "set" = none
theorem ja3(h:X.K=K:=by rfl):IxR X (jh7 K):=by subst h;exact qx
theorem yB(h:X.K=K:=by rfl):IxR X (jh6 K):=by subst h;exact jE
structure QS(X:Cx)(st:aA)(t:TS):Prop where
 h:PS X st t
structure QSs(X:Cx)(st:List aA)(t:TS):Prop where
 h:PSs X st t
theorem Za:∀{its:List ad} {ns:List Str},StrsAre its ns->Vals (ns.map V.str) its
 | _,_,.nil=>.nil
 | _,_,.cons n t h=>.cons ⟨t,rfl⟩ (Za h)
theorem je7:64<=(aF:Nat):=by rw[eJ];decide
open PySem PySem.Spec PyProof.Rows PySem.W
end L2
namespace PySem
open Sem (wp)
namespace F
end F
end PySem
namespace L2
open PySem PySem.Spec PyProof.Rows PySem.W
abbrev zY(v d:aa):HO:=.ext fun h=>h.IsItemsView v d
theorem jaT{X:Cx}:MtR X "dict.items" (fun x xs H Q=>∃(d:aa) (kvs:List (Key×V)),x=.ref d/\xs=[]/\H d=some (.dK kvs)/\∀v,H v=none->Q (.ref v) (upd H v (zY v d))):=by
 intro ac s σ H x xs v us Q I rx rs h;obtain⟨d,kvs,rfl,rfl,hd,q⟩:=h
 cases rx
 cases rs
 obtain⟨hz,lo,vs,bG,hD⟩:=I.hok d _ hd;refine HH Im hD.typeIs PySem.F.entry_dict_items (PySem.F.args_dict_items_1 _) (meets_dict_items (j6 X.prog X.w) d lo) ⟨⟨vs,hD⟩,?_⟩;refine⟨.ref s.heap.objs.size,_,I.laid (t':=s.toks) (fun b u e=>aQ _ e) (aB _) (show ObjOk X.prog X.w _ _ _ (zY s.heap.objs.size d) from⟨⟨_,bV _ rfl,rfl,rfl⟩,⟨_,bV _ rfl⟩,fun h1 h2 x k=>?_⟩),rfl,q _ (I.hok.fresh (aB _))⟩;obtain⟨o,e1,e2⟩:=x;exact⟨o,k o e1,e2⟩
abbrev Up(xs:Array Nat):Prop:=xs.toList.Pairwise (· < ·)
structure TabOk(led:Bool)(t:bb):Prop where
 led_:t.led=led
 none_:t.dummies=#[]
 up:Up t.place
variable {xs:Array Nat}{j:Nat}
theorem jca(h:Up xs){i:Nat}(tR:i < j)(hj:j < xs.size):xs.getD i 0 < xs.getD j 0:=by
 have hi:i < xs.size:=by omega
 have:=DU.mp h i j (by simpa using hi) (by simpa using hj) tR;simpa[sN,hi,hj]using this
theorem YU{xs:Array Nat}(h:Up xs)(j:Nat):∀(f lo hi:Nat),lo<=hi->hi<=xs.size->hi<=lo+f->(∀i,i < lo->xs.getD i 0 < j)->(∀i,hi<=i->i < xs.size->j<=xs.getD i 0)->
  (vO xs j f lo hi)<=xs.size/\(∀i,i < vO xs j f lo hi->xs.getD i 0 < j)/\∀i,vO xs j f lo hi<=i->i < xs.size->j<=xs.getD i 0
 | 0,lo,hi,h1,h2,h3,a,b=>by
  unfold vO;exact⟨by omega,a,fun i cO=>b i (by omega)⟩
 | f+1,lo,hi,h1,h2,h3,a,b=>by
  unfold vO;by_cases e:lo < hi
  .rw[Tu e]
   dsimp only;have hm:(lo+hi) / 2 < xs.size:=by omega
   have eg:xs.getD ((lo+hi) / 2) j=xs.getD ((lo+hi) / 2) 0:=by simp[sN,hm]
   rw[eg];by_cases c:xs.getD ((lo+hi) / 2) 0 < j
   .rw[Tu c]
    refine YU h j f ((lo+hi) / 2+1) hi (by omega) h2 (by omega) (fun i cO=>?_) b;rcases su i ((lo+hi) / 2) with z | z
    .exact iL (jca h z hm) c
    .have:i=(lo+hi) / 2:=by omega
     subst this;exact c
   .rw[Tt c]
    refine YU h j f lo ((lo+hi) / 2) (by omega) (by omega) (by omega) a fun i cO hs=>?_
    rcases su ((lo+hi) / 2) i with z | z
    .exact aU (I_ c) (cP (jca h z hs))
    .have:i=(lo+hi) / 2:=by omega
     subst this;exact I_ c
  .rw[Tt e]
   exact⟨by omega,a,fun i cO=>b i (by omega)⟩
theorem YT(h:Up xs)(j:Nat):cq xs j<=xs.size/\(∀i,i < cq xs j->xs.getD i 0 < j)/\∀i,cq xs j<=i->i < xs.size->j<=xs.getD i 0:=
 YU h j xs.size 0 xs.size (bA _) (aB _) (by omega) (fun i h=>by omega) fun i h1 h2=>by omega
theorem jgw{i:Nat}(h:i < xs.size):xs[i]?=some (xs.getD i 0):=by simp[sN,h]
theorem jdF(h:Up xs)(hj:xs[cq xs j]?≠some j):Up (bb.insertAt xs (cq xs j) j):=by
 obtain⟨b1,b2,b3⟩:=YT h j;unfold Up;rw[bb.toList_insertAt];have hd:∀x∈xs.toList.drop (cq xs j),j < x:=fun x hx=>by
  obtain⟨i,hi,rfl⟩:=Lh.mp hx;rw[we]at hi;rw[List.getElem_drop];have hs:cq xs j+i < xs.size:=by simpa using (by omega:cq xs j+i < xs.toList.length)
  have e:xs.toList[cq xs j+i]'(by simpa using hs)=xs.getD (cq xs j+i) 0:=by simp[sN,hs]
  rw[e];have ge:=b3 (cq xs j+i) (by omega) hs;rcases su j (xs.getD (cq xs j+i) 0) with z | z
  .exact z
  .have eq:xs.getD (cq xs j+i) 0=j:=by omega
   rcases DQ i with rfl | hp
   .exact absurd (by rw[J_]at eq hs;rw[jgw hs,eq]) hj
   .have:=jca h (i:=cq xs j) (j:=cq xs j+i) (by omega) hs
    have:=b3 (cq xs j) (aB _) (by omega);omega
 have ht:∀x∈xs.toList.take (cq xs j),x < j:=fun x hx=>by
  obtain⟨i,hi,rfl⟩:=Lh.mp hx;rw[cM]at hi;rw[S1];have hs:i < xs.size:=by simpa using (by omega:i < xs.toList.length)
  have e:xs.toList[i]'(by simpa using hs)=xs.getD i 0:=by simp[sN,hs]
  rw[e];exact b2 i (by omega)
 refine List.pairwise_append.mpr ⟨h.sublist (SK _ _),wb.mpr ⟨hd,h.sublist (List.drop_sublist _ _)⟩,fun x hx y hy=>?_⟩;rcases aN.mp hy with rfl | hy
 .exact ht x hx
 .exact iL (ht x hx) (hd y hy)
theorem jaN{led:Bool}{t:bb}(h:TabOk led t){hashAt:Nat->Int}{hh:Int}(aW:∀i,(hashAt i == hh)=false):∀(f:Nat) (p:Ia) (m:bb.Met),p.dummy=none->Do t hashAt hh f p=some m->∃j,m=.empty j none/\t.slot j=.empty
 | 0,p,m,_,e=>by
  unfold Do at e
  cases e
 | f+1,p,m,hd,e=>by
  unfold Do at e
  cases hs:t.slot p.j with
  | empty=>
   rw[hs]at e
   cases e
   exact⟨p.j,by rw[hd],hs⟩
  | dummy=>
   exfalso;unfold Rm at hs;dsimp only at hs;rw[h.none_]at hs;split at hs
   .cases hs
   .simp[bb.has]at hs
  | live i=>
   rw[hs]at e;dsimp only at e;rw[aW i]at e;rw[Tt bF]at e;refine jaN h aW f _ m ?_ e;unfold bb.advance;split
   .exact hd
   .exact hd
variable {led:Bool}{t:bb}
theorem jcC(h:TabOk led t){hh:Int}{d:Bool}(e:t.freeSlot hh=some (j,d)):t.place[cq t.place j]?≠some j:=by
 unfold bb.freeSlot at e
 cases hp:t.probe (fun _=>hh+1) hh (t.probeStart hh) with
 | none=>rw[hp]at e;cases e
 | some m=>
  obtain⟨j',rfl,hs⟩:=jaN h (fun _=>Tv.mpr (by omega)) _ _ m rfl (show Do t (fun _=>hh+1) hh _ _=some m from hp);rw[hp]at e
  cases e
  unfold Rm at hs;dsimp only at hs;intro z;split at hs
  .cases hs
  .next c=>
   refine c ?_;have z':t.place[cq t.place j']?=some j':=z;rw[z'];simp
theorem jd9(n:Nat):Up (Array.range n):=by
 unfold Up;rw[Array.toList_range];exact Le
theorem JF(h:t.led=led)(n:Nat):TabOk led (t.standIn n):=⟨h,rfl,jd9 n⟩
theorem jes(h:TabOk led t)(hj:t.place[cq t.place j]?≠some j):TabOk led (t.put j).1:=by
 refine⟨h.led_,?_,jdF h.up hj⟩;unfold bb.put;dsimp only;rw[h.none_];split
 .simp[bb.eraseAt]
 .rfl
theorem jdz(h:TabOk led t)(es:Array (Int×ad))(hh:Int)(x:ad):TabOk led (layNew t es hh x).2.1:=by
 unfold layNew;split
 .next slot d e=>
  dsimp only;unfold bb.orStandIn;split
  .exact jes h (jcC h e)
  .exact JF (jes h (jcC h e)).led_ _
 .exact JF h.led_ _
theorem jcu{mask finger moves:Nat}{plain:Bool}{F2:Array Int}{o:Array Nat}(h:oh mask finger moves led plain F2=some (t,o)):TabOk led t:=by
 unfold oh at h
 cases hl:H0 mask F2 with
 | none=>rw[hl]at h;cases h
 | some owner=>
  rw[hl]at h
  cases h
  refine⟨rfl,rfl,?_⟩;unfold Up;dsimp only;have bz:∀l:List Nat,(l.filterMap fun j=>(owner.getD j none).map (fun k=>(j,k))).map (·.1)=l.filter fun j=>(owner.getD j none).isSome:=by
   intro l;induction l with
   | nil=>rfl
   | cons a l ih=>
    rw[cX,wj]
    cases owner.getD a none with
    | none=>simpa using ih
    | some k=>
     show a :: g6 _ _=_;rw[ih];rfl
  show List.Pairwise _ (g6 _ _);rw[bz];exact Le.sublist List.filter_sublist
theorem jen(h:TabOk led t)(es:Array (Int×ad))(n:Nat):TabOk led (rM t es n).2.1:=by
 unfold rM;split
 .next t' o e=>
  dsimp only;split
  .have:=jcu (show oh _ _ _ _ _ _=some (t',o) from e)
   rw[h.led_]at this;exact this
  .exact JF h.led_ _
 .exact JF h.led_ _
theorem jc7(h:TabOk led t):TabOk led { t with plain:=false }:=⟨h.led_,h.none_,h.up⟩
abbrev ledOf(w:ax):Bool:=!(w.params.followText "set-order")
end L2
namespace PySem
section
variable {prog:az}{w:ax}{A:aM}{E:ad->af->Prop}{s:af}
theorem jaF(a:ad){Q₁:ad->af->Prop}
  (h:Q₁ (.ref s.heap.objs.size) { s with heap:=s.heap.push { cls:=.type "set",dict:=none,data:=.set #[] 0 (.fresh 0 0 (L2.ledOf w)) } }) :
  cD (am prog w) A (.call (.builtin "set.__new__") ⟨[.type "set",a],[]⟩) (wants Q₁ E) s:=by
 refine Hv ?_
 show ah _ A.in1 (do Hx "set.__new__" ⟨[.type "set",a],[]⟩;again (.builtin "set.__new__" ⟨[.type "set",a],[]⟩)) _ _ s
 refine ae (vD (F.newCall_set_1 a) (aq ⟨rO RH _,lm F.entry_set_new ?_⟩))
 rw[ot RH _]
 unfold Builtin.«set.__new__» Builtin.Frozenset.newClass
 have Fg:=sub_set_self
 obtain⟨hp,g,d,tk,os⟩:=s
 dsimp only
 wp_walk
 refine mz (aq ?_)
 dsimp only
 simp only[newObj]
 refine ae (wpAny_alloc (aq ?_))
 exact aq h
end
namespace F
theorem slot_seti_next:Slot "set_iterator" "__next__" "set_iterator.__next__":=
 .of (owner:="set_iterator") (n:="__next__") (by rw[typeLookup_type,builtinLookup_eq_fast];kernel_rfl) (by decide +kernel) (by decide +kernel) (by decide +kernel)
  (by first | exact .inl (by decide +kernel) | exact .inr (by decide +kernel)) (by rw[Hn];kernel_rfl)
theorem entry_seti_next:entryFor table "set_iterator.__next__" = some Builtin.«set_iterator.__next__»:=entryFor_of_tree (by kernel_rfl)
theorem args_seti_next(a:ad):argsOk "set_iterator.__next__" ⟨[a],[]⟩:=by unfold argsOk;kernel_rfl
theorem entry_set_iter':entryFor table "set.__iter__" = some Builtin.«frozenset.__iter__»:=entryFor_alias (id':="frozenset.__iter__") (by kernel_rfl) (by first | rfl | decide +kernel) (by decide +kernel) (by kernel_rfl)
end F
end PySem
namespace L2
open PySem PySem.Spec PyProof.Rows PySem.W
abbrev kh(es:Array (Int×ad))(ep:Nat)(t:bb):Obj:={ cls:=.type "set",dict:=none,data:=.set es ep t }
abbrev Zs(first:ad)(i:Nat)(a:aa)(n ep:Nat):Obj:={ cls:=.type "set_iterator",data:=.fields #[first,.int i 0,.ref a,.int n 0,.int ep 0] }
def yE(es:Array (Int×ad))(t:bb):Bool:=!t.plain && decide (es.size > 1)
variable {prog:az}{w:ax}{A:aM}{E:ad->af->Prop}{s:af}{I a:aa}{i ep:Nat}{es:Array (Int×ad)}{t:bb}{Q:Option ad->af->Prop}{o:Obj}{aR:List ad}
section
theorem jb3{Ei:Source}{n:Nat}{Q:Nat->af->Prop}(hn:n≠0)(h:∀i d',i < n->Q i { s with drawn:=d' }):ah (am prog w) A (choose Ei n) Q E s:=by
 intro Γ p hΓ;show Sem.wp _ _ (.choose Ei n .pure) _ _ _ _;rw[Sem.wp_choose];exact⟨hn,h _ _ (DP _ (Nat.pos_of_ne_zero hn))⟩
theorem Jy{α:Type}:∀{l:List α} {i:Nat} {x:α},l[i]?=some x->(x :: l.eraseIdx i).Perm l
 | [],i,x,e=>by simp at e
 | a :: l,0,x,e=>by
  simp at e;subst e;exact oC _
 | a :: l,i+1,x,e=>by
  simp at e;have ih:=Jy (l:=l) (i:=i) (x:=x) e;show (x :: a :: l.eraseIdx i).Perm (a :: l);exact (List.Perm.swap a x _).trans (ih.cons a)
theorem YL{α:Type}:∀(n:Nat) (xs:List α) (s:af) (Q:List α->af->Prop),xs.length=n->(∀ys d',ys.Perm xs->Q ys { s with drawn:=d' })->ah (am prog w) A (Ht n xs) Q E s
 | 0,xs,s,Q,hl,h=>by
  have:xs=[]:=DW.mp hl;subst this;unfold Ht;exact aq (h [] s.drawn (oC _))
 | n+1,[],s,Q,hl,h=>by simp at hl
 | n+1,x :: xs,s,Q,hl,h=>by
  unfold Ht;refine ae (jb3 (by simp) fun i d' hi=>?_);have hg:(x :: xs)[i]?=some (x :: xs)[i]:=aI hi;rw[hg];dsimp only;refine ae (YL n _ _ _ (by rw[S0,Tu hi];omega) fun ys d2 hp=>?_);exact aq (h _ d2 ((hp.cons _).trans (Jy hg)))
theorem Zm{α:Type}(next:Nat->Nat)(xs:Array α):(gW next xs).toList.Perm xs.toList:=by
 have bz:∀(f k:Nat) (left:List α) (out:Array α),left.length=f->(Hj next f k left out).toList.Perm (out.toList++left):=by
  intro f;induction f with
  | zero=>
   intro k left out h;have:left=[]:=DW.mp h;subst this;unfold Hj;rw[dl]
  | succ f ih=>
   intro k left out h;unfold Hj;have hm:next k % left.length < left.length:=DP _ (by omega)
   have hg:left[next k % left.length]?=some (left[next k % left.length]'hm):=aI hm;rw[hg];dsimp only;refine (ih (k+1) _ _ (by rw[S0,Tu hm];omega)).trans ?_;rw[Lq,em];exact (Jy hg).append_left _
 have:=bz xs.size 0 xs.toList #[] (by simp);simpa[gW]using this
theorem Jg{first:ad}(hI:s.heap.get? I=some (Zs first i a es.size ep))(ha:s.heap.get? a=some (kh es ep t))(hf:t.fits es.size=true)
  (h:ah (am prog w) A.in1 (if let .int slot _:=first then
   (do match <- k_ a slot.toNat i ep with
    | some (x,next)=>
     iC (.ref I) 0 (dg next)
     iC (.ref I) 1 (dg ((i:Int)+1))
     ret x
    | none=>iC (.ref I) 2 .none;vI (<- rR (.type "StopIteration") []):Sem Fin)
   else (do
    let some places <- vH first | unsupported "internal:set_iterator"
    match places[i]? with
    | some (.int place _)=>
     let x <- Hc a place.toNat ep
     iC (.ref I) 1 (dg ((i:Int)+1))
     ret x
    | some _=>unsupported "internal:set_iterator"
    | none=>iC (.ref I) 0 (dg 0);iC (.ref I) 2 .none;vI (<- rR (.type "StopIteration") []):Sem Fin))
   (fun fin s'=>∃v,fin=.done (.ret v)/\Q (some v) s') (fun e s'=>∃c o,e=.ref c/\s'.heap.get? c=some o/\o.cls=.type "StopIteration"/\Q none s') s):ah (am prog w) A (dh (.ref I)) Q E s:=by
 have hT:s.TypeIs (.ref I) "set_iterator":=⟨_,hI,rfl⟩
 unfold dh
 refine ae (vF (rH (name:=bx "__next__") hT F.slot_seti_next
  (iA F.slot_seti_next hT F.entry_seti_next ?_ (F.args_seti_next _))))
 unfold Builtin.«set_iterator.__next__»
 refine ae (aq (ae (wpAny_fieldsOf hI rfl ?_)))
 dsimp only
 refine ae ?_
 unfold Hf
 refine ae (cS ha rfl hf (aq ?_))
 rw[Tt (by simp)]
 simp only[oE]
 refine bi h (fun fin s' x=>?_) fun e s' x=>?_
 .obtain⟨v,rfl,q⟩:=x
  exact⟨v,rfl,aq q⟩
 .obtain⟨c,o,rfl,e1,e2,q⟩:=x
  refine ae (vE (T:="StopIteration") ⟨o,e1,e2⟩ isSubtype_stop ?_)
  rw[Tu rfl]
  exact aq q
def ItSt(w:ax)(h:au)(I a:aa)(es:Array (Int×ad))(ep:Nat)(t:bb)(aR:List ad)(i:Nat):Prop:=h.get? a=some (kh es ep t)/\
 ((w.params.followText "set-order" = true/\h.get? I=some (Zs (.int 0 0) i a es.size ep)/\aR=(gW (w.params.setOrder a ep) es).toList.map (·.2))\/
   (w.params.followText "set-order" = false/\∃(T:aa) (ps:List Nat),h.get? I=some (Zs (.ref T) i a es.size ep)/\h.get? T=some { cls:=.type "tuple",data:=.seq (ps.map fun (p:Nat)=>dg p).toArray }/\T≠I/\(∀p∈ps,p < es.size)/\aR=ps.map fun p=>(es.getD p (0,.none)).2)\/
   (w.params.followText "set-order" = false/\yE es t=false/\∃slot:Nat,h.get? I=some (Zs (.int slot 0) i a es.size ep)/\cq t.place slot=i/\aR=es.toList.map (·.2)))
theorem ZU{vs:Array ad}{k:Nat}{x:ad}(hh:A.handled=none)(hI:s.heap.get? I=some o)(hd:o.data=.fields vs)(hk:k < vs.size)(h:∀h',(∀b u,b≠I->s.heap.get? b=some u->h'.get? b=some u)->Q none { s with heap:=h' }):
  ah (am prog w) A.in1 (do iC (.ref I) k x;vI (<- rR (.type "StopIteration") []):Sem Fin) (fun fin s'=>∃v,fin=.done (.ret v)/\Q (some v) s') (fun e s'=>∃c o,e=.ref c/\s'.heap.get? c=some o/\o.cls=.type "StopIteration"/\Q none s') s:=by
 refine ae (GP hI hd hk ?_)
 refine ae ?_
 simp only[rR,newTuple]
 refine ae (dY ?_ (by size_fits))
 refine ae (m:=Dh _ _) (vD (a:=Value.none) (by first | rfl | (simp only[Dh];rfl)) ?_)
 refine dY ?_ (by size_fits)
 simp only[vI]
 refine ae (wpAny_handled ?_)
 rw[show A.in1.handled=none from hh]
 refine ae (aq (wpAny_throw ?_))
 refine⟨_,_,rfl,bV _ rfl,rfl,h _ fun b u hb e=>?_⟩
 exact aQ _ (aQ _ ((Ij _ _ _ _ hb).trans e))
theorem yI{Q:Bool->af->Prop}(h:Q (w.params.followText "set-order") s):ah (am prog w) A vG Q E s:=by
 unfold vG;exact ae (mz (aq h))
theorem Km{first:ad}{n k:Nat}{x:ad}{Q:Unit->af->Prop}(hI:s.heap.get? I=some (Zs first i a n ep))(hk:k < 5)
  (h:∀h',h'.get? I=some { cls:=.type "set_iterator",data:=.fields (#[first,.int i 0,.ref a,.int n 0,.int ep 0].setIfInBounds k x) }->(∀b u,b≠I->s.heap.get? b=some u->h'.get? b=some u)->Q () { s with heap:=h' }):ah (am prog w) A (iC (.ref I) k x) Q E s:=
 rD hI hk fun h' e sb=>h h' e fun b u hb e=>(sb.2 b hb).trans e
theorem jdv(hf:t.fits es.size=true)(ht:TabOk (ledOf w) t)(fF:a≠I)(cw:ItSt w s.heap I a es ep t aR i)(hi:i < aR.length)
  (h:∀h',ItSt w h' I a es ep t aR (i+1)->(∀b u,b≠I->s.heap.get? b=some u->h'.get? b=some u)->Q (some (aR.getD i Value.none)) { s with heap:=h' }):ah (am prog w) A (dh (.ref I)) Q E s:=by
 obtain⟨ha,hm⟩:=cw
 rcases hm with⟨hb,hI,hv⟩ | ⟨hb,T,ps,hI,hT,Bi,ni,hv⟩ | ⟨hb,hd,slot,hI,hs,hv⟩
 .refine Jg hI ha hf ?_
  show ah _ _ (k_ a (lE 0) i ep >>= _) _ _ _
  refine ae ?_
  unfold k_
  refine ae (cS ha rfl hf (ae (yI ?_)))
  dsimp only
  rw[hb,Tu rfl,Tt (by simp)]
  refine ae ?_
  unfold Df
  refine ae (cS ha rfl hf (ae (yI ?_)))
  rw[hb,Tu rfl]
  refine ae (mz (aq (aq ?_)))
  have hg:(gW (w.params.setOrder a ep) es)[i]?=some ((gW (w.params.setOrder a ep) es)[i]'(by rw[hv]at hi;simpa using hi)):=iM _
  have pB:aR.getD i Value.none=((gW (w.params.setOrder a ep) es)[i]'(by rw[hv]at hi;simpa using hi)).2:=by
   subst hv;have cO:i < (gW (w.params.setOrder a ep) es).size:=by simpa using hi
   simp[cO]
  show ah _ _ (match ((gW (w.params.setOrder a ep) es)[i]?).map fun e=>(e.2,lE 0) with | some (x,next)=>_ | none=>_) _ _ _
  rw[hg]
  dsimp only[Option.map]
  refine ae (Km hI (by decide) fun h1 e1 k1=>?_)
  refine ae (Km (s:={ s with heap:=h1 }) (first:=.int 0 0) e1 (by decide) fun h2 e2 k2=>aq ⟨_,rfl,?_⟩)
  rw[<- pB]
  refine h h2 ⟨k2 _ _ fF (k1 _ _ fF ha),.inl ⟨hb,?_,hv⟩⟩ fun b u hb e=>k2 _ _ hb (k1 _ _ hb e)
  exact e2
 .refine Jg hI ha hf ?_
  show ah _ _ (vH (.ref T) >>= _) _ _ _
  refine ae (C7 hT rfl ?_)
  have cO:i < ps.length:=by rw[hv,aC]at hi;exact hi
  have hg:(g6 (fun (p:Nat)=>dg p) ps).toArray[i]?=some (dg ps[i]):=by simp[cO]
  dsimp only
  rw[hg]
  have cy:=ni _ (gD cO)
  show ah _ _ (Hc a (lE (ps[i]:Nat)) ep >>= _) _ _ _
  rw[oE]
  refine ae ?_
  unfold Hc
  refine ae (cS ha rfl hf ?_)
  dsimp only
  rw[Tt (by simp),iM cy]
  refine aq ?_
  refine ae (Km hI (by decide) fun h1 e1 k1=>aq ⟨_,rfl,?_⟩)
  have pB:aR.getD i Value.none=es[ps[i]].2:=by
   subst hv;simp[cO,cy]
  show Q (some es[ps[i]].2) _
  rw[<- pB]
  refine h h1 ⟨k1 _ _ fF ha,.inr (.inl ⟨hb,T,ps,?_,k1 _ _ Bi hT,Bi,ni,hv⟩)⟩ k1
  exact e1
 .refine Jg hI ha hf ?_
  show ah _ _ (k_ a (lE (slot:Nat)) i ep >>= _) _ _ _
  rw[oE]
  refine ae ?_
  unfold k_
  refine ae (cS ha rfl hf (ae (yI ?_)))
  dsimp only
  rw[hb,Tt bF]
  have cO:i < es.size:=by rw[hv,aC,cF]at hi;exact hi
  have AR:t.led=true:=by rw[ht.led_];unfold ledOf;rw[hb];rfl
  have hpz:t.place.size=es.size:=by
   simp only[Dp,cm,beq_iff_eq]at hf;exact hf.1
  show ah _ _ (if yE es t=true then _ else _) _ _ _
  rw[hd,Tt bF]
  refine ae ?_
  show ah _ _ (if (!t.led && !es.isEmpty)=true then _ else _) _ _ _
  rw[AR,Tt (by simp)]
  refine aq (aq ?_)
  rw[hs,iM cO,iM (by omega)]
  dsimp only
  refine ae (Km hI (by decide) fun h1 e1 k1=>?_)
  refine ae (Km (s:={ s with heap:=h1 }) (first:=.int ((t.place[i]'(by omega+splitNatSub)+1:Nat):Int) 0) e1 (by decide) fun h2 e2 k2=>aq ⟨_,rfl,?_⟩)
  have pB:aR.getD i Value.none=es[i].2:=by
   subst hv;simp[cO]
  rw[<- pB]
  refine h h2 ⟨k2 _ _ fF (k1 _ _ fF ha),.inr (.inr ⟨hb,hd,t.place[i]'(by omega+splitNatSub)+1,?_,?_,hv⟩)⟩ fun b u hb e=>k2 _ _ hb (k1 _ _ hb e)
  .exact e2
  .obtain⟨b1,b2,b3⟩:=YT ht.up (t.place[i]'(by omega+splitNatSub)+1)
   have eg:t.place.getD i 0=t.place[i]'(by omega+splitNatSub):=by
    have a_:i < t.place.size:=by omega
    simp[sN,a_]
   have h1:i < cq t.place (t.place[i]'(by omega+splitNatSub)+1):=by
    rcases su i (cq t.place (t.place[i]'(by omega+splitNatSub)+1)) with z | z
    .exact z
    .have:=b3 i z (by omega)
     omega
   rcases su (i+1) (cq t.place (t.place[i]'(by omega+splitNatSub)+1)) with z | z
   .have h2:=b2 (i+1) z
    have h3:=jca ht.up (i:=i) (j:=i+1) (by omega) (by omega)
    omega
   .omega
theorem je2(hh:A.handled=none)(hf:t.fits es.size=true)(ht:TabOk (ledOf w) t)(fF:a≠I)(cw:ItSt w s.heap I a es ep t aR i)(hi:i=aR.length)
  (h:∀h',(∀b u,b≠I->s.heap.get? b=some u->h'.get? b=some u)->Q none { s with heap:=h' }):ah (am prog w) A (dh (.ref I)) Q E s:=by
 obtain⟨ha,hm⟩:=cw
 rcases hm with⟨hb,hI,hv⟩ | ⟨hb,T,ps,hI,hT,Bi,ni,hv⟩ | ⟨hb,hd,slot,hI,hs,hv⟩
 .refine Jg hI ha hf ?_
  show ah _ _ (k_ a (lE 0) i ep >>= _) _ _ _
  refine ae ?_
  unfold k_
  refine ae (cS ha rfl hf (ae (yI ?_)))
  dsimp only
  rw[hb,Tu rfl,Tt (by simp)]
  refine ae ?_
  unfold Df
  refine ae (cS ha rfl hf (ae (yI ?_)))
  rw[hb,Tu rfl]
  refine ae (mz (aq (aq ?_)))
  have hg:(gW (w.params.setOrder a ep) es)[i]?=none:=by
   rw[hi,hv];simp
  show ah _ _ (match ((gW (w.params.setOrder a ep) es)[i]?).map fun e=>(e.2,lE 0) with | some (x,next)=>_ | none=>_) _ _ _
  rw[hg]
  exact ZU hh hI rfl (by simp) h
 .refine Jg hI ha hf ?_
  show ah _ _ (vH (.ref T) >>= _) _ _ _
  refine ae (C7 hT rfl ?_)
  have hg:(g6 (fun (p:Nat)=>dg p) ps).toArray[i]?=none:=by
   rw[hi,hv];simp
  dsimp only
  rw[hg]
  dsimp only
  refine ae (Km hI (by decide) fun h1 e1 k1=>?_)
  exact ZU (s:={ s with heap:=h1 }) hh e1 rfl (by simp) fun h' k=>h h' fun b u hb e=>k _ _ hb (k1 _ _ hb e)
 .refine Jg hI ha hf ?_
  show ah _ _ (k_ a (lE (slot:Nat)) i ep >>= _) _ _ _
  rw[oE]
  refine ae ?_
  unfold k_
  refine ae (cS ha rfl hf (ae (yI ?_)))
  dsimp only
  rw[hb,Tt bF]
  have AR:t.led=true:=by rw[ht.led_];unfold ledOf;rw[hb];rfl
  show ah _ _ (if yE es t=true then _ else _) _ _ _
  rw[hd,Tt bF]
  refine ae ?_
  show ah _ _ (if (!t.led && !es.isEmpty)=true then _ else _) _ _ _
  rw[AR,Tt (by simp)]
  refine aq (aq ?_)
  have hg:es[i]?=none:=by
   rw[hi,hv];simp
  rw[hs,hg]
  dsimp only
  exact ZU hh hI rfl (by simp) h
end
section
theorem ItSt.kept{h h':au}(x:ItSt w h I a es ep t aR i)(k:∀b o,h.get? b=some o->o.cls≠.type "list"->h'.get? b=some o):ItSt w h' I a es ep t aR i:=by
 obtain⟨ha,hm⟩:=x;refine⟨k _ _ ha (by simp),?_⟩;rcases hm with⟨hb,hI,hv⟩ | ⟨hb,T,ps,hI,hT,r⟩ | ⟨hb,hd,slot,hI,r⟩
 .exact .inl ⟨hb,k _ _ hI (by simp),hv⟩
 .exact .inr (.inl ⟨hb,T,ps,k _ _ hI (by simp),k _ _ hT (by simp),r⟩)
 .exact .inr (.inr ⟨hb,hd,slot,k _ _ hI (by simp),r⟩)
theorem jfa{Q:ad->af->Prop}(ha:s.heap.get? a=some (kh es ep t))(hf:t.fits es.size=true)(ht:TabOk (ledOf w) t)(hz:es.size<=1000)
  (h:∀I h' d' aR,s.heap.objs.size<=I->ItSt w h' I a es ep t aR 0->aR.Perm (es.toList.map (·.2))->(∀b o,s.heap.get? b=some o->h'.get? b=some o)->Q (.ref I) { s with heap:=h',drawn:=d' }):ah (am prog w) A (mB (.ref a)) Q E s:=by
 have hT:s.TypeIs (.ref a) "set":=⟨_,ha,rfl⟩
 refine wpAny_pyIter_slot hT RG (iA RG hT PySem.F.entry_set_iter' ?_ (PySem.F.args_set_iter_1 _))
 unfold Builtin.«frozenset.__iter__»
 refine ae (aq (ae ?_))
 unfold Builtin.Frozenset.sizeOf Hf
 refine ae (ae (cS ha rfl hf (aq (aq ?_))))
 refine ae ?_
 unfold setDrawn
 refine ae (cS ha rfl hf (ae (yI (aq ?_))))
 dsimp only
 show ah _ _ (if (!(w.params.followText "set-order") && yE es t)=true then _ else _) _ _ _
 have fin:∀(first:ad) (s1:af) (aR:List ad),s1.heap.get? a=some (kh es ep t)->aR.Perm (es.toList.map (·.2))->(∀b o,s.heap.get? b=some o->s1.heap.get? b=some o)->s1.gens=s.gens->s1.toks=s.toks->s1.os=s.os->s.heap.objs.size<=s1.heap.objs.size->
   (∀h' I,(∀b o,s1.heap.get? b=some o->h'.get? b=some o)->s1.heap.objs.size=I->h'.get? I=some (Zs first 0 a es.size ep)->ItSt w h' I a es ep t aR 0)->
   ah (am prog w) A.in1 (do let e <- setEpoch a;let i <- newFields "set_iterator" [first,dg 0,.ref a,dg es.size,dg e];ret i) (fun fin s'=>∃v,fin=Fin.done (Flow.ret v)/\∃T' r,s'.TypeIs v T'/\Ha (.type T') "__next__" = pure (some r)/\Q v s') E s1:=by
  intro first s1 aR h1 hp hk eg et eo FH cw
  refine ae (wpAny_setEpoch_of h1 rfl hf ?_)
  refine ae (dY (aq ⟨_,rfl,"set_iterator",_,⟨_,bV _ rfl,rfl⟩,PySem.F.slot_seti_next.lookup,?_⟩))
  obtain⟨pJ,g1,d1,t1,o1⟩:=s1
  dsimp only at eg et eo
  subst eg et eo
  exact h _ _ d1 aR FH (cw _ _ (fun b o e=>aQ _ e) rfl (bV _ rfl)) hp fun b o e=>aQ _ (hk b o e)
 cases hb:w.params.followText "set-order" with
 | true=>
  rw[Tt (by simp)]
  refine ae (aq ?_)
  refine fin (dg 0) s ((gW (w.params.setOrder a ep) es).toList.map (·.2)) ha ((Zm _ _).map _) (fun _ _ e=>e) rfl rfl rfl (aB _) fun h' I k _ hI=>?_
  exact⟨k _ _ ha,.inl ⟨hb,hI,rfl⟩⟩
 | false=>
  cases hd:yE es t with
  | true=>
   rw[Tu (by simp)]
   refine ae (YL es.size (bL es.size) s _ (by simp) fun ps d' hp=>?_)
   refine ae (dY ?_ (by show (g6 _ ps).length<=_;rw[aC,hp.length_eq,DV];exact cP (jS hz)))
   have ni:∀p∈ps,p < es.size:=fun p h=>sw.mp (hp.mem_iff.mp h)
   have MW:(ps.map fun p=>(es.getD p (0,.none)).2).Perm (es.toList.map (·.2)):=by
    have h1:=hp.map fun p=>(es.getD p (0,.none)).2
    have e:((bL es.size).map fun p=>(es.getD p (0,Value.none)).2)=es.toList.map (·.2):=by
     apply S9
     .simp
     .intro i h1 h2
      have hi:i < es.size:=by simpa using h1
      simp[hi]
    rw[e]at h1;exact h1
   have lt:∀o:Obj,s.heap.objs.size < (s.heap.push o).objs.size:=fun o=>by rw[IP];exact IY _
   refine fin (.ref s.heap.objs.size) _ (ps.map fun p=>(es.getD p (0,.none)).2) (aQ _ ha) MW (fun b o e=>aQ _ e) rfl rfl rfl (cP (lt _)) fun h' I k eI hI=>?_
   refine⟨k _ _ (aQ _ ha),.inr (.inl ⟨hb,s.heap.objs.size,ps,hI,k _ _ (bV _ rfl),?_,ni,rfl⟩)⟩
   rw[<- eI]
   exact aT (lt _)
  | false=>
   rw[Tt (by simp)]
   refine ae (aq ?_)
   refine fin (dg 0) s (es.toList.map (·.2)) ha (oC _) (fun _ _ e=>e) rfl rfl rfl (aB _) fun h' I k _ hI=>?_
   refine⟨k _ _ ha,.inr (.inr ⟨hb,hd,0,hI,?_,rfl⟩)⟩
   obtain⟨b1,b2,b3⟩:=YT ht.up 0
   rcases DQ (cq t.place 0) with z | z
   .exact z
   .exact absurd (b2 0 z) (IW _)
theorem jbd{S:aa}{res:ad}{R:ly->af->Prop}(hh:A.handled=none)(hf:t.fits es.size=true)(ht:TabOk (ledOf w) t)(fF:a≠I)(pZ:S≠I)(hz:aR.length<=1000):
  ∀(k i:Nat) (s:af) (c:Nat),i+k=aR.length->ItSt w s.heap I a es ep t aR i->s.heap.get? S=some { cls:=.type "list",dict:=none,data:=.seq (aR.take i).toArray c,slots:=#[] }->
   (∀h' c',h'.get? S=some { cls:=.type "list",dict:=none,data:=.seq aR.toArray c',slots:=#[] }->(∀b o,b≠S->b≠I->s.heap.get? b=some o->h'.get? b=some o)->R (.ok (.ret res)) { s with heap:=h' })->
   cD (am prog w) A (.builtin "list.extend.loop" ⟨[.ref S,.ref I,res],[]⟩) R s:=by
 intro k
 induction k with
 | zero=>
  intro i s c hk cw hS hR
  have hi:i=aR.length:=by omega
  refine lm RK ?_
  rw[ot vU _]
  show ah _ A.in1 (dh (.ref I) >>= _) _ _ s
  refine ae (je2 (A:=A.in1) hh hf ht fF cw hi fun h1 k1=>?_)
  refine aq ?_
  rw[hi,cV]at hS
  exact hR h1 c (k1 _ _ pZ hS) fun b o _ hb e=>k1 _ _ hb e
 | succ k ih=>
  intro i s c hk cw hS hR
  have hi:i < aR.length:=by omega
  refine lm RK ?_
  rw[ot vU _]
  show ah _ A.in1 (dh (.ref I) >>= _) _ _ s
  refine ae (jdv (A:=A.in1) hf ht fF cw hi fun h1 sV k1=>?_)
  dsimp only
  have md:=k1 _ _ pZ hS
  refine ae ?_
  show ah _ _ (G0 S (·.push (aR.getD i Value.none))) _ _ _
  refine GM md rfl ?_ (by simp only[bP,cM];exact cP (jS (by omega))) (by simp only[Array.size_push,bP,cM];exact SH (cP (jS (by omega))))
  refine aq ⟨rO vU _,?_⟩
  obtain⟨c2,fE⟩:∃c2,(h1.update S (dF (·.push (aR.getD i Value.none)))).get? S=some (dw "list" ((aR.take i).toArray.push (aR.getD i Value.none)) c2):=⟨_,DH md _⟩
  have o7:∀b o,b≠S->h1.get? b=some o->(h1.update S (dF (·.push (aR.getD i Value.none)))).get? b=some o:=fun b o hb e=>(vT _ _ (br hb)).trans e
  have et:((aR.take i).toArray.push (aR.getD i Value.none))=(aR.take (i+1)).toArray:=by
   rw[cE,aI hi];simp[hi]
  rw[et]at fE
  refine ih (i+1) _ c2 (by omega) (sV.kept fun b o e hc=>o7 b o (fun z=>?_) e) fE fun h' c' e1 e2=>hR h' c' e1 fun b o hb gO e=>e2 b o hb gO (o7 b o hb (k1 _ _ gO e))
  rw[z,md]at e
  cases e
  exact hc rfl
end
open PySem PySem.Spec PySem.Calls PyProof.Rows PySem.W
section
theorem jfb{r:aa}{Q:Bool->af->Prop}(hT:s.TypeIs (.ref r) "set")(h:Q false s):ah (am prog w) A (R1 (.ref r)) Q E s:=by
 unfold R1;refine ae (wpAny_specialOf hT PySem.F.slot_set_len.lookup ?_);generalize hid:("set.__len__" : String)=id0;wp_delta;rw[show splitId id0=some ("set","__len__") from by subst hid;decide +kernel];subst hid;refine ae (vE (T:="set") (b:=true) hT (by rw[Hn];kernel_rfl) ?_);refine GU (fun bI=>absurd bI (by decide)) (fun _=>?_);refine GU (fun _=>?_) (fun bI=>absurd (by decide +kernel) bI);exact ae (C6 hT (aq h))
theorem jbl{R:List ad->af->Prop}(hh:A.handled=none)(ha:s.heap.get? a=some (kh es ep t))(hf:t.fits es.size=true)(ht:TabOk (ledOf w) t)(hz:es.size<=1000)
  (h:∀h' d' aR,aR.Perm (es.toList.map (·.2))->(∀b o,s.heap.get? b=some o->h'.get? b=some o)->R aR { s with heap:=h',drawn:=d' }):ah (am prog w) A (collect (.ref a)) R E s:=by
 have F4:a < s.heap.objs.size:=aL ha
 unfold collect
 refine ae (wpAny_runValue (lm entry_proto_collect' ?_))
 rw[ot PySem.F.plain_proto_collect _]
 show ah _ A.in1 (vJ [] >>= fun l=>again (.builtin "list.__iadd__" ⟨[l,.ref a],[]⟩)) _ _ s
 refine ae (dY ?_)
 refine aq ⟨rO RI _,lm entry_list_iadd' ?_⟩
 rw[ot RI _]
 show ah _ A.in1 (R3 (.ref s.heap.objs.size) (.ref a) (.ref s.heap.objs.size)) _ _ _
 have hS:(s.heap.push { cls:=.type "list",data:=.seq ([]:List ad).toArray }).get? s.heap.objs.size=some { cls:=.type "list",data:=.seq #[] }:=bV _ rfl
 have Bg:(s.heap.push { cls:=.type "list",data:=.seq ([]:List ad).toArray }).get? a=some (kh es ep t):=aQ _ ha
 have o9:∀b o,s.heap.get? b=some o->(s.heap.push { cls:=.type "list",data:=.seq ([]:List ad).toArray }).get? b=some o:=fun b o e=>aQ _ e
 have sU:s.heap.objs.size < (s.heap.push { cls:=.type "list",data:=.seq ([]:List ad).toArray }).objs.size:=aL hS
 generalize (s.heap.push { cls:=.type "list",data:=.seq ([]:List ad).toArray })=h1 at *
 unfold R3
 refine ae (C6 (T:="set") ⟨_,Bg,rfl⟩ ?_)
 have e1:R0 (.ref s.heap.objs.size) (.ref a)=false:=by
  have:s.heap.objs.size≠a:=mK F4;simp[R0,this]
 rw[Tt (by rw[e1];decide)]
 refine ae (jfa (A:=A.in1) (s:={ s with heap:=h1 }) Bg hf ht hz fun I h2 d2 aR hI st hp fW=>?_)
 have Bf:=fW _ _ Bg
 have fE:=fW _ _ hS
 have pZ:s.heap.objs.size≠I:=aT (cj sU hI)
 have fF:a≠I:=aT (cj (iL F4 sU) hI)
 have Fa:aR.length<=1000:=by
  rw[hp.length_eq,aC,cF];exact hz
 refine ae (dr (jfb ⟨_,Bf,rfl⟩ ?_))
 refine GU (fun _=>?_) (fun _=>?_)
 .refine ae (iz (ae ?_))
  show ah _ _ (G0 s.heap.objs.size (·.push .none) >>= fun _=>G0 s.heap.objs.size (·.pop)) _ _ _
  refine ae (GM fE rfl ?_ (by decide) (by show 1<=aF+1;omega))
  obtain⟨c3,nB⟩:∃c3,(h2.update s.heap.objs.size (dF (·.push Value.none))).get? s.heap.objs.size=some (dw "list" (#[].push Value.none) c3):=⟨_,DH fE _⟩
  refine GM nB rfl ?_ (by show 1<=aF;rw[eJ];decide) (by show 0<=aF+1;omega)
  obtain⟨c4,OC⟩:∃c4,((h2.update s.heap.objs.size (dF (·.push Value.none))).update s.heap.objs.size (dF (·.pop))).get? s.heap.objs.size=some (dw "list" ((#[].push Value.none).pop) c4):=⟨_,DH nB _⟩
  have o7:∀b o,b≠s.heap.objs.size->h2.get? b=some o->((h2.update s.heap.objs.size (dF (·.push Value.none))).update s.heap.objs.size (dF (·.pop))).get? b=some o:=fun b o hb e=>(vT _ _ (br hb)).trans ((vT _ _ (br hb)).trans e)
  refine aq ⟨rO vU _,jbd hh hf ht fF pZ Fa aR.length 0 _ c4 (by omega) (st.kept fun b o e hc=>o7 b o (fun z=>?_) e) OC fun h' c' e k=>?_⟩
  .rw[z,fE]at e
   cases e
   exact hc rfl
  .show ah _ A (load s.heap.objs.size >>= _) _ _ _
   refine ae (GS e (aq ?_))
   refine h h' d2 aR hp fun b o q=>?_
   have hb:=aL q
   exact k b o (aT hb) (aT (cj (iL hb sU) hI)) (o7 b o (aT hb) (fW _ _ (o9 _ _ q)))
 .refine aq ⟨rO vU _,jbd hh hf ht fF pZ Fa aR.length 0 _ _ (by omega) st fE fun h' c' e k=>?_⟩
  show ah _ A (load s.heap.objs.size >>= _) _ _ _
  refine ae (GS e (aq ?_))
  refine h h' d2 aR hp fun b o q=>?_
  have hb:=aL q
  exact k b o (aT hb) (aT (cj (iL hb sU) hI)) (fW _ _ (o9 _ _ q))
end
variable {X:Cx}{H:Hp}
theorem Inv.drawn{ac:List (aa×Obj)}{σ:St}{h':au}{d':Drawn}(I:Inv X ac σ H s)(k:∀b u,s.heap.get? b=some u->h'.get? b=some u):Inv X ac σ H { s with heap:=h',drawn:=d' }:=
 I.call (g':=s.gens) (t':=s.toks) (d':=d') (ch:=[]) (Un.kept k) (I.hok.kept k) I.bare fun _ z=>nomatch z
theorem jbC{X:Cx}{scope:bO}{aV tg iter:aj}{ifs:List aj}{pos:Pos}{wi:TI}{g:TG}{tt:TT}{te:TE}{i:Nat}{y:Str}{py fR:Pos}(hN:X.N.Nodup)(cO:X.N[i]?=some y)(hy:Loc X.env.scope y)(own:List Str)(fr:List Nat)(hc:X.calm=true)(O:CompOk X scope fr)(hi:PI X.nox tg iter wi)
  (hb:∀s H ex,PG (blk X.nox scope own fr s H ex) tg g/\PTs (blk X.nox scope own fr s H ex) ifs tt/\PE (blk X.nox scope own fr s H ex) aV te)
  (hs:∀x,du iter X.env x=pure x:=by intro _;rfl)
  (lQ:iB (.ListComp aV [⟨tg,iter,ifs,0⟩] scope pos) (some (.Name y py)) fR.line X.env=pure true:=by rfl)
  (hf:X.fn y=true\/X.env.scope.names.lookup y=some .local:=by first | exact .inl rfl | exact .inr rfl | assumption) :
  PS X.nox (.Assign [.Name y py] (.ListComp aV [⟨tg,iter,ifs,0⟩] scope pos) fR) (jby (Zf own fr wi g tt te) (kO i)):=by
 intro ac s σ H D I h
 rw[QL _ _ _ _ lQ]
 refine ae (ft (ae ?_))
 show ah _ _ (do let _ <- comprehension (.ListComp aV [⟨tg,iter,ifs,0⟩] scope pos) scope X.nox.env _ (vJ []) false (eval iter X.nox.env) (some (assign (.Name y py) X.nox.env))) _ _ s
 refine ae (bi (ZD (X:=X.nox) (use:=some (assign (.Name y py) X.nox.env)) (R:=fun _ s'=>SP X.nox ac D .next s') hc ⟨O.kind,O.nocell,O.loc,O.frees,O.fr⟩ hi hb hs I h (fun _ _=>Iff.rfl)
  fun p C H' s' m hm hC hL iZ hz iS I' back q=>?_) (fun _ s' hq=>aq (aq hq)) fun _ _ e=>e)
 show ah _ _ (assign (.Name y py) X.nox.env (.ref p)) _ _ _
 refine GY (Kj (v:=.ref p) I' hN cO hy rfl (fun s2 I2 Ay=>?_) hf)
 obtain⟨a,Az,ha⟩:=Ay
 have Bq:C≠a:=by
  rcases ha with rfl | e
  .exact hL
  .exact fun z=>iZ _ _ e z.symm
 refine⟨m,hm.sameBut Az Bq,fun h' b_=>?_⟩
 exact⟨_,H',I2.turned (t':=s2.toks) (fun b o hb e=>(b_.2 b hb).trans e) hC hL (.inr hz) iZ iS,q⟩
variable {P:az}{K:av}
section
variable {ac:List (aa×Obj)}{σ:St}{tg:aj}
theorem Inv.relabel{u v:HO}(I:Inv X ac σ H s)(hu:H a=some u)(h1:∀xs,u≠.tup xs)(h2:∀ps,u≠.tbl ps)(h3:∀o z,X.H₀ a≠some (.frz o z))(h4:∀x,u≠.own x)(hv:ObjOk X.prog X.w (upd H a v) s.heap a v):Inv X ac σ (upd H a v) s:=by
 have ne:∀b,H b=none->b≠a:=fun b n z=>by rw[z,hu]at n;cases n
 have nt:∀b xs,H b=some (.tup xs)->b≠a:=fun b xs n z=>by rw[z,hu]at n;exact h1 xs (bZ n)
 have no:∀b x,H b=some (.own x)->b≠a:=fun b x n z=>by rw[z,hu]at n;exact h4 x (bZ n)
 refine⟨I.ok,I.os,I.bare,⟨I.base.keep,I.base.slot,fun b o e n hx=>?_,I.base.there,fun b xs e=>?_,fun b o z e=>?_,fun b ps e=>?_,I.base.stay⟩,I.loc,I.cell,?_,fun x c e=>?_,fun p hp=>?_,fun b o e=>?_,I.len⟩
 .have q:=I.base.free b o e n hx
  rw[jp (ne b q)];exact q
 .have q:=I.base.tups b xs e
  rw[jp (nt b xs q)];exact q
 .have hb:b≠a:=fun z'=>by subst z';exact h3 _ _ e
  rw[jp hb];exact I.base.frzs b o z e
 .obtain⟨m,q⟩:=I.base.tbls b ps e
  have hb:b≠a:=fun z'=>by rw[z',hu]at q;exact h2 _ (bZ q)
  exact⟨m,by rw[jp hb];exact q⟩
 .rw[jp (ne _ I.free)];exact I.free
 .rw[jp (ne _ (I.freeC x c e))];exact I.freeC x c e
 .obtain⟨q1,q2,q3⟩:=I.pin p hp
  exact⟨q1,by rw[jp (ne _ q2)];exact q2,q3⟩
 .by_cases hb:b=a
  .subst hb
   rw[jb]at e
   cases e
   exact hv
  .rw[jp hb]at e
   exact (I.hok b o e).stay (fun _ _ _ q=>q) (fun c q=>by rw[jp (no c _ q)];exact q) fun c xs q=>by rw[jp (nt c xs q)];exact q
def Itd(a:aa)(o:Obj)(kvs:List (Key×V)):It:=
 ⟨fun i H=>H a=some (.frz o (.dK kvs))/\i < kvs.length,fun i H x H'=>H'=H/\∃k v,kvs[i]?=some (k,v)/\x=kV k,fun i H=>H a=some (.frz o (.dK kvs))/\kvs.length<=i⟩
theorem jcv:∀{kvs:List (Key×V)} {vs:List (Key×ad)},KV kvs vs->∀{i:Nat} {k:Key} {v:V},kvs[i]?=some (k,v)->∃u,vs[i]?=some (k,u)
 | [],[],_,i,k,v,e=>by simp at e
 | p :: r,q :: t,h,i,k,v,e=>by
  unfold KV at h
  cases h with
  | cons h1 h2=>
   cases i with
   | zero=>
    have:p=(k,v):=by simpa using e
    subst this;obtain⟨q1,q2⟩:=q;have e1:k=q1:=h1.1;subst e1;exact⟨q2,by simp⟩
   | succ j=>
    obtain⟨u,e2⟩:=jcv (kvs:=r) (vs:=t) h2 (i:=j) (k:=k) (v:=v) (by simpa using e);exact⟨u,by simpa using e2⟩
theorem jai{h:au}{kvs:List (Key×V)}{rc:Array vV}(hd:o.data=.dict rc ep)(x:ObjOk P w H h a (.frz o (.dK kvs))):∃vs,KV kvs vs/\h.DictAt (j6 P w) a vs ep:=by
 obtain⟨e,_,_,vs,r,o',es,eD,e',c1,c2,c3⟩:=x;rw[e]at e'
 cases e'
 rw[hd]at c2
 cases c2
 exact⟨vs,r,o,_,e,c1,hd,c3⟩
theorem jcX(a it:aa){kvs:List (Key×V)}{rc:Array vV}(hd:o.data=.dict rc ep):Turn P w K tg (Itd a o kvs) [it] it (fun i h=>h.IsKeyIter it a i kvs.length ep) where
 mem:=by simp
 obj:=fun i h st b hb=>by
  have e:b=it:=by simpa using hb
  subst e;obtain⟨o,e,c,d⟩:=st;exact⟨o,e,fun v z=>by rw[d]at z;cases z⟩
 keep:=fun i h h' st k=>by
  obtain⟨o,e,c,d⟩:=st;exact⟨o,k it (by simp) o e,c,d⟩
 item:=by
  intro X hP hw hK hc i ac s σ H E I hf st hg;subst hP hw hK;obtain⟨hq,hi⟩:=hg;obtain⟨vs,rv,da⟩:=jai hd (I.hok a _ hq);obtain⟨k,v⟩:∃kv,kvs[i]?=some kv:=⟨_,aI hi⟩
  obtain⟨k,v'⟩:=k;obtain⟨u,hu⟩:=jcv rv v;obtain⟨f0,f1,f2,f3,f4,f5⟩:=hf it (by simp);have hl:kvs.length=vs.length:=rv.length;rw[hl]at st;refine wpAny_pyNext_dict_item st da hu fun bz h' hk bM sb=>?_
  have I1:Inv X ac σ H { s with heap:=h' }:=I.turned (t':=s.toks) (fun b o hb e=>(sb.2 b hb).trans e) f0 f1 f3 f4 f5;obtain⟨ob,e,c,d⟩:=id bM;have rk:RelV (kV k) bz:=by
   rcases kg (show KL k bz=true from hk) with⟨j,t,rfl,rfl⟩ | ⟨y,t,rfl,rfl⟩
   .exact⟨t,rfl⟩
   .exact⟨t,rfl⟩
  rw[<- hl]at bM;exact⟨bz,rfl,jcB (s:={ s with heap:=h' }) e c d (by decide) ⟨kV k,H,I1,rk,⟨rfl,k,v',v,rfl⟩,bM,fun b hb=>(hf b hb).1⟩⟩
 done:=by
  intro X hP hw hK hc i ac s σ H E I hf st hg;subst hP hw hK;obtain⟨hq,hi⟩:=hg;obtain⟨vs,rv,da⟩:=jai hd (I.hok a _ hq);obtain⟨f0,f1,f2,f3,f4,f5⟩:=hf it (by simp);have hl:kvs.length=vs.length:=rv.length;rw[hl]at st;exact wpAny_pyNext_dict_end (I.ok.hd hc) st da (List.getElem?_eq_none (by omega)) fun h' eb=>⟨rfl,I.turned (t':=s.toks) (fun b o hb e=>eb b o hb e) f0 f1 f3 f4 f5⟩
 self:=fun _ _ _ _ _ st h=>wpAny_pyIter_keyiter st h
def jip(tl:TE):TI:=fun σ H R=>tl σ H fun x H1=>∃a kvs,x=.ref a/\H1 a=some (.dK kvs)/\∀o,R (Itd a o kvs) (upd H1 a (.frz o (.dK kvs)))
def jhN(H₀:Hp)(t:TS):TS:=fun D σ H=>t { D with nx:=fun σ' H'=>∃a o kvs,H' a=some (.frz o (.dK kvs))/\(∀o z,H₀ a≠some (.frz o z))/\D.nx σ' (upd H' a (.dK kvs)) } σ H
end
theorem Ka:eL "enumerate" = some (.type "enumerate"):=by decide +kernel
def Ite(K:av)(l:aa):It:=
 ⟨fun i H=>∃xs x,SqL K H l xs/\xs[i]?=some x,fun i H x H'=>∃t y,H t=none/\(∀xs,SqL K H l xs->xs[i]?=some y)/\x=.ref t/\H'=upd H t (.tup [.int i,y]),fun i H=>∃xs,SqL K H l xs/\xs.length<=i⟩
theorem jcW{iq:List aj}{x1:Nat}{tp:Pos}(l e it:aa)(aW:e≠it):Turn P w K (.Tuple iq x1 tp) (Ite K l) [e,it] e (fun i h=>(∃bR,gA h e it i bR)/\h.IsListIter it l i) where
 mem:=by simp
 obj:=fun i h st b hb=>by
  obtain⟨⟨bR,h1⟩,o,e2,c,d⟩:=st;rcases aN.mp hb with rfl | hb
  .exact⟨_,h1,fun v z=>by cases z⟩
  .rw[bf.mp hb]
   exact⟨o,e2,fun v z=>by rw[d]at z;cases z⟩
 keep:=fun i h h' st k=>by
  obtain⟨⟨bR,h1⟩,o,e2,c,d⟩:=st;exact⟨⟨bR,k e (by simp) _ h1⟩,o,k it (by simp) o e2,c,d⟩
 item:=by
  intro X hP hw hK hc i ac s σ H E I hf st hg;subst hP hw hK;obtain⟨xs,x,hq,hx⟩:=hg;obtain⟨⟨bR,hE⟩,bY⟩:=st;obtain⟨its,rv,p,hz⟩:=I.list hq;obtain⟨u,hu,ru⟩:=rv.get hx;obtain⟨a0,a1,a2,a3,a4,a5⟩:=hf e (by simp);obtain⟨f0,f1,f2,f3,f4,f5⟩:=hf it (by simp);refine wpAny_pyNext_enum_item hE bY p.isList (x:=u) (by simpa using hu) aW fun h' o1 o2 o3 o4 o5=>?_
  refine⟨_,rfl,PU (s:={ s with heap:=h',toks:=s.toks+1 }) o1 fun h2 g1 g2=>?_⟩;have bH:H s.heap.objs.size=none:=I.hok.fresh (aB _);have kp:∀b o,b≠e->b≠it->s.heap.get? b=some o->h2.get? b=some o:=fun b o hb aJ q=>(g2.2 b hb).trans (o5 b o hb aJ q)
  have nt:∀b o,s.heap.get? b=some o->b≠s.heap.objs.size:=fun b o q=>aT (aL q)
  have ne:∀b z,H b=some z->b≠e/\b≠it:=fun b z q=>⟨fun t=>(by rw[t,a0]at q;cases q),fun t=>(by rw[t,f0]at q;cases q)⟩
  have pT:s.heap.objs.size≠e:=fun z=>absurd (aL hE) (by rw[<- z];exact g0 _)
  have I1:Inv X ac σ (upd H s.heap.objs.size (.tup [.int i,x])) { s with heap:=h2,gens:=s.gens,drawn:=s.drawn,toks:=s.toks+1 }:=by
   refine I.step (g':=s.gens) (d':=s.drawn) (ch:=[e,it]) (fun b hb=>?_) (fun b o _ _ bC q _=>kp b o (fun z=>bC (by simp[z])) (fun z=>bC (by simp[z])) q) (fun b o _ _ bC q _=>⟨o.slots,kp b o (fun z=>bC (by simp[z])) (fun z=>bC (by simp[z])) q⟩)
    (fun b o _ q n=>by rw[jp (nt b o q)];exact n) (fun b o bC q=>⟨o,kp b o (fun z=>bC (by simp[z])) (fun z=>bC (by simp[z])) q⟩) (fun b ys q=>by rw[jp (jh q bH)];exact q) (fun b o z q=>by rw[jp (jh q bH)];exact q)
    (fun b ps q=>⟨#[],by rw[jp (jh q bH),q];simp⟩) (fun m hm=>?_) (fun b z q=>?_) I.bare
   .rcases aN.mp hb with rfl | hb
    .exact⟨a3,a1,a4,a5⟩
    .rw[bf.mp hb];exact⟨f3,f1,f4,f5⟩
   .obtain⟨o,es,ep,ho,r⟩:=hm
    exact⟨o,es,ep,kp _ o (br a1) (br f1) ho,r⟩
   .by_cases hb:b=s.heap.objs.size
    .subst hb
     rw[jb]at q
     cases q
     refine⟨?_,[Value.int (i:Int) s.toks,u],.cons ⟨_,rfl⟩ (.cons ru .nil),_,(g2.2 _ pT).trans o3,rfl,0,rfl⟩;show 2<=aF;rw[eJ];decide
    .rw[jp hb]at q
     refine (I.hok b z q).stay (fun c v bC q'=>?_) (fun c q'=>by rw[jp (jh q' bH)];exact q') fun c ys q'=>by rw[jp (jh q' bH)];exact q'
     rcases bC with rfl | bC
     .exact kp c v (ne c z q).1 (ne c z q).2 q'
     .exact kp c v (ne c _ bC).1 (ne c _ bC).2 q'
  refine⟨.ref s.heap.objs.size,_,I1,rfl,⟨_,x,bH,fun ys hy=>by rw[I.list_inj hy hq];exact hx,rfl,rfl⟩,⟨⟨_,g1⟩,?_⟩,fun b hb=>?_⟩
  .obtain⟨o,z1,z2,z3⟩:=o2
   exact⟨o,(g2.2 it (br aW)).trans z1,z2,z3⟩
  .rcases aN.mp hb with rfl | hb
   .rw[jp (br pT)];exact a0
   .rw[bf.mp hb]
    have:it≠s.heap.objs.size:=by
     obtain⟨o,z1,_⟩:=bY;exact nt it o z1
    rw[jp this];exact f0
 done:=by
  intro X hP hw hK hc i ac s σ H E I hf st hg;subst hP hw hK;obtain⟨xs,hq,hx⟩:=hg;obtain⟨⟨bR,hE⟩,bY⟩:=st;obtain⟨its,rv,p,hz⟩:=I.list hq;obtain⟨f0,f1,f2,f3,f4,f5⟩:=hf it (by simp);have hl:=rv.length;exact wpAny_pyNext_enum_end (I.ok.hd hc) hE bY p.isList (by simp;omega) fun h' eb=>⟨rfl,I.turned (t':=s.toks) (fun b o hb e=>eb b o hb e) f0 f1 f3 f4 f5⟩
 self:=fun _ _ _ _ _ st h=>by
  obtain⟨⟨bR,hE⟩,_⟩:=st;exact C8 hE h
section
variable {iq:List aj}{x1:Nat}{tp:Pos}
def jio(K:av)(ta:TA):TI:=fun σ H R=>ta σ H fun vs H1=>∃l,vs=[.ref l]/\(∃xs,SqL K H1 l xs)/\R (Ite K l) H1
theorem y9{l:aa}{xs:List V}{g:TG}{tb:TS}{D:Ends}{σ:St}(Pv:Nat->St->Hp->Prop)(h0:Pv 0 σ H)(hl:∀i σ H,i<=xs.length->Pv i σ H->SqL K H l xs)
  (hs:∀i y σ H t,xs[i]?=some y->Pv i σ H->H t=none->g (.ref t) σ (upd H t (.tup [.int i,y])) fun σ2 H2=>tb { D with nx:=Pv (i+1),ct:=Pv (i+1),bk:=D.nx } σ2 H2) (hd:∀σ H,Pv xs.length σ H->D.nx σ H) :
  ∃W:Nat->Nat->St->Hp->Prop,(∃m,W 0 m σ H)/\∀i m σ H,W i m σ H->
   ((Ite K l).stop i H/\D.nx σ H)\/((Ite K l).go i H/\∃N:St->Hp->Prop,(∀σ' H',N σ' H'->∃m',m' < m/\W (i+1) m' σ' H')/\∀x H',(Ite K l).yld i H x H'->g x σ H' fun σ2 H2=>tb { D with nx:=N,ct:=N,bk:=D.nx } σ2 H2):=by
 refine⟨fun i m σ H=>m=xs.length - i/\i<=xs.length/\Pv i σ H,⟨xs.length,by simp,bA _,h0⟩,?_⟩
 rintro i m σ H ⟨rfl,hi,p⟩
 have q:=hl i σ H hi p
 by_cases a_:i < xs.length
 .refine .inr ⟨⟨xs,xs[i],q,by simp[a_]⟩,Pv (i+1),fun σ' H' p'=>⟨xs.length - (i+1),by omega,rfl,a_,p'⟩,fun x H' y=>?_⟩
  obtain⟨t,z,ht,hz,rfl,rfl⟩:=y
  exact hs i z σ H t (hz xs q) p ht
 .have:i=xs.length:=by omega
  subst this
  exact .inl ⟨⟨xs,q,aB _⟩,hd σ H p⟩
end
end L2
namespace PySem
open AutoSeq1 (wpAny_loadPart')
variable {it t e:aa}{i:Nat}{x bR:ad}{Q:ad->af->Prop}{items:Array ad}
section
variable {prog:az}{w:ax}{A:aM}{E:ad->af->Prop}{s:af}
theorem jeb{items}(bY:s.heap.IsTupleIter it t i)(ht:s.heap.IsTuple t items)(hx:items[i]?=some x)
  (hQ:∀h',h'.IsTupleIter it t (i+1)->cr it s.heap h'->Q x { s with heap:=h' }):ah (am prog w) A (vW (.ref it)) Q E s:=by
 obtain⟨o,ho,hc,hd⟩:=id bY
 obtain⟨ol,iU,_,nl,A4⟩:=ht
 unfold vW
 refine ae (rH (name:=bx "__next__") bY.typeIs Dz (iA Dz bY.typeIs RJ ?_ (RO _)))
 show ah _ _ (field (.ref it) 0 >>= _) _ _ s
 refine ae (fL ho hd (x:=.ref t) rfl ?_)
 show ah _ _ (if (Value.ref t == Value.none)=true then _ else _) _ _ s
 rw[Tt (show ¬((Value.ref t == Value.none)=true) from bF)]
 show ah _ _ (field (.ref it) 1 >>= _) _ _ s
 refine ae (fL ho hd (x:=.int i 0) rfl ?_)
 show ah _ _ (vH (.ref t) >>= _) _ _ s
 refine ae (C7 iU A4 ?_)
 simp only[oE,hx]
 refine ae (GP ho hd (by simp) (aq ⟨x,rfl,aq (hQ _ ?_ (mG ..))⟩))
 exact⟨_,Dx _ ho (Obj.isFreed_of_fields (Rx hd _)),(Obj.cls_mapFields ..).trans hc,by rw[Rx hd];simp[dg]⟩
theorem ZS{items}(hh:A.handled=none)(bY:s.heap.IsTupleIter it t i)(ht:s.heap.IsTuple t items)(hx:items[i]?=none)
  (hE:∀h' e,RB it s.heap h'->(∃o,h'.get? e=some o/\o.cls=.type "StopIteration")->E (.ref e) { s with heap:=h' }):ah (am prog w) A (vW (.ref it)) Q E s:=by
 obtain⟨o,ho,hc,hd⟩:=id bY
 obtain⟨ol,iU,_,nl,A4⟩:=ht
 unfold vW
 refine ae (rH (name:=bx "__next__") bY.typeIs Dz (iA Dz bY.typeIs RJ ?_ (RO _)))
 show ah _ _ (field (.ref it) 0 >>= _) _ _ s
 refine ae (fL ho hd (x:=.ref t) rfl ?_)
 show ah _ _ (if (Value.ref t == Value.none)=true then _ else _) _ _ s
 rw[Tt (show ¬((Value.ref t == Value.none)=true) from bF)]
 show ah _ _ (field (.ref it) 1 >>= _) _ _ s
 refine ae (fL ho hd (x:=.int i 0) rfl ?_)
 show ah _ _ (vH (.ref t) >>= _) _ _ s
 refine ae (C7 iU A4 ?_)
 simp only[oE,hx]
 refine ae (iz (ae (GP ho hd (by simp) ?_)))
 show ah _ _ (rR (.type "StopIteration") [] >>= _) _ _ _
 refine ae ?_
 simp only[rR,newTuple]
 refine ae (dY ?_ (by size_fits))
 refine ae (m:=Dh _ _) (vD (a:=Value.none) (by first | rfl | (simp only[Dh];rfl)) ?_)
 refine dY ?_ (by size_fits)
 simp only[vI]
 refine ae (wpAny_handled ?_)
 first | rw[show A.in1.handled=none from hh] | rw[hh]
 refine ae (aq (wpAny_throw ?_))
 exact hE _ _ (((mG ..).extBut.push _).push _) ⟨_,bV _ rfl,rfl⟩
theorem jdI{St:au->Prop}(he:gA s.heap e it i bR)(aW:e≠it)
  (ig:∀Q':ad->af->Prop,(∀h',St h'->cr it s.heap h'->Q' x { s with heap:=h' })->ah (am prog w) A (vW (.ref it)) Q' E s)
  (keep:∀h h',St h->(∀o,h.get? it=some o->h'.get? it=some o)->St h')
  (hQ:∀h',Dw h' e it ((i:Int)+1) x s.heap.objs.size->St h'->h'.get? s.heap.objs.size=some { cls:=.type "tuple",data:=.seq #[.int i s.toks,x] }->h'.objs.size=s.heap.objs.size+1->
   (∀b o,b≠e->b≠it->s.heap.get? b=some o->h'.get? b=some o)->Q (.ref s.heap.objs.size) { s with heap:=h',toks:=s.toks+1 }) :
  ah (am prog w) A (Builtin.«enumerate.__next__» ⟨[.ref e],[]⟩) (fun fin s'=>∃v,fin=.done (.ret v)/\Q v s') E s:=by
 obtain⟨hp,g,d,tk,os⟩:=s
 show ah _ _ (field (.ref e) 2 >>= _) _ _ _
 refine ae (fL he rfl (x:=.ref it) rfl ?_)
 refine ae (ig _ fun h1 sV b1=>?_)
 replace b1:cr it hp h1:=b1
 have e1:gA h1 e it i bR:=(b1.2 e aW).trans he
 show ah _ _ (field (.ref e) 3 >>= _) _ _ ⟨h1,g,d,tk,os⟩
 refine ae (fL e1 rfl (x:=dg i) rfl ?_)
 show ah _ _ (field (.ref e) 4 >>= _) _ _ ⟨h1,g,d,tk,os⟩
 refine ae (fL e1 rfl (x:=.none) rfl ?_)
 show ah _ _ (mkInt i >>= _) _ _ ⟨h1,g,d,tk,os⟩
 refine ae (wpAny_mkInt ?_)
 show ah _ _ (iC (.ref e) 3 (dg ((i:Int)+1)) >>= _) _ _ ⟨h1,g,d,tk+1,os⟩
 refine ae (rD e1 (by simp) fun h2 e2 b2=>?_)
 replace b2:cr e h1 h2:=b2
 replace e2:gA h2 e it ((i:Int)+1) bR:=e2
 show ah _ _ (iC (.ref e) 4 .none >>= _) _ _ ⟨h2,g,d,tk+1,os⟩
 refine ae (rD e2 (by simp) fun h3 e3 b3=>?_)
 replace b3:cr e h2 h3:=b3
 replace e3:gA h3 e it ((i:Int)+1) bR:=e3
 show ah _ _ (newTuple [.int i tk,x] >>= _) _ _ ⟨h3,g,d,tk+1,os⟩
 refine ae (wpAny_newTuple ?_)
 have hsz:h3.objs.size=hp.objs.size:=by rw[b3.1,b2.1,b1.1]
 have eY:St h3:=keep h1 h3 sV fun o q=>(b3.2 it (br aW)).trans ((b2.2 it (br aW)).trans q)
 have e4:gA (h3.push { cls:=.type "tuple",data:=.seq #[.int i tk,x] }) e it ((i:Int)+1) bR:=aQ _ e3
 have c_:St (h3.push { cls:=.type "tuple",data:=.seq #[.int i tk,x] }):=keep h3 _ eY fun o q=>aQ _ q
 have t4:(h3.push { cls:=.type "tuple",data:=.seq #[.int i tk,x] }).get? hp.objs.size=some { cls:=.type "tuple",data:=.seq #[.int i tk,x] }:=by rw[<- hsz];exact bV _ rfl
 have z4:(h3.push { cls:=.type "tuple",data:=.seq #[.int i tk,x] }).objs.size=hp.objs.size+1:=by rw[lA,hsz]
 have k4:∀b o,b≠e->b≠it->hp.get? b=some o->(h3.push { cls:=.type "tuple",data:=.seq #[.int i tk,x] }).get? b=some o:=fun b o fk tY hb=>
  aQ _ (b3.extBut b o fk (b2.extBut b o fk (b1.extBut b o tY hb)))
 have gk:e < hp.objs.size:=aL he
 rw[hsz]
 generalize h3.push { cls:=.type "tuple",data:=.seq #[.int i tk,x] }=h4 at *
 clear e3 b3 e2 b2 e1 b1 sV eY hsz
 show ah _ _ (RX (.ref e) >>= _) _ _ ⟨h4,g,d,tk+1,os⟩
 refine ae ?_
 unfold RX
 refine ae (fL e4 rfl (x:=.none) rfl (aq ?_))
 simp only[if_true]
 refine ae (iz ?_)
 refine ae (fL e4 rfl (x:=bR) rfl ?_)
 refine ae (rD e4 (by simp) fun h5 e5 b5=>?_)
 replace b5:cr e h4 h5:=b5
 replace e5:gA h5 e it ((i:Int)+1) x:=e5
 show ah _ _ (RY (.ref e) (.ref hp.objs.size) >>= _) _ _ ⟨h5,g,d,tk+1,os⟩
 refine ae ?_
 unfold RY
 refine ae (rD e5 (by simp) fun h6 e6 b6=>?_)
 replace b6:cr e h5 h6:=b6
 replace e6:Dw h6 e it ((i:Int)+1) x hp.objs.size:=e6
 refine rD e6 (by simp) fun h7 e7 b7=>?_
 replace b7:cr e h6 h7:=b7
 replace e7:Dw h7 e it ((i:Int)+1) x hp.objs.size:=e7
 have k7:∀b o,b≠e->h4.get? b=some o->h7.get? b=some o:=fun b o hb q=>b7.extBut b o hb (b6.extBut b o hb (b5.extBut b o hb q))
 refine ae (wpAny_letGo (aq ⟨_,rfl,hQ h7 e7 (keep h4 h7 c_ fun o q=>k7 it o (br aW) q) (k7 _ _ (mK gk) t4) (by rw[b7.1,b6.1,b5.1,z4]) fun b o fk tY hb=>k7 b o fk (k4 b o fk tY hb)⟩))
theorem jbe{Q:Option ad->af->Prop}
  (he:gA s.heap e it i bR) (bY:s.heap.IsTupleIter it t i) (ht:s.heap.IsTuple t items) (hx:items[i]?=some x) (aW:e≠it)
  (hQ:∀h',Dw h' e it ((i:Int)+1) x s.heap.objs.size->h'.IsTupleIter it t (i+1)->h'.get? s.heap.objs.size=some { cls:=.type "tuple",data:=.seq #[.int i s.toks,x] }->h'.objs.size=s.heap.objs.size+1->
   (∀b o,b≠e->b≠it->s.heap.get? b=some o->h'.get? b=some o)->Q (some (.ref s.heap.objs.size)) { s with heap:=h',toks:=s.toks+1 }):ah (am prog w) A (dh (.ref e)) Q E s:=by
 have hT:s.TypeIs (.ref e) "enumerate":=⟨_,he,rfl⟩
 unfold dh
 refine ae (vF (rH (name:=bx "__next__") hT DA (iA DA hT RL ?_ (RP _))))
 exact jdI (St:=fun h=>h.IsTupleIter it t (i+1)) he aW (fun Q' k=>jeb bY ht hx k) (fun h h' st k=>st.at k) fun h' a b c d k=>aq (hQ h' a b c d k)
theorem KS{Q:Option ad->af->Prop}(hh:A.handled=none)
  (he:gA s.heap e it i bR) (bY:s.heap.IsTupleIter it t i) (ht:s.heap.IsTuple t items) (hx:items[i]?=none)
  (hQ:∀h',RB it s.heap h'->Q none { s with heap:=h' }):ah (am prog w) A (dh (.ref e)) Q E s:=by
 have hT:s.TypeIs (.ref e) "enumerate":=⟨_,he,rfl⟩
 unfold dh
 refine ae (vF (rH (name:=bx "__next__") hT DA (iA DA hT RL ?_ (RP _))))
 show ah _ _ (field (.ref e) 2 >>= _) _ _ _
 refine ae (fL he rfl (x:=.ref it) rfl ?_)
 refine ae (ZS hh bY ht hx fun h' x ij aZ=>?_)
 obtain⟨o,ho,hc⟩:=aZ
 refine ae (vE (T:="StopIteration") (b:=true) ⟨o,ho,hc⟩ isSubtype_stop ?_)
 exact aq (hQ _ ij)
theorem jfi(l:aa)(items:Array ad)(n:Nat)(uj:Option aa)(sl:Array (Option ad)):
  Meets (Builtin.«enumerate.__new__» ⟨[.type "enumerate",.ref l],[]⟩) (fun _ R s=>s.heap.get? l=some { cls:=.type "tuple",dict:=uj,data:=.seq items n,slots:=sl }/\
   R (.ok (.ret (.ref (s.heap.push { cls:=.type "tuple_iterator",data:=.fields #[.ref l,.int 0 0] }).objs.size)))
    { s with heap:=(s.heap.push { cls:=.type "tuple_iterator",data:=.fields #[.ref l,.int 0 0] }).push { cls:=.type "enumerate",data:=.fields #[.none,.bool false,.ref s.heap.objs.size,dg 0,.none,.none] } }):=
 .of_wp fun prog w A R s h=>by
  obtain⟨hp,g,d,tk,os⟩:=s;obtain⟨hl,h⟩:=h;have Fg:=sub_enumerate;have hL:au.IsTuple (af.heap ⟨hp,g,d,tk,os⟩) l items:=⟨_,hl,rfl,n,rfl⟩
  wp_walk using wpAny_loadPart' hl;refine wpAny_stack_any fun st=>aq ?_
  split
  .rename_i c _ _ _ _ _
   cases (c == Value.type "enumerate")
   .wp_walk using wpAny_loadPart' hl,vC hL
    exact⟨_,rfl,h⟩
   .wp_walk using wpAny_loadPart' hl,vC hL
    exact⟨_,rfl,h⟩
  .wp_walk using wpAny_loadPart' hl,vC hL
   exact⟨_,rfl,h⟩
theorem jb4{l:aa}(hL:s.heap.IsTuple l items)
  (h:∀h',gA h' (s.heap.objs.size+1) s.heap.objs.size 0 .none->h'.IsTupleIter s.heap.objs.size l 0->h'.objs.size=s.heap.objs.size+2->
   (∀b o,s.heap.get? b=some o->h'.get? b=some o)->Q (.ref (s.heap.objs.size+1)) { s with heap:=h' }) :
  ah (am prog w) A (call (.type "enumerate") [.ref l]) Q E s:=by
 obtain⟨⟨c,uj,dt,sl⟩,hl,hc,n,hd⟩:=hL
 replace hc:c=.type "tuple":=hc
 replace hd:dt=.seq items n:=hd
 subst hc hd
 refine callType_new F.called_enumerate (by decide) (F.typeCall_enumerate_1 _) (F.newCall_enumerate_1 _) (fun obj=>F.args_object_init_2 obj _) F.entry_enumerate_new (jfi l items n uj sl) ⟨hl,?_⟩
 have hz:(s.heap.push { cls:=.type "tuple_iterator",data:=.fields #[.ref l,.int 0 0] }).objs.size=s.heap.objs.size+1:=lA ..
 show _/\_
 rw[hz]
 have he:gA ((s.heap.push { cls:=.type "tuple_iterator",data:=.fields #[.ref l,.int 0 0] }).push { cls:=.type "enumerate",data:=.fields #[.none,.bool false,.ref s.heap.objs.size,dg 0,.none,.none] }) (s.heap.objs.size+1) s.heap.objs.size 0 .none:=by
  have:=bV (s.heap.push { cls:=.type "tuple_iterator",data:=.fields #[.ref l,.int 0 0] }) (o:={ cls:=.type "enumerate",data:=.fields #[.none,.bool false,.ref s.heap.objs.size,dg 0,.none,.none] }) rfl;rw[hz]at this;exact this
 exact⟨⟨_,he,rfl⟩,h _ he ⟨_,aQ _ (bV _ rfl),rfl,rfl⟩ (by rw[lA,hz]) fun b o x=>aQ _ (aQ _ x)⟩
end
end PySem
namespace L2
open PySem PySem.Spec PyProof.Rows
def jfA(K:av)(l:aa):It:=
 ⟨fun i H=>∃xs x,SqT K H l xs/\xs[i]?=some x,fun i H x H'=>∃t y,H t=none/\(∀xs,SqT K H l xs->xs[i]?=some y)/\x=.ref t/\H'=upd H t (.tup [.int i,y]),fun i H=>∃xs,SqT K H l xs/\xs.length<=i⟩
theorem jbv{P:az}{w:ax}{K:av}{iq:List aj}{x1:Nat}{tp:Pos}(l e it:aa)(aW:e≠it):Turn P w K (.Tuple iq x1 tp) (jfA K l) [e,it] e (fun i h=>(∃bR,gA h e it i bR)/\h.IsTupleIter it l i) where
 mem:=by simp
 obj:=fun i h st b hb=>by
  obtain⟨⟨bR,h1⟩,o,e2,c,d⟩:=st;rcases aN.mp hb with rfl | hb
  .exact⟨_,h1,fun v z=>by cases z⟩
  .rw[bf.mp hb]
   exact⟨o,e2,fun v z=>by rw[d]at z;cases z⟩
 keep:=fun i h h' st k=>by
  obtain⟨⟨bR,h1⟩,o,e2,c,d⟩:=st;exact⟨⟨bR,k e (by simp) _ h1⟩,o,k it (by simp) o e2,c,d⟩
 item:=by
  intro X hP hw hK hc i ac s σ H E I hf st hg;subst hP hw hK;obtain⟨xs,x,hq,hx⟩:=hg;obtain⟨⟨bR,hE⟩,bY⟩:=st;obtain⟨its,rv,p,hz⟩:=I.tuple hq;obtain⟨u,hu,ru⟩:=rv.get hx;obtain⟨a0,a1,a2,a3,a4,a5⟩:=hf e (by simp);obtain⟨f0,f1,f2,f3,f4,f5⟩:=hf it (by simp);refine jbe hE bY (show s.heap.IsTuple l its.toArray from p) (x:=u) (by simpa using hu) aW fun h' o1 o2 o3 o4 o5=>?_
  refine⟨_,rfl,PU (s:={ s with heap:=h',toks:=s.toks+1 }) o1 fun h2 g1 g2=>?_⟩;have bH:H s.heap.objs.size=none:=I.hok.fresh (aB _);have kp:∀b o,b≠e->b≠it->s.heap.get? b=some o->h2.get? b=some o:=fun b o hb aJ q=>(g2.2 b hb).trans (o5 b o hb aJ q)
  have nt:∀b o,s.heap.get? b=some o->b≠s.heap.objs.size:=fun b o q=>aT (aL q)
  have ne:∀b z,H b=some z->b≠e/\b≠it:=fun b z q=>⟨fun t=>(by rw[t,a0]at q;cases q),fun t=>(by rw[t,f0]at q;cases q)⟩
  have pT:s.heap.objs.size≠e:=fun z=>absurd (aL hE) (by rw[<- z];exact g0 _)
  have I1:Inv X ac σ (upd H s.heap.objs.size (.tup [.int i,x])) { s with heap:=h2,gens:=s.gens,drawn:=s.drawn,toks:=s.toks+1 }:=by
   refine I.step (g':=s.gens) (d':=s.drawn) (ch:=[e,it]) (fun b hb=>?_) (fun b o _ _ bC q _=>kp b o (fun z=>bC (by simp[z])) (fun z=>bC (by simp[z])) q) (fun b o _ _ bC q _=>⟨o.slots,kp b o (fun z=>bC (by simp[z])) (fun z=>bC (by simp[z])) q⟩)
    (fun b o _ q n=>by rw[jp (nt b o q)];exact n) (fun b o bC q=>⟨o,kp b o (fun z=>bC (by simp[z])) (fun z=>bC (by simp[z])) q⟩) (fun b ys q=>by rw[jp (jh q bH)];exact q) (fun b o z q=>by rw[jp (jh q bH)];exact q)
    (fun b ps q=>⟨#[],by rw[jp (jh q bH),q];simp⟩) (fun m hm=>?_) (fun b z q=>?_) I.bare
   .rcases aN.mp hb with rfl | hb
    .exact⟨a3,a1,a4,a5⟩
    .rw[bf.mp hb];exact⟨f3,f1,f4,f5⟩
   .obtain⟨o,es,ep,ho,r⟩:=hm
    exact⟨o,es,ep,kp _ o (br a1) (br f1) ho,r⟩
   .by_cases hb:b=s.heap.objs.size
    .subst hb
     rw[jb]at q
     cases q
     refine⟨?_,[Value.int (i:Int) s.toks,u],.cons ⟨_,rfl⟩ (.cons ru .nil),_,(g2.2 _ pT).trans o3,rfl,0,rfl⟩;show 2<=aF;rw[eJ];decide
    .rw[jp hb]at q
     refine (I.hok b z q).stay (fun c v bC q'=>?_) (fun c q'=>by rw[jp (jh q' bH)];exact q') fun c ys q'=>by rw[jp (jh q' bH)];exact q'
     rcases bC with rfl | bC
     .exact kp c v (ne c z q).1 (ne c z q).2 q'
     .exact kp c v (ne c _ bC).1 (ne c _ bC).2 q'
  refine⟨.ref s.heap.objs.size,_,I1,rfl,⟨_,x,bH,fun ys hy=>by rw[I.tuple_inj hy hq];exact hx,rfl,rfl⟩,⟨⟨_,g1⟩,?_⟩,fun b hb=>?_⟩
  .obtain⟨o,z1,z2,z3⟩:=o2
   exact⟨o,(g2.2 it (br aW)).trans z1,z2,z3⟩
  .rcases aN.mp hb with rfl | hb
   .rw[jp (br pT)];exact a0
   .rw[bf.mp hb]
    have:it≠s.heap.objs.size:=by
     obtain⟨o,z1,_⟩:=bY;exact nt it o z1
    rw[jp this];exact f0
 done:=by
  intro X hP hw hK hc i ac s σ H E I hf st hg;subst hP hw hK;obtain⟨xs,hq,hx⟩:=hg;obtain⟨⟨bR,hE⟩,bY⟩:=st;obtain⟨its,rv,p,hz⟩:=I.tuple hq;obtain⟨f0,f1,f2,f3,f4,f5⟩:=hf it (by simp);have hl:=rv.length;exact KS (I.ok.hd hc) hE bY (show s.heap.IsTuple l its.toArray from p) (by simp;omega) fun h' eb=>⟨rfl,I.turned (t':=s.toks) (fun b o hb e=>eb b o hb e) f0 f1 f3 f4 f5⟩
 self:=fun _ _ _ _ _ st h=>by
  obtain⟨⟨bR,hE⟩,_⟩:=st;exact C8 hE h
variable {X:Cx}{xs:List V}{H:Hp}
section
variable {iq:List aj}{x1:Nat}{tp:Pos}
def jhu(K:av)(ta:TA):TI:=fun σ H R=>ta σ H fun vs H1=>∃l,vs=[.ref l]/\(∃xs,SqT K H1 l xs)/\R (jfA K l) H1
theorem Kt{K:av}{l:aa}{g:TG}{tb:TS}{D:Ends}{σ:St}(Pv:Nat->St->Hp->Prop)(h0:Pv 0 σ H)(hl:∀i σ H,i<=xs.length->Pv i σ H->SqT K H l xs)
  (hs:∀i y σ H t,xs[i]?=some y->Pv i σ H->H t=none->g (.ref t) σ (upd H t (.tup [.int i,y])) fun σ2 H2=>tb { D with nx:=Pv (i+1),ct:=Pv (i+1),bk:=D.nx } σ2 H2) (hd:∀σ H,Pv xs.length σ H->D.nx σ H) :
  ∃W:Nat->Nat->St->Hp->Prop,(∃m,W 0 m σ H)/\∀i m σ H,W i m σ H->
   ((jfA K l).stop i H/\D.nx σ H)\/((jfA K l).go i H/\∃N:St->Hp->Prop,(∀σ' H',N σ' H'->∃m',m' < m/\W (i+1) m' σ' H')/\∀x H',(jfA K l).yld i H x H'->g x σ H' fun σ2 H2=>tb { D with nx:=N,ct:=N,bk:=D.nx } σ2 H2):=by
 refine⟨fun i m σ H=>m=xs.length - i/\i<=xs.length/\Pv i σ H,⟨xs.length,by simp,bA _,h0⟩,?_⟩
 rintro i m σ H ⟨rfl,hi,p⟩
 have q:=hl i σ H hi p
 by_cases a_:i < xs.length
 .refine .inr ⟨⟨xs,xs[i],q,by simp[a_]⟩,Pv (i+1),fun σ' H' p'=>⟨xs.length - (i+1),by omega,rfl,a_,p'⟩,fun x H' y=>?_⟩
  obtain⟨t,z,ht,hz,rfl,rfl⟩:=y
  exact hs i z σ H t (hz xs q) p ht
 .have:i=xs.length:=by omega
  subst this
  exact .inl ⟨⟨xs,q,aB _⟩,hd σ H p⟩
end
open PySem PySem.Spec PyProof.Rows PySem.W
mutual
def dEq:D->D->Bool
 | .int i,.int j=>i == j
 | .str x,.str y=>x == y
 | .tup a,.tup b=>dEqL a b
 | _,_=>false
def dEqL:List D->List D->Bool
 | [],[]=>true
 | a :: as,b :: bs=>dEq a b && dEqL as bs
 | _,_=>false
end
mutual
theorem Jl:∀{a b:D},dEq a b=true↔a=b
 | .int i,.int j=>by unfold dEq;rw[beq_iff_eq];exact⟨(fun h=>by rw[h]),(fun h=>by injection h)⟩
 | .str i,.str j=>by unfold dEq;rw[beq_iff_eq];exact⟨(fun h=>by rw[h]),(fun h=>by injection h)⟩
 | .tup a,.tup b=>by unfold dEq;rw[dEqL_iff];exact⟨(fun h=>by rw[h]),(fun h=>by injection h)⟩
 | .int i,.str j=>by unfold dEq;exact⟨(fun h=>by cases h),(fun h=>by cases h)⟩
 | .int i,.tup j=>by unfold dEq;exact⟨(fun h=>by cases h),(fun h=>by cases h)⟩
 | .str i,.int j=>by unfold dEq;exact⟨(fun h=>by cases h),(fun h=>by cases h)⟩
 | .str i,.tup j=>by unfold dEq;exact⟨(fun h=>by cases h),(fun h=>by cases h)⟩
 | .tup i,.int j=>by unfold dEq;exact⟨(fun h=>by cases h),(fun h=>by cases h)⟩
 | .tup i,.str j=>by unfold dEq;exact⟨(fun h=>by cases h),(fun h=>by cases h)⟩
theorem dEqL_iff:∀{a b:List D},dEqL a b=true↔a=b
 | [],[]=>by unfold dEqL;exact⟨(fun _=>rfl),(fun _=>rfl)⟩
 | a :: as,b :: bs=>by
  unfold dEqL;rw[cm,Jl,dEqL_iff];exact⟨(fun h=>by rw[h.1,h.2]),(fun h=>by injection h with h1 h2;exact⟨h1,h2⟩)⟩
 | [],b :: bs=>by unfold dEqL;exact⟨(fun h=>by cases h),(fun h=>by cases h)⟩
 | a :: as,[]=>by unfold dEqL;exact⟨(fun h=>by cases h),(fun h=>by cases h)⟩
end
instance:DecidableEq D:=fun a b=>if h:dEq a b=true then isTrue (Jl.mp h) else isFalse fun e=>h (Jl.mpr e)
theorem jfn(a b:List D):dEqL a b=decide (a=b):=by
 apply sM.mpr;rw[dEqL_iff,decide_eq_true_iff]
mutual
theorem ja5{H:Hp}:∀{d d':D} {v:V},Held H d v->Held H d' v->d=d'
 | .int i,.int j,v,h,h'=>by unfold Held at h h';subst h;injection h' with h';rw[h']
 | .str i,.str j,v,h,h'=>by unfold Held at h h';subst h;injection h' with h';rw[h']
 | .tup a,.tup b,v,h,h'=>by
  unfold Held at h h';obtain⟨p,xs,rfl,e,h⟩:=h;obtain⟨p',xs',e0,e',h'⟩:=h';injection e0 with e0;subst e0;rw[e]at e';injection e' with e';injection e' with e';subst e';rw[heldL_inj h h']
 | .int i,.str j,v,h,h'=>by unfold Held at h h';subst h;cases h'
 | .int i,.tup j,v,h,h'=>by unfold Held at h h';subst h;obtain⟨p,xs,e,_⟩:=h';cases e
 | .str i,.int j,v,h,h'=>by unfold Held at h h';subst h;cases h'
 | .str i,.tup j,v,h,h'=>by unfold Held at h h';subst h;obtain⟨p,xs,e,_⟩:=h';cases e
 | .tup i,.int j,v,h,h'=>by unfold Held at h h';subst h';obtain⟨p,xs,e,_⟩:=h;cases e
 | .tup i,.str j,v,h,h'=>by unfold Held at h h';subst h';obtain⟨p,xs,e,_⟩:=h;cases e
theorem heldL_inj{H:Hp}:∀{d d':List D} {v:List V},HeldL H d v->HeldL H d' v->d=d'
 | [],[],_,_,_=>rfl
 | a :: as,b :: bs,v,h,h'=>by
  unfold HeldL at h h';obtain⟨u,r,rfl,h1,h2⟩:=h;obtain⟨u',r',e,fH,fq⟩:=h';injection e with e1 e2;subst e1 e2;rw[ja5 h1 fH,heldL_inj h2 fq]
 | [],b :: bs,v,h,h'=>by unfold HeldL at h h';subst h;obtain⟨u',r',e,_⟩:=h';cases e
 | a :: as,[],v,h,h'=>by unfold HeldL at h h';subst h';obtain⟨u',r',e,_⟩:=h;cases e
end
theorem jbj:∀(a b:List D),((bL (min a.length b.length)).all (fun j=>dEq (a.getD j (.int 0)) (b.getD j (.int 0))) && a.length == b.length)=dEqL a b:=by
 intro a b;apply sM.mpr;rw[dEqL_iff,cm,wm,beq_iff_eq];constructor
 .rintro⟨h1,h2⟩
  apply S9 h2;intro j hj lZ;have:=h1 j (sw.mpr (by omega));rw[Jl]at this;simpa[hj,lZ]using this
 .rintro rfl
  exact⟨fun j _=>Jl.mpr rfl,rfl⟩
variable {s:af}{A:aM}
section
variable {ac:List (aa×Obj)}{σ:St}
theorem jgz(I:Inv X ac σ H s):∀(n:Nat) (A:aM) (d d':D) (x y:V) (u v:ad),d.depth<=n->A.units+n < cLine->Held H d x->Held H d' y->RelV x u->RelV y v->cL A s u v (dEq d d'):=by
 intro n;induction n with
 | zero=>
  intro A d d' x y u v hd hA hx hy ru rv;have p0:A.units < cLine:=by omega
  cases d with
  | int i=>
   unfold Held at hx;subst hx;obtain⟨t,rfl⟩:=ru
   cases d' with
   | int j=>
    unfold Held at hy;subst hy;obtain⟨t',rfl⟩:=rv;unfold dEq;exact Dr i t j t'
   | str j=>
    unfold Held at hy;subst hy;obtain⟨t',rfl⟩:=rv;unfold dEq;exact Ic i t j t'
   | tup ds=>
    unfold Held at hy;obtain⟨b,ys,rfl,hb,_⟩:=hy
    cases rv
    obtain⟨its,_,tb,_⟩:=I.tuple (SqT.of hb);unfold dEq;exact cL.int_tuple i t (show s.heap.IsTuple b its.toArray from tb) p0
  | str i=>
   unfold Held at hx;subst hx;obtain⟨t,rfl⟩:=ru
   cases d' with
   | int j=>
    unfold Held at hy;subst hy;obtain⟨t',rfl⟩:=rv;unfold dEq;exact Ib i t j t'
   | str j=>
    unfold Held at hy;subst hy;obtain⟨t',rfl⟩:=rv;unfold dEq;exact vQ i t j t'
   | tup ds=>
    unfold Held at hy;obtain⟨b,ys,rfl,hb,_⟩:=hy
    cases rv
    obtain⟨its,_,tb,_⟩:=I.tuple (SqT.of hb);unfold dEq;exact cL.str_tuple i t (show s.heap.IsTuple b its.toArray from tb) p0
  | tup ds=>unfold D.depth at hd;omega
 | succ n ih=>
  intro A d d' x y u v hd hA hx hy ru rv;have p0:A.units < cLine:=by omega
  cases d with
  | int i=>exact ih A (.int i) d' x y u v (by unfold D.depth;omega) (by omega) hx hy ru rv
  | str z=>exact ih A (.str z) d' x y u v (by unfold D.depth;omega) (by omega) hx hy ru rv
  | tup ds=>
   have E8:=hx;unfold Held at hx;obtain⟨a,xs,rfl,ha,dR⟩:=hx
   cases ru
   obtain⟨its,ce,ta,_⟩:=I.tuple (SqT.of ha)
   cases d' with
   | int j=>
    unfold Held at hy;subst hy;obtain⟨t',rfl⟩:=rv;unfold dEq;exact cL.tuple_int j t' (show s.heap.IsTuple a its.toArray from ta) p0
   | str j=>
    unfold Held at hy;subst hy;obtain⟨t',rfl⟩:=rv;unfold dEq;exact cL.tuple_str j t' (show s.heap.IsTuple a its.toArray from ta) p0
   | tup bN=>
    have MF:=hy;unfold Held at hy;obtain⟨b,ys,rfl,hb,cI⟩:=hy
    cases rv
    by_cases bI:a=b
    .subst bI
     rw[Jl.mpr (ja5 E8 MF)];exact vR _
    .obtain⟨aS,cH,tb,_⟩:=I.tuple (SqT.of hb)
     refine Dq bI ?_;have l1:=dR.length;have l2:=cI.length;have l3:=ce.length;have l4:=cH.length;have bz:=vP (A:=A) (s:=s) (e:=fun j=>dEq (ds.getD j (.int 0)) (bN.getD j (.int 0))) (show s.heap.IsTuple a its.toArray from ta) (show s.heap.IsTuple b aS.toArray from tb) (by omega) (fun j h1 h2=>by
      have hj:j < ds.length:=by
       have:j < its.length:=by simpa using h1
       omega
      have lZ:j < bN.length:=by
       have:j < aS.length:=by simpa using h2
       omega
      have ej:ds[j]?=some ds[j]:=aI hj;obtain⟨x',aZ,gx⟩:=dR.get ej;obtain⟨y',dQ,gy⟩:=cI.get (aI lZ);obtain⟨u',db,oY⟩:=ce.get aZ;obtain⟨v',f_,oX⟩:=cH.get dQ;have eu:its.toArray[j]=u':=by
       have:=(aY.mp db).2;simpa using this
      have ev:aS.toArray[j]=v':=by
       have:=(aY.mp f_).2;simpa using this
      rw[eu,ev];unfold D.depth at hd;have g1:ds.getD j (.int 0)=ds[j]:=by simp[hj]
      have g2:bN.getD j (.int 0)=bN[j]:=by simp[lZ]
      rw[g1,g2];exact ih A.in1 ds[j] bN[j] x' y' u' v' (by have:=D.depthL_get ej;omega) (by show A.units+1+n < cLine;omega) gx gy oY oX)
     have e:((bL (min its.toArray.size aS.toArray.size)).all (fun j=>dEq (ds.getD j (.int 0)) (bN.getD j (.int 0))) && its.toArray.size == aS.toArray.size)=dEqL ds bN:=by
      have e1:its.toArray.size=ds.length:=by simp;omega
      have e2:aS.toArray.size=bN.length:=by simp;omega
      rw[e1,e2];exact jbj ds bN
     rw[e]at bz;unfold dEq;exact bz
theorem jbZ(I:Inv X ac σ H s){n:Nat}{ds bN:List D}{ys:List V}{its aS:List ad}(hd:D.depthL ds<=n)(hA:A.units+n < cLine)(dR:HeldL H ds xs)(cI:HeldL H bN ys)(ce:Vals xs its)(cH:Vals ys aS):
  ∀j (h1:j < its.toArray.size) (h2:j < aS.toArray.size),cL A s its.toArray[j] aS.toArray[j] (dEq (ds.getD j (.int 0)) (bN.getD j (.int 0))):=fun j h1 h2=>by
 have l1:=dR.length
 have l2:=cI.length
 have l3:=ce.length
 have l4:=cH.length
 have hj:j < ds.length:=by
  have:j < its.length:=by simpa using h1
  omega
 have lZ:j < bN.length:=by
  have:j < aS.length:=by simpa using h2
  omega
 have ej:ds[j]?=some ds[j]:=aI hj
 obtain⟨x',aZ,gx⟩:=dR.get ej
 obtain⟨y',dQ,gy⟩:=cI.get (aI lZ)
 obtain⟨u',db,oY⟩:=ce.get aZ
 obtain⟨v',f_,oX⟩:=cH.get dQ
 have eu:its.toArray[j]=u':=by
  have:=(aY.mp db).2;simpa using this
 have ev:aS.toArray[j]=v':=by
  have:=(aY.mp f_).2;simpa using this
 rw[eu,ev]
 have g1:ds.getD j (.int 0)=ds[j]:=by simp[hj]
 have g2:bN.getD j (.int 0)=bN[j]:=by simp[lZ]
 rw[g1,g2]
 exact jgz I n A ds[j] bN[j] x' y' u' v' (by have:=D.depthL_get ej;omega) hA gx gy oY oX
theorem Z7(n:Nat)(hu:X.A.units+1+n < cLine):OpR X (dZ .NotEq) (fun x y H Q=>∃a b xs ys ds bN,x=.ref a/\y=.ref b/\H a=some (.tup xs)/\H b=some (.tup ys)/\D.depthL ds<=n/\HeldL H ds xs/\HeldL H bN ys/\Q (.bl (!decide (ds=bN))) H):=by
 intro ac s σ H x y v u Q I rx ry h;obtain⟨a,b,xs,ys,ds,bN,rfl,rfl,ha,hb,hd,dR,cI,q⟩:=h
 cases rx;cases ry
 obtain⟨its,ce,ta,_⟩:=I.tuple (SqT.of ha);obtain⟨aS,cH,tb,_⟩:=I.tuple (SqT.of hb);have l1:=dR.length;have l2:=cI.length;have l3:=ce.length;have l4:=cH.length;have bz:=SeqAt.RcNeAt.tuples (A:=X.A) (s:=s) (e:=fun j=>dEq (ds.getD j (.int 0)) (bN.getD j (.int 0))) (show s.heap.IsTuple a its.toArray from ta) (show s.heap.IsTuple b aS.toArray from tb) (by omega) (jbZ I (A:=X.A.in1) hd (by show X.A.units+1+n < cLine;exact hu) dR cI ce cH);have e:(!((bL (min its.toArray.size aS.toArray.size)).all (fun j=>dEq (ds.getD j (.int 0)) (bN.getD j (.int 0))) && its.toArray.size == aS.toArray.size))=!decide (ds=bN):=by
  have e1:its.toArray.size=ds.length:=by simp;omega
  have e2:aS.toArray.size=bN.length:=by simp;omega
  rw[e1,e2,jbj,jfn]
 rw[e]at bz;exact bz X.prog X.w X.xe _ ⟨.bl (!decide (ds=bN)),H,I,rfl,q⟩
end
def LikeV(K:av)(H:Hp):Nat->V->V->Prop
 | 0,x,y=>(∃i,x=.int i/\y=.int i)\/∃z,x=.str z/\y=.str z
 | n+1,x,y=>LikeV K H n x y\/
  (∃a b xs ys,x=.ref a/\y=.ref b/\SqT K H a xs/\SqT K H b ys/\xs.length=ys.length/\∀(j:Nat) x' y',xs[j]?=some x'->ys[j]?=some y'->LikeV K H n x' y')\/
  ∃a b xs ys,x=.ref a/\y=.ref b/\SqL K H a xs/\SqL K H b ys/\xs.length=ys.length/\∀(j:Nat) x' y',xs[j]?=some x'->ys[j]?=some y'->LikeV K H n x' y'
theorem jaX{K:av}{H:Hp}(z:Str):∀n,LikeV K H n (.str z) (.str z)
 | 0=>.inr ⟨z,rfl,rfl⟩
 | n+1=>.inl (jaX z n)
section
variable {ac:List (aa×Obj)}{σ:St}
theorem KY{ys:List V}{its aS:List ad}(hl:xs.length=ys.length)(ce:Vals xs its)(cH:Vals ys aS)(h:∀(j:Nat) x' y' u' v',xs[j]?=some x'->ys[j]?=some y'->RelV x' u'->RelV y' v'->cL A s u' v' true):
  ∀j (h1:j < its.toArray.size) (h2:j < aS.toArray.size),cL A s its.toArray[j] aS.toArray[j] true:=fun j h1 h2=>by
 have l3:=ce.length
 have fH:j < its.length:=by simpa using h1
 have aZ:xs[j]?=some (xs[j]'(by omega+splitNatSub)):=aI (by omega)
 have dQ:ys[j]?=some (ys[j]'(by omega+splitNatSub)):=aI (by omega)
 obtain⟨u',db,oY⟩:=ce.get aZ
 obtain⟨v',f_,oX⟩:=cH.get dQ
 have eu:its.toArray[j]=u':=by
  have:=(aY.mp db).2;simpa using this
 have ev:aS.toArray[j]=v':=by
  have:=(aY.mp f_).2;simpa using this
 rw[eu,ev]
 exact h j _ _ u' v' aZ dQ oY oX
theorem Jk(I:Inv X ac σ H s):∀(n:Nat) (A:aM) (x y:V) (u v:ad),A.units+n < cLine->LikeV X.K H n x y->RelV x u->RelV y v->cL A s u v true
 | 0,A,x,y,u,v,hA,h,ru,rv=>by
  rcases h with⟨i,rfl,rfl⟩ | ⟨z,rfl,rfl⟩
  .obtain⟨t,rfl⟩:=ru
   obtain⟨t',rfl⟩:=rv;have:=Dr (A:=A) (s:=s) i t i t';rw[beq_self_eq_true]at this;exact this
  .obtain⟨t,rfl⟩:=ru
   obtain⟨t',rfl⟩:=rv;have:=vQ (A:=A) (s:=s) z t z t';rw[beq_self_eq_true]at this;exact this
 | n+1,A,x,y,u,v,hA,h,ru,rv=>by
  rcases h with h | ⟨a,b,xs,ys,rfl,rfl,ha,hb,hl,hj⟩ | ⟨a,b,xs,ys,rfl,rfl,ha,hb,hl,hj⟩
  .exact Jk I n A x y u v (by omega) h ru rv
  .cases ru;cases rv
   by_cases bI:a=b
   .subst bI;exact vR _
   .obtain⟨its,ce,ta,_⟩:=I.tuple ha
    obtain⟨aS,cH,tb,_⟩:=I.tuple hb;refine Dq bI ?_;have l3:=ce.length;have l4:=cH.length;have bz:=vP (A:=A) (s:=s) (e:=fun _=>true) (show s.heap.IsTuple a its.toArray from ta) (show s.heap.IsTuple b aS.toArray from tb) (by omega) (KY hl ce cH fun j x' y' u' v' e1 e2 r1 r2=>Jk I n A.in1 x' y' u' v' (by show A.units+1+n < cLine;omega) (hj j x' y' e1 e2) r1 r2);have e:((bL (min its.toArray.size aS.toArray.size)).all (fun _=>true) && its.toArray.size == aS.toArray.size)=true:=by
     have:its.toArray.size=aS.toArray.size:=by simp;omega
     rw[this];simp
    rw[e]at bz;exact bz
  .cases ru;cases rv
   by_cases bI:a=b
   .subst bI;exact vR _
   .obtain⟨its,ce,ta,_⟩:=I.list ha
    obtain⟨aS,cH,tb,_⟩:=I.list hb;refine Dq bI ?_;have l3:=ce.length;have l4:=cH.length;have bz:=SeqAt.RcAt.lists (A:=A) (s:=s) (e:=fun _=>true) ta.isList tb.isList (by simp;omega) (by omega) (KY hl ce cH fun j x' y' u' v' e1 e2 r1 r2=>Jk I n A.in1 x' y' u' v' (by show A.units+1+n < cLine;omega) (hj j x' y' e1 e2) r1 r2);have e:(bL its.toArray.size).all (fun _=>true)=true:=by simp
    rw[e]at bz;exact bz
end
section
variable {prog:az}{w:ax}{E:ad->af->Prop}
theorem jfs{t b:aa}{vs ws:List ad}{Q:ad->af->Prop}(ht:IsTup s.heap t vs.toArray)(hb:IsTup s.heap b ws.toArray)(hv:vs=[])(h:Q (.ref b) s):ah (am prog w) A (eM .Add (.ref t) (.ref b)) Q E s:=by
 obtain⟨⟨cls,dd,data,sl⟩,ho,hc,n,hd⟩:=id ht;obtain⟨⟨O1,ui,data2,sW⟩,dW,il,n2,fD⟩:=id hb;simp only at hc hd il fD;subst hc hd il fD;exact Hu ⟨_,ho,rfl⟩ ⟨_,dW,rfl⟩ Hk Hh Il Iq (Ir _ _)
   (tuple_addW0 t b vs.toArray ws.toArray n n2 dd ui sl sW (by simp[hv])) ⟨ho,dW,h⟩
end
def jg8:R2:=fun x y H Q=>∃a b xs ys,x=.ref a/\y=.ref b/\H a=some (.tup xs)/\H b=some (.tup ys)/\xs.length+ys.length<=aF/\∀p H',Same H H'->H' p=some (.tup (xs++ys))->Q (.ref p) H'
theorem yX:OpR X (eM .Add) jg8:=by
 intro ac s σ H x y v u Q I rx ry h;obtain⟨a,b,xs,ys,rfl,rfl,ha,hb,hz,q⟩:=h;by_cases hx:xs=[]
 .cases rx
  cases ry
  obtain⟨its,r1,p1,_⟩:=I.tuple (SqT.of ha);obtain⟨aS,r2,p2,_⟩:=I.tuple (SqT.of hb);subst hx;exact jfs p1 p2 (r1.nil_iff.mpr rfl) ⟨.ref b,H,I,rfl,q b H (Same.refl _) hb⟩
 .refine jf5 ac s σ H (.ref a) (.ref b) v u Q I rx ry ⟨a,b,xs,ys,rfl,rfl,SqT.of ha,SqT.of hb,hx,hz,fun hy=>q a H (Same.refl _) (by rw[hy,dl];exact ha),fun _ p hp=>q p _ (fun c o e=>by rw[jp (jh e hp)];exact e) jb⟩
def jhV(t:TS):TS:=fun D σ H=>∃J:St->Hp->Prop,t { D with nx:=J } σ H/\∀σ' H',J σ' H'->D.nx σ' H'
end L2
namespace LW
open PySem L2
mutual
theorem jcA{H H':Hp}(e:∀b xs,H b=some (.tup xs)->H' b=some (.tup xs)):∀{d:D} {v:V},Held H d v->Held H' d v
 | .int i,v,h=>by unfold Held at h |-;exact h
 | .str x,v,h=>by unfold Held at h |-;exact h
 | .tup ds,v,h=>by
  unfold Held at h |-;obtain⟨a,xs,e1,e2,e3⟩:=h;exact⟨a,xs,e1,e a _ e2,heldL_tk e e3⟩
theorem heldL_tk{H H':Hp}(e:∀b xs,H b=some (.tup xs)->H' b=some (.tup xs)):∀{ds:List D} {vs:List V},HeldL H ds vs->HeldL H' ds vs
 | [],vs,h=>by unfold HeldL at h |-;exact h
 | d :: ds,vs,h=>by
  unfold HeldL at h |-;obtain⟨v,r,e1,e2,e3⟩:=h;exact⟨v,r,e1,jcA e e2,heldL_tk e e3⟩
end
def TK(G G':Hp):Prop:=∀b xs,G b=some (.tup xs)->G' b=some (.tup xs)
variable {G G':Hp}
theorem TK.same(h:Same G G'):TK G G':=fun b xs e=>h b _ e
theorem TK.upd{a:aa}{o u:HO}(h:G a=some o)(hn:∀xs,o≠.tup xs):TK G (L2.upd G a u):=fun b xs e=>by
 rw[jp (KI e h (fun z=>hn xs z.symm))];exact e
theorem TK.heldL(h:TK G G'){d:List D}{v:List V}(x:HeldL G d v):HeldL G' d v:=heldL_tk h x
theorem TK.held(h:TK G G'){d:D}{v:V}(x:Held G d v):Held G' d v:=jcA h x
end LW
namespace L2
open PySem PySem.Spec PyProof.Rows PySem.W
abbrev RD:=St->Hp->D->Prop
abbrev RDL:=St->Hp->List D->Prop
def tHD(R:RD):TE:=fun σ H Q=>∃d,R σ H d/\∀v H',Same H H'->Held H' d v->Q v H'
def jiD(R:RDL):TA:=fun σ H Q=>∃ds,R σ H ds/\∀vs H',Same H H'->HeldL H' ds vs->Q vs H'
structure PD(X:Cx)(e:aj)(R:RD):Prop where
 h:PE X e (tHD R)
 m:∀{σ H H' d},Same H H'->R σ H d->R σ H' d
structure PDs(X:Cx)(es:List aj)(R:RDL):Prop where
 h:PA X es (jiD R)
 m:∀{σ H H' d},Same H H'->R σ H d->R σ H' d
def rV(i:Nat):RD:=fun σ H d=>∃v,σ[i]?=some (some v)/\Held H d v
def rK(c:D):RD:=fun _ _ d=>d=c
def rN:RDL:=fun _ _ ds=>ds=[]
def rC(R:RD)(Rs:RDL):RDL:=fun σ H ds=>∃d r,ds=d :: r/\R σ H d/\Rs σ H r
def rT(R:RDL):RD:=fun σ H d=>∃ds,d=.tup ds/\ds.length<=1000/\R σ H ds
def rE(t:TE):RD:=fun σ H d=>∀G,Same H G->∀Q:VK,(∀v G',Same G G'->Held G' d v->Q v G')->t σ G Q
variable {X:Cx}{e:aj}
theorem PE.weak{t t':TE}(h:PE X e t)(w:∀σ H Q,t' σ H Q->t σ H Q):PE X e t':=fun ac s σ H Q I q=>h ac s σ H Q I (w σ H Q q)
variable {es:List aj}
theorem PA.weak{t t':TA}(h:PA X es t)(w:∀σ H Q,t' σ H Q->t σ H Q):PA X es t':=fun pos ac s σ H Q I q=>h pos ac s σ H Q I (w σ H Q q)
theorem fQ{a b c}(h:FnScope a b c:=by exact⟨rfl,rfl,rfl,by decide +kernel,rfl,by decide +kernel,by decide +kernel⟩):FnScope a b c:=h
theorem oQ{p q:Prop}(h:p\/q:=by first|exact .inl rfl|exact .inr rfl):p\/q:=h
variable {H:Hp}
theorem jiR{i:Nat}{v:V}{σ σ':St}{Q:St->Hp->Prop}(e:σ.set i (some v)=σ')(h:Q σ' H):kO i v σ H Q:=by subst e;exact h
theorem gQ{i:Nat}{v:V}{σ σ':St}{Q:St->Hp->Prop}(h:Q σ' H)(e:σ.set i (some v)=σ':=by simp only[List.set_cons_succ,List.set_cons_zero];rfl):kO i v σ H Q:=jiR e h
theorem jV{t:TS}{D:Ends}{σ σ':St}(e:σ=σ')(h:t D σ' H):t D σ H:=by subst e;exact h
def goS:List Str->List V->St
 | [],vs=>vs.map some
 | _ :: N,v :: vs=>some v :: goS N vs
 | _ :: N,[]=>none :: goS N []
theorem Ye:∀(N:List Str) (vs:List V),zr N vs=goS N vs
 | [],vs=>by unfold zr goS;simp
 | _ :: N,v :: vs=>by
  have:=Ye N vs;unfold zr at this |-;unfold goS;rw[<- this,bE,bo,bo,Nat.add_sub_add_right];rfl
 | _ :: N,[]=>by
  have:=Ye N [];unfold zr at this |-;unfold goS;rw[<- this];rfl
theorem qN{N:List Str}{vs:List V}{t:TS}{D:Ends}{σ:St}(h:t D σ H)(e:goS N vs=σ:=by simp only[goS];rfl):t D (zr N vs) H:=by rw[Ye,e];exact h
theorem je{p:aa}(h:H p=none)(o:HO):Same H (upd H p o):=fun b u q=>by rw[jp (jh q h)];exact q
theorem yg(H:Hp):Same H H:=fun _ _ e=>e
section
theorem ya(i:Nat){x:Str}{pos:Pos}(hN:X.N[i]?=some x:=by rfl)(hv:Vis X.env.scope x:=by first | exact Or.inl rfl | exact Or.inr (Or.inl rfl) | exact Or.inr (Or.inr rfl))(hd:(x == ("__debug__" : Str))=false:=by decide)
  (cR:(x == ("__classdict__" : Str))=false:=by decide):PD X (.Name x pos) (rV i):=
 ⟨(jew hN hv hd cR).weak fun σ H Q ⟨d,⟨v,e,hv⟩,q⟩=>⟨v,e,q v H (yg H) hv⟩,fun s ⟨v,e,h⟩=>⟨v,e,h.mono s⟩⟩
theorem Kn{i j pos}:PD X (.Constant (.int i) j pos) (rK (.int i)):=⟨jeA.weak fun σ H Q ⟨d,e,q⟩=>by cases e;exact q _ H (yg H) zm,fun _ h=>h⟩
theorem jY{x j pos}:PD X (.Constant (.str x) j pos) (rK (.str x)):=⟨jey.weak fun σ H Q ⟨d,e,q⟩=>by cases e;exact q _ H (yg H) j4,fun _ h=>h⟩
theorem jib{t:TE}(h:PE X e t):PD X e (rE t):=⟨h.weak fun σ H Q ⟨d,r,q⟩=>r H (yg H) Q q,fun s r G sG Q q=>r G (s.trans sG) Q q⟩
theorem jP:PDs X [] rN:=⟨jeG.weak fun σ H Q ⟨d,e,q⟩=>by cases e;exact q _ H (yg H) jx,fun _ h=>h⟩
theorem jq{R:RD}{Rs:RDL}(h:PD X e R)(hs:PDs X es Rs)(hp:qf e=true:=by rfl):PDs X (e :: es) (rC R Rs):=by
 refine⟨(jid h.h hs.h hp).weak fun σ H Q ⟨ds,⟨d,r,e,h1,h2⟩,q⟩=>?_,fun s ⟨d,r,e,h1,h2⟩=>⟨d,r,e,h.m s h1,hs.m s h2⟩⟩;subst e;exact⟨d,h1,fun v H1 s1 hv=>⟨r,hs.m s1 h2,fun vs H2 s2 tH=>q _ _ (s1.trans s2) (jo (hv.mono s2) tH)⟩⟩
theorem jU{R:RDL}{x1}{pos:Pos}(h:PDs X es R):PD X (.Tuple es x1 pos) (rT R):=by
 refine⟨(jex h.h).weak fun σ H Q ⟨d,⟨ds,e,hl,hr⟩,q⟩=>?_,fun s ⟨ds,e,hl,hr⟩=>⟨ds,e,hl,h.m s hr⟩⟩;subst e;refine⟨ds,hr,fun vs H1 s1 tH=>⟨?_,fun p hp=>?_⟩⟩
 .rw[<- tH.length]
  exact cP (jS hl)
 .exact q _ _ (s1.trans (je hp _)) (kc jb (tH.mono (je hp _)))
structure QA(X:Cx)(es:List aj)(t:TA):Prop where
 h:PA X es t
structure QE(X:Cx)(e:aj)(t:TE):Prop where
 h:PE X e t
end
end L2
namespace PySem
open Sem (wp)
namespace F
end F
end PySem
namespace L2
open PySem PySem.Spec PyProof.Rows PySem.W
structure MkFn(P:az)(w:ax)(K:av)(mg:Str->Option ad)(base:au)(k:Nat)(x:Str)(C:aa)(ps:List Str)(sp:Sp):Prop where
 ex:∃f fd,Mk K C f/\FnOk P w K mg base CX0 k f fd ps sp/\Binds K fd ps []/\mg x=some (.ref C)
theorem jgN{X:Cx}{k k':Nat}{x:Str}{C:aa}{ps:List Str}{sp:Sp}{e:aj}{es:List aj}{t:TA}{p pos:Pos}(F:MkFn X.prog X.w X.K X.mg X.base k x C ps sp)(hr:Room k' X.A)(ha:PA X (e :: es) t)(hk:k+1<=k':=by decide)(hg:Gl X x:=by rfl)
  (hd:(x == ("__debug__" : Str))=false:=by decide) (hp:(e :: es).all qf=true:=by rfl):PE X (.Call (.Name x p) (e :: es) [] pos) (Ze C sp [] E0 t):=by
 obtain⟨f,fd,M,G,b,m⟩:=F.ex
 rw[g7,cm]at hp
 exact jfZ M G (hr.mono hk) hg m b .nil jeF ha hd (qM hp.1 es X.env) (yR pos X.env es hp.2)
theorem YJ{env:Env}(kx vx gens scope pos):eval (.DictComp kx vx gens scope pos) env=comprehension (.DictComp kx vx gens scope pos) scope env (rW gens pos) rS (firstAsync gens) (firstIter gens env):=rfl
theorem Js{prog:az}{w:ax}{A:aM}{s:af}{kx vx target iter:aj}{ifs:List aj}{scope:bO}{pos:Pos}{it:ad}{D:aa}{env:Env}{R:ly->af->Prop}(I:Nat->af->Prop)
  (cY:∀n s,I n s->ah (am prog w) A (dh it) (fun r s1=>match r with
   | none=>R (.ok .next) s1
   | some v=>ah (am prog w) A (le target it v) (fun _ fT=>ah (am prog w) A (assign target env v) (fun _ s2=>
     ah (am prog w) A (forIn ifs true fun c r=>if r=true then do let ok <- isTrue c env (eval c env);pure (ForInStep.yield ok) else pure (ForInStep.yield r)) (fun ok s3=>
      if ok=true then ah (am prog w) A (eval kx env) (fun kv s4=>ah (am prog w) A (eval vx env) (fun vv s5=>
       ah (am prog w) A (dictSet D kv vv) (fun _ s6=>∃m,m < n/\I m s6) (fun _ _=>False) s5) (fun _ _=>False) s4) (fun _ _=>False) s3
      else ∃m,m < n/\I m s3) (fun _ _=>False) s2) (fun _ _=>False) fT) (fun _ _=>False) s1) (fun _ _=>False) s)
  (n:Nat) (h:I n s):cD (am prog w) A (.compLoop (.DictComp kx vx [⟨target,iter,ifs,0⟩] scope pos) 0 it (.ref D) env) R s:=by
 have no:∀(x:ad) (s':af),False->rP (am prog w) A env (fun e s'=>R (.error e) s') x s':=fun _ _ z=>z.elim
 refine Dj rfl I (fun n s hI=>?_) n h
 show ah _ A ((rX (.DictComp kx vx [⟨target,iter,ifs,0⟩] scope pos) 0 it (.ref D) env).onRaise (fun x=>do rQ x env;De x)) _ _ s
 refine C9 ?_
 rw[compTurn_dict]
 refine ae (ft (ae (bi (cY n s hI) (fun r s1 h1=>?_) no)))
 cases r with
 | none=>exact aq h1
 | some v=>
  refine ae (bi h1 (fun _ fT fH=>?_) no)
  refine ae (bi fH (fun _ s2 h2=>ae (bi h2 (fun ok s3 h3=>?_) no)) no)
  cases ok with
  | false=>exact aq ⟨rfl,h3⟩
  | true=>
   exact ae (ae (bi h3 (fun kv s4 h4=>ae (dr (bi h4 (fun vv s5 h5=>ae (ft (dr (bi h5 (fun _ s6 h6=>aq ⟨rfl,h6⟩) no)))) no))) no))
def K7(J:It)(p:aa)(g:TG)(tt:TT)(tk tv:TE)(Q:VK)(σ:St)(H:Hp):Prop:=∃W:Nat->Nat->St->Hp->Prop,(∃m,W 0 m σ H)/\
 ∀i m σ' H',W i m σ' H'->(J.stop i H'/\Q (.ref p) H')\/(J.go i H'/\∃N:St->Hp->Prop,(∀σ3 H3,N σ3 H3->∃m',m' < m/\W (i+1) m' σ3 H3)/\∀x H2,J.yld i H' x H2->g x σ' H2 fun σ3 H3=>tt σ3 H3 fun c H4=>
  if c=true then tk σ3 H4 fun ky H5=>tv σ3 H5 fun y H6=>∃kvs k,ky=kV k/\H6 p=some (.dK kvs)/\kvs.length < aF/\N σ3 (upd H6 p (.dK (kB kvs k y))) else N σ3 H4)
def Ki(own:List Str)(fr:List Nat)(wi:TI)(g:TG)(tt:TT)(tk tv:TE):TE:=fun σ H Q=>wi σ H fun J H1=>∀p,H1 p=none->K7 J p g tt tk tv Q (jb5 own fr σ) (upd H1 p (.dK []))
theorem jdM{X:Cx}{scope:bO}{own:List Str}{fr:List Nat}{kx vx tg iter:aj}{ifs:List aj}{pos:Pos}{wi:TI}{g:TG}{tt:TT}{tk tv:TE}{use:Option (ad->Sem Unit)}(hc:X.calm=true)(O:CompOk X scope fr)(hi:PI X tg iter wi)
  (hb:∀s H ex,PG (blk X scope own fr s H ex) tg g/\PTs (blk X scope own fr s H ex) ifs tt/\PE (blk X scope own fr s H ex) kx tk/\PE (blk X scope own fr s H ex) vx tv)
  (hs:∀x,du iter X.env x=pure x) {ac:List (aa×Obj)} {s:af} {σ:St} {H:Hp} {Q:VK} {R:ad->af->Prop} (I:Inv X ac σ H s) (h:Ki own fr wi g tt tk tv σ H Q) (hx:∀e s',X.xe e s'↔False)
  (fin:∀(p C:aa) (H':Hp) (s':af) (m:Str->Option ad),s'.heap.Ns C m->H' C=none->C≠X.env.locals->(∀x c,X.env.cells.lookup x=some c->c≠C)->Inv X ac σ H' s'->(∀h',cr C s'.heap h'->Inv X ac σ H' { s' with heap:=h' })->Q (.ref p) H'->
   li (am X.prog X.w) X.A X.xe use R (.ref p) C (.ok .next) s') :
  ah (am X.prog X.w) X.A (comprehension (.DictComp kx vx [⟨tg,iter,ifs,0⟩] scope pos) scope X.env (rW [⟨tg,iter,ifs,0⟩] pos) rS false (eval iter X.env) use) R X.xe s:=by
 have ia:∀x∈scope.names,x.2=.free->(X.env.cells.lookup x.1).isSome=true:=fun x aZ e=>by
  obtain⟨c,hc⟩:=I.ok.has x.1 (O.frees x aZ e);rw[hc];rfl
 have no:∀(E:ad->af->Prop) (x:ad) (s':af),X.xe x s'->E x s':=fun E x s' z=>((hx x s').mp z).elim
 refine Da (cl:=yH X.env.cells scope.names []) rfl hs (yG ia) O.kind O.loc ?_
 refine thn (hi ac s σ H _ I h) fun v s1 h1=>thn h1 fun m8 s2 h2=>?_
 obtain⟨it,fp,tn,J,H2,e,I2,T,eZ,f2,q2⟩:=h2
 subst e
 unfold rS
 refine dY ?_
 have nw:H2 s2.heap.objs.size=none:=I2.fresh
 obtain⟨W,⟨m0,w0⟩,cY⟩:=q2 _ nw
 generalize hp:s2.heap.objs.size=p at *
 have I3:Inv X ac σ (upd H2 p (.dK [])) { s2 with heap:=s2.heap.push { cls:=.type "dict",data:=.dict #[] } }:=by
  have:=I2.laid (a:=s2.heap.objs.size) (o:=.dK []) (t':=s2.toks) (fun _ _ q=>aQ { cls:=.type "dict",data:=.dict #[] } q) (aB _) (J5 s2.heap I2.big);rw[hp]at this;exact this
 have fX:∀b∈fp,b < s2.heap.objs.size:=fun b hb=>by
  obtain⟨o,ho,_⟩:=T.obj _ _ eZ b hb;exact aL ho
 have gn:∀b∈fp,(upd H2 p (.dK [])) b=none:=fun b hb=>by
  rw[jp (by rw[<- hp];exact aT (fX b hb))];exact (f2 b hb).1
 generalize eC:({ s2 with heap:=s2.heap.push { cls:=.type "dict",data:=.dict #[] } }:af)=s3 at *
 have lH:s3.heap.objs.size=p+1:=by
  rw[<- eC];show (s2.heap.push _).objs.size=_;rw[lA,hp]
 have eY:tn 0 s3.heap:=T.keep 0 _ _ eZ fun b hb o e=>by
  rw[<- eC];exact aQ _ e
 refine C_ O.nocell (by intro y hy;simp at hy) (fun h4 gg lS=>?_) O.kind
 have k4:∀b o,s3.heap.get? b=some o->h4.get? b=some o:=fun b o e=>lS.extBut b o (aT (aL e)) (aQ _ e)
 have lV:h4.Ns s3.heap.objs.size fun _=>none:=by
  have z:(fun x:Str=>([]:List (Str×ad)).reverse.lookup x)=fun _=>none:=by funext x;rfl
  rw[z]at gg;exact gg
 have fo:∀b∈fp,yK X ac (upd H2 p (.dK [])) b/\b < s3.heap.objs.size:=fun b hb=>⟨⟨gn b hb,(f2 b hb).2⟩,by rw[lH,<- hp];exact sq (fX b hb)⟩
 have I4:=K6 (own:=own) (fr:=fr) (t1:=s3.toks+([]:List (Str×ad)).length) I3 O fo lV k4
 have c_:tn 0 h4:=T.keep 0 _ _ eY fun b hb o e=>k4 b o e
 obtain⟨hg,ht,lY,f_⟩:=hb s3 (upd H2 p (.dK [])) fp
 have cZ:∀{H':Hp} {pn:List (aa×Obj)} {s':af} {σ':St},Inv (blk X scope own fr s3 (upd H2 p (.dK [])) fp) [] σ' H' s'->(∀b∈fp,H' b=none)->∀b∈fp,yK (blk X scope own fr s3 (upd H2 p (.dK [])) fp) [] H' b:=fun {H' pn s' σ'} J hn b aJ=>
  ⟨hn b aJ,(J.ok.exf b aJ).1,J.ok.exfs b aJ,.inl aJ,(J.ok.exf b aJ).2,fun p hp=>absurd hp (by simp[blk])⟩
 have lM:∀x c,X.env.cells.lookup x=some c->c≠s3.heap.objs.size:=fun x c e=>by
  obtain⟨v,q⟩:=I3.cell x c e;exact aT q.lt
 have fY:∀s5:af,s5={ s3 with heap:=h4,toks:=s3.toks+([]:List (Str×ad)).length }->
   cD (am X.prog X.w) X.A (.compLoop (.DictComp kx vx [⟨tg,iter,ifs,0⟩] scope pos) 0 (.ref it) (.ref p) (blk X scope own fr s3 (upd H2 p (.dK [])) fp).env) (li (am X.prog X.w) X.A X.xe use R (.ref p) s3.heap.objs.size) s5:=by
  rintro s5 rfl
  refine Js (fun n s'=>∃i σ' H',Inv (blk X scope own fr s3 (upd H2 p (.dK [])) fp) [] σ' H' s'/\tn i s'.heap/\(∀b∈fp,H' b=none)/\W i n σ' H') ?_ m0 ⟨0,_,_,I4,c_,gn,w0⟩
  rintro n s6 ⟨i,σ6,H6,I6,fP,gm,w6⟩
  rcases cY i n σ6 H6 w6 with⟨stop,qn⟩ | ⟨go,N,hN,step⟩
  .refine thn (T.done (blk X scope own fr s3 (upd H2 p (.dK [])) fp) rfl rfl rfl hc i [] s6 σ6 H6 _ I6 (cZ (pn:=[]) I6 gm) fP stop) fun r s7 ⟨hr,I7⟩=>?_
   subst hr
   obtain⟨m,hm,_⟩:=I7.loc
   exact fin p _ H6 s7 m hm I7.free (mK I3.lt) lM (zo I3 fo I7 (iH ..)) (fun h' b_=>zo I3 fo I7 b_) qn
  .refine thn (T.item (blk X scope own fr s3 (upd H2 p (.dK [])) fp) rfl rfl rfl hc i [] s6 σ6 H6 _ I6 (cZ (pn:=[]) I6 gm) fP go) fun r s7 ⟨u,hr,h7⟩=>?_
   subst hr
   refine thn h7 fun _ s8 hM=>?_
   obtain⟨x,H8,I8,r8,y8,dO,mh⟩:=hM
   have mm:=I8.pinned (cZ (pn:=[]) I8 mh) (T.obj _ _ dO)
   refine thn (hg _ s8 σ6 H8 x u _ mm r8 (step x H8 y8)) fun _ s9 hM=>?_
   obtain⟨σ9,H9,I9,q9⟩:=hM
   refine thn (ht _ s9 σ9 H9 _ I9 q9) fun ok dP hM=>?_
   obtain⟨mq,i8,eB⟩:=hM
   have again:∀{bK:Hp} {bp:af},Inv (blk X scope own fr s3 (upd H2 p (.dK [])) fp) ([]++zq fp s8.heap) σ9 bK bp->(∃m',m' < n/\W (i+1) m' σ9 bK)->
     ∃m,m < n/\∃i σ' H',Inv (blk X scope own fr s3 (upd H2 p (.dK [])) fp) [] σ' H' bp/\tn i bp.heap/\(∀b∈fp,H' b=none)/\W i m σ' H':=fun {bK bp} ci ⟨m',hm,g_⟩=>by
    refine⟨m',hm,i+1,σ9,bK,ci.unpinned,T.keep _ _ _ dO fun b aJ o e=>(ci.pin (b,o) (b4 _ (b4 _ (kj aJ e)))).1,fun b aJ=>?_,g_⟩
    obtain⟨o,e,d⟩:=T.obj _ _ dO b aJ
    exact (ci.pin (b,o) (b4 _ (b4 _ (kj aJ e)))).2.1
   cases ok with
   | false=>
    rw[Tt bF]at eB |-
    exact again i8 (hN _ _ eB)
   | true=>
    rw[Tu rfl]at eB |-
    refine thn (lY _ dP σ9 mq _ i8 eB) fun kv bp hM=>?_
    obtain⟨ky,bK,ci,lK,o6⟩:=hM
    refine thn (f_ _ bp σ9 bK _ ci o6) fun vv bv hM=>?_
    obtain⟨y,mo,mn,oZ,kvs,k,ek,gM,hlen,o0⟩:=hM
    subst ek
    obtain⟨z,hd,vs,bG,dd⟩:=jcF mn.hok gM
    have hl:(kB kvs k y).length<=aF:=by have:=kH kvs k y;omega
    refine P3 (KM lK) dd (fun h' dI b_=>?_) (by rw[<- bG.length];exact z)
    have A1:∃q,h'.get? p=some q:=let ⟨q,_,_,hq,_⟩:=dI;⟨q,hq⟩
    exact again (J7 (t':=bv.toks+1) mn (by rw[gM];exact True.intro) b_ A1 (jah hl hd (bG.put k oZ) dI)) (hN _ _ o0)
 refine QX (fY _ rfl) (T.self X.A 0 _ _ _ c_ (fY _ rfl))
theorem jeC{X:Cx}{scope:bO}{kx vx tg iter:aj}{ifs:List aj}{pos:Pos}{wi:TI}{g:TG}{tt:TT}{tk tv:TE}(own:List Str)(fr:List Nat)(hc:X.calm=true)(O:CompOk X scope fr)(hi:PI X.nox tg iter wi)
  (hb:∀s H ex,PG (blk X.nox scope own fr s H ex) tg g/\PTs (blk X.nox scope own fr s H ex) ifs tt/\PE (blk X.nox scope own fr s H ex) kx tk/\PE (blk X.nox scope own fr s H ex) vx tv)
  (hs:∀x,du iter X.env x=pure x:=by intro _;rfl):PE X.nox (.DictComp kx vx [⟨tg,iter,ifs,0⟩] scope pos) (Ki own fr wi g tt tk tv):=by
 intro ac s σ H Q I h
 rw[YJ]
 refine jdM (X:=X.nox) (use:=none) (Q:=Q) hc ⟨O.kind,O.nocell,O.loc,O.frees,O.fr⟩ hi hb hs I h (fun _ _=>Iff.rfl) fun p C H' s' m hm hC _ _ I' back q=>?_
 exact⟨m,hm,fun h' b_=>⟨.ref p,H',back h' b_,rfl,q⟩⟩
section
variable {p:aa}{g:TG}{tt:TT}{tk tv:TE}{σ:St}{H:Hp}{Q:VK}
theorem jdL{K:av}{a:aa}{xs:List V}(Pv:Nat->St->Hp->Prop)(h0:Pv 0 σ H)(hl:∀i σ' H',i<=xs.length->Pv i σ' H'->SqT K H' a xs)
  (hs:∀i x σ' H',xs[i]?=some x->Pv i σ' H'->g x σ' H' fun σ3 H3=>tt σ3 H3 fun c H4=>if c=true then tk σ3 H4 fun ky H5=>tv σ3 H5 fun y H6=>∃kvs k,ky=kV k/\H6 p=some (.dK kvs)/\kvs.length < aF/\Pv (i+1) σ3 (upd H6 p (.dK (kB kvs k y))) else Pv (i+1) σ3 H4)
  (hd:∀σ' H',Pv xs.length σ' H'->Q (.ref p) H'):K7 (Itt K a) p g tt tk tv Q σ H:=by
 refine⟨fun i m σ H=>m=xs.length - i/\i<=xs.length/\Pv i σ H,⟨xs.length,by simp,bA _,h0⟩,?_⟩
 rintro i m σ1 H1 ⟨rfl,hi,pv⟩
 have q:=hl i σ1 H1 hi pv
 by_cases a_:i < xs.length
 .refine .inr ⟨⟨xs,xs[i],q,by simp[a_]⟩,Pv (i+1),fun σ3 H3 q=>⟨xs.length - (i+1),by omega,rfl,a_,q⟩,fun x H2 y=>?_⟩
  obtain⟨e1,e2⟩:=y
  subst e1
  exact hs i x σ1 _ (e2 xs q) pv
 .have e:i=xs.length:=by omega
  subst e
  exact .inl ⟨⟨xs,q,aB _⟩,hd σ1 H1 pv⟩
end
end L2
namespace HT
open PySem PySem.Spec PyProof.Rows L2
open PySem.SeqAt
open PySem.AutoSeq1 (wpAny_loadPart')
open PySem.MeetsSeq PySem.MeetsSeq2 PySem.MeetsSeq3
end HT
namespace L2
open PySem PySem.Spec PyProof.Rows
variable {X:Cx}{X:Cx}{pos:Pos}
def jhS(i j l:Nat)(ta:TA):TS:=fun D σ H=>ta σ H fun vs H1=>∃v w u,vs=[v,w,u]/\D.nx (((σ.set i (some v)).set j (some w)).set l (some u)) H1
theorem jet(kvs:List (Key×V))(k:Key)(v:V):(kB kvs k v).length<=kvs.length+1:=by
 unfold kB;split
 .rw[aC];omega
 .rw[aO];simp
structure QT(X:Cx)(e:aj)(t:TT):Prop where
 h:PT X e t
structure QW(X:Cx)(e:aj)(t:TT):Prop where
 h:PW X e t
structure QG(X:Cx)(e:aj)(t:TG):Prop where
 h:PG X e t
structure QGs(X:Cx)(e:List aj)(t:TGs):Prop where
 h:PGs X e t
structure QI(X:Cx)(tg e:aj)(t:TI):Prop where
 h:PI X tg e t
structure QO(X:Cx)(e:Option aj)(t:TO):Prop where
 h:PO X e t
structure QC(X:Cx)(op:CmpOp)(a b:aj)(t:TE):Prop where
 h:PC X op a b t
structure QTs(X:Cx)(e:List aj)(t:TT):Prop where
 h:PTs X e t
structure QPs(X:Cx)(pos:Pos)(ks:List (Option aj))(vs:List aj)(t:List (TE×TE)):Prop where
 h:PPs X pos ks vs t
variable {e:aj}
theorem QW.pt{X:Cx}{t:TT}(h:QW X e t):QT X e t:=⟨h.h.pt⟩
theorem jfD{X:Cx}{t:TE}(h:QE X e t)(he:∀lF,isTrue e X.env lF=(do let v <- lF;j_ e.pos;holding [v] (truthy v)):=by intro _;rfl):QT X e (tB t):=⟨by
 intro ac s σ H Q I hw;refine isTrue_plain (thn (h.h ac s σ H _ I hw) fun v s1 hM=>?_) (he _);obtain⟨x,H1,I1,r1,q1⟩:=hM;obtain⟨d,rfl,q⟩:=q1
 cases r1
 exact nT ⟨H1,I1,q⟩⟩
variable {o:aj}{to:TE}
theorem jfG{X:Cx}{pos:Pos}{i:aj}{ti:TE}{t:jhG}(ho:QE X o to)(hi:QE X i ti)(hs:jix X t)
  (ha:∀v,assign (.Subscript o i pos) X.env v=(do
   let ov <- holding [v] (eval o X.env)
   let iv <- holding [v,ov] (eval i X.env)
   j_ pos
   holding [v,ov,iv] (setItem ov iv v)
   release [v,ov,iv] []):=by intro _;rfl):QG X (.Subscript o i pos) (jiS to ti t):=⟨by
 intro ac s σ H v u Q I r h
 rw[ha]
 refine ae (dr (thn (ho.h ac s σ H _ I h) fun ov s1 hM=>?_))
 obtain⟨x,H1,I1,r1,q1⟩:=hM
 refine ae (dr (thn (hi.h ac s1 σ H1 _ I1 q1) fun iv s2 hM=>?_))
 obtain⟨y,H2,I2,r2,q2⟩:=hM
 refine ae (ft (ae (dr (thn (hs ac s2 σ H2 x y v ov iv u _ I2 r1 r2 r q2) fun _ s3 hM=>?_))))
 obtain⟨H3,I3,q3⟩:=hM
 exact wpAny_release ⟨σ,H3,I3,q3⟩⟩
variable {x:Str}
theorem zpv{X:Cx}(i:Nat){pos:Pos}(h1:X.N[i]?=some x:=by rfl)(h2:Vis (eT X.env) x:=by first | exact Or.inl rfl | exact Or.inr (Or.inl rfl) | exact Or.inr (Or.inr rfl))(h3:(x == bx "__debug__")=false:=by decide)(h4:(x == bx "__classdict__")=false:=by decide):QE X (Expr.Name x pos) (jcY i):=
 ⟨@pv _ i _ _ h1 h2 h3 h4⟩
variable {j:Nat}
theorem jl{X:Cx}{i:Int}{pos:Pos}:QE X (Expr.Constant (Const.int i) j pos) (tC (V.int i)):=
 ⟨@jeA _ _ _ _⟩
theorem jy{X:Cx}{pos:Pos}:QE X (Expr.Constant (Const.str x) j pos) (tC (V.str x)):=
 ⟨@jey _ _ _ _⟩
theorem jd1{X:Cx}{b:Bool}{pos:Pos}:QE X (Expr.Constant (Const.bool b) j pos) (tC (V.bl b)):=⟨fun _ _ _ H _ I h=>Constant_bool ⟨.bl b,H,I,rfl,h⟩⟩
theorem qk{X:Cx}{pos:Pos}:QE X (Expr.Constant Const.none j pos) (tC V.non):=⟨fun _ _ _ H _ I h=>Constant_none ⟨.non,H,I,rfl,h⟩⟩
variable {a b:aj}{ta tb:TE}{r:R2}
theorem jG{X:Cx}{pos:Pos}{op:Operator}(ho:OpR X (eM op) r)(ha:QE X a ta)(hb:QE X b tb):QE X (aj.BinOp a op b pos) (tOp r ta tb):=⟨by
 intro ac s σ H Q I h;exact wpAny_BinOp (jhA ha.h hb.h I h fun v u s2 x y H2 I2 rx ry q=>ho ac s2 σ H2 x y v u Q I2 rx ry q)⟩
theorem jb8{X:Cx}{pos:Pos}(ha:QE X a ta):QE X (Expr.UnaryOp UnaryOp.Not a pos) (jhT ta):=⟨by
 intro ac s σ H Q I h;refine UnaryOp_ (thn (ha.h ac s σ H _ I h) fun v s1 hM=>?_);obtain⟨x,H1,I1,r1,q1⟩:=hM;obtain⟨c,rfl,q1⟩:=q1
 cases r1
 exact not_of (nT ⟨.bl (!c),H1,I1,rfl,q1⟩)⟩
theorem jgR{X:Cx}{pos:Pos}{op:UnaryOp}{r:V->Hp->VK->Prop}(ho:UnR X (unaryOp op) r)(ha:QE X a ta):QE X (Expr.UnaryOp op a pos) (tUn r ta):=⟨by
 intro ac s σ H Q I h;exact UnaryOp_ (thn (ha.h ac s σ H _ I h) fun v s1 ⟨x,H1,I1,r1,q1⟩=>ho ac s1 σ H1 x v Q I1 r1 q1)⟩
variable {op:CmpOp}
theorem yM{X:Cx}{pos:Pos}(ho:OpR X (dZ op) r)(ha:QE X a ta)(hb:QE X b tb)(hm:vK op b=false):QE X (Expr.Compare a [op] [b] pos) (tOp r ta tb):=⟨by
 intro ac s σ H Q I h;exact wpAny_Compare1 (jhA ha.h hb.h I h fun v u s2 x y H2 I2 rx ry q=>ho ac s2 σ H2 x y v u Q I2 rx ry q) hm⟩
theorem ZO{X:Cx}{pos:Pos}{op:BoolOp}{t:TE}(h:QE X a t):QE X (Expr.BoolOp op [a] pos) t:=⟨fun ac s σ H Q I hw=>BoolOp_one (h.h ac s σ H Q I hw)⟩
theorem KW{X:Cx}{pos:Pos}{qV:List aj}(ha:QE X a ta)(hb:QE X (Expr.BoolOp BoolOp.And (b :: qV) pos) tb):QE X (Expr.BoolOp BoolOp.And (a :: b :: qV) pos) (jh0 ta tb):=⟨by
 intro ac s σ H Q I h;refine BoolOp_and (thn (ha.h ac s σ H _ I h) fun v s1 hM=>?_);obtain⟨x,H1,I1,r1,q1⟩:=hM;obtain⟨c,rfl,q1⟩:=q1
 cases r1
 refine nT ?_
 cases c with
 | true=>exact hb.h ac s1 σ H1 Q I1 q1
 | false=>exact⟨.bl false,H1,I1,rfl,q1⟩⟩
variable {te:TE}
theorem kC{X:Cx}{lo hi:Option aj}{tl th:TO}{pos p2:Pos}{r:V->Option Int->Option Int->Hp->VK->Prop}(hr:SlR X r)(he:QE X e te)(hl:QO X lo tl)(hu:QO X hi th):QE X (Expr.Subscript e (aj.Slice lo hi none p2) pos) (tSl r te tl th):=⟨by
 intro ac s σ H Q I h;refine IS (thn (he.h ac s σ H _ I h) fun v s1 hM=>?_);obtain⟨x,H1,I1,r1,q1⟩:=hM;refine wpAny_Slice (thn (hl.h ac s1 σ H1 _ I1 q1) fun vl s2 ⟨l,H2,I2,pl,q2⟩=>thn (hu.h ac s2 σ H2 _ I2 q2) fun vu s3 hM=>?_);obtain⟨u,H3,I3,pu,q3⟩:=hM;rw[evalPart_none];refine aq ?_;have I4:Inv X ac σ H3 { s3 with heap:=s3.heap.push { cls:=.type "slice",data:=.fields #[vl,vu,.none] } }:=I3.kept (t':=s3.toks) fun b ob q=>aQ _ q
 obtain⟨T,id,hT,ht,hg⟩:=hr ac { s3 with heap:=s3.heap.push { cls:=.type "slice",data:=.fields #[vl,vu,.none] } } σ H3 x v vl vu l u s3.heap.objs.size Q I4 r1 (au.IsSliceOf.new ..) pl pu q3;show ah (am X.prog X.w) X.A (IK e (.Slice lo hi none p2) v (.ref s3.heap.objs.size)) (EP X ac σ Q) X.xe { s3 with heap:=s3.heap.push { cls:=.type "slice",data:=.fields #[vl,vu,.none] } };exact tail_any (ops:=[.ref s3.heap.objs.size,v]) ht hT hg (by with_unfolding_all rfl)⟩
variable {td ty:TE}
theorem jd0{X:Cx}{i:aj}{pos:Pos}(hu:DF X.A+1 < cLine)(ho:QE X o td)(hi:QE X i ty)(hs:jiy i):QE X (Expr.Subscript o i pos) (jhZ td ty):=⟨by
 intro ac s σ H Q I h;refine jfR PySem.F.slot_dict_getitem.lookup hs (thn (ho.h ac s σ H _ I h) fun u s1 ⟨x,H1,I1,rx,q1⟩=>thn (hi.h ac s1 σ H1 _ I1 q1) fun iv s2 hM=>?_);obtain⟨y,H2,I2,ry,a,v,ex,g,q2⟩:=hM;subst ex;obtain rfl:u=Value.ref a:=rx;exact⟨jbi I2 g,jdO hu I2 g ry fun w' s3 I3 e_=>⟨v,H2,I3,e_,q2⟩⟩⟩
theorem jz{X:Cx}{pos:Pos}(hr:IxR X r)(ha:QE X a ta)(hb:QE X b tb)(hs:jgI b):QE X (Expr.Subscript a b pos) (tOp r ta tb):=⟨by
 intro ac s σ H Q I h;exact IS (jhA ha.h hb.h I h fun v u s2 x y H2 I2 rx ry q=>hr a b ac s2 σ H2 x y v u Q I2 rx ry q (hs _ _))⟩
variable {es:List aj}{t:TA}
theorem jK{X:Cx}{pos:Pos}(h:QA X es t):QE X (aj.List es pos) (jiB t):=⟨by
 intro ac s σ H Q I hq;refine wpAny_List_spliced (thn (h.h pos ac s σ H _ I hq) fun us s1 ⟨xs,H1,I1,r,z,q⟩=>⟨by rw[<- r.length];exact z,?_⟩);have hf:H1 s1.heap.objs.size=none:=I1.hok.fresh (aB _);refine⟨.ref s1.heap.objs.size,upd H1 s1.heap.objs.size (.lst xs),I1.laid (t':=s1.toks) (fun b u e=>aQ _ e) (aB _) ?_,rfl,q _ hf⟩;exact⟨z,us,0,r,bV _ rfl⟩⟩
variable {x1:Nat}
theorem jM{X:Cx}{pos:Pos}(h1:QA X es t):QE X (Expr.Tuple es x1 pos) (jhL t):=
 ⟨@jex _ _ _ _ _ h1.h⟩
theorem ye{X:Cx}{pos:Pos}:QE X (Expr.Dict [] [] pos) jg1:=⟨fun ac s σ H Q I h=>
 P6 ⟨.ref s.heap.objs.size,_,I.laid (a:=s.heap.objs.size) (o:=.dK []) (t':=s.toks) (fun _ _ q=>aQ _ q) (aB _) (J5 s.heap I.big),rfl,h _ (I.hok.fresh (aB _))⟩⟩
theorem jdZ{X:Cx}{pos:Pos}{iP:List (Option aj)}{oJ:List aj}{hJ:List (TE×TE)}(h:QPs X pos iP oJ hJ)(nA:(List.all iP fun x=>Sz x)=true)(hl:lC iP=lC oJ)(h0:iP≠[])(OL:lC iP<=15):QE X (Expr.Dict iP oJ pos) (jhY hJ):=⟨by
 intro ac s σ H Q I q;have hn:=I.hok.fresh (aB s.heap.objs.size);have I1:=I.laid (a:=s.heap.objs.size) (o:=.dK []) (h':=s.heap.push { cls:=.type "dict",data:=.dict #[] }) (t':=s.toks) (fun _ _ q=>aQ _ q) (aB _) (J5 s.heap I.big);refine wpAny_Dict_walk (knd:=j6 X.prog X.w) nA hl h0 OL (thn (h.h ac _ σ _ _ I1 (q _ hn)) fun ws s2 hM=>?_);obtain⟨ps,H2,I2,bG,e,kvs,ep,lk,q2⟩:=hM;subst ep;obtain⟨rs,c,rk⟩:=YN (P:=X.prog) (w:=X.w) bG;obtain⟨z,hd,vs0,r0,dd⟩:=jcF I2.hok e
 cases r0
 refine⟨rs,c,dd,fun h' dI hs=>⟨.ref s.heap.objs.size,_,?_,rfl,q2⟩⟩;have hz:(Kp [] kvs).length<=aF:=by
  have h1:=Jq kvs [];rw[mM]at h1;rw[eJ];omega
 have he:∃q,h'.get? s.heap.objs.size=some q:=let ⟨q,_,_,hq,_⟩:=dI;⟨q,hq⟩;exact J7 I2 (by rw[e];exact True.intro) hs he (jah hz hd (rk.merge .nil) dI)⟩
theorem jdU{X:Cx}{pos:Pos}:QPs X pos [] [] []:=⟨fun ac s σ H Q I h=>pairTrees_nil_walk ⟨[],H,I,.nil,h⟩⟩
variable {tv:TE}
theorem jcP{X:Cx}{pos:Pos}{k v:aj}{ks:List (Option aj)}{vs:List aj}{tk:TE}{hJ:List (TE×TE)}(hk:QE X k tk)(hv:QE X v tv)(hr:QPs X pos ks vs hJ):QPs X pos (some k :: ks) (v :: vs) ((tk,tv) :: hJ):=⟨fun ac s σ H Q I h=>
 pairTrees_cons_walk (thn (hk.h ac s σ H _ I h) fun u s1 ⟨x,H1,I1,rx,q1⟩=>thn (hv.h ac s1 σ H1 _ I1 q1) fun w2 s2 ⟨y,H2,I2,ry,q2⟩=>
  thn (hr.h ac s2 σ H2 _ I2 q2) fun ws s3 ⟨ps,H3,I3,bG,q3⟩=>⟨(x,y) :: ps,H3,I3,.cons ⟨rx,ry⟩ bG,q3⟩)⟩
variable {scope:bO}{tg iter:aj}{ifs:List aj}{wi:TI}{g:TG}{tt:TT}
theorem k9{X:Cx}{aV:aj}{pos:Pos}(own:List Str)(fr:List Nat)(h1:X.calm=true)(h2:CompOk X scope fr)(h3:QI X.nox tg iter wi)(h4:∀(s:af) (H:Hp) (ex:List aa),QG (blk X.nox scope own fr s H ex) tg g/\QTs (blk X.nox scope own fr s H ex) ifs tt/\QE (blk X.nox scope own fr s H ex) aV te)(h5:∀(x:ad),du iter X.env x=pure x:=by intro _;rfl):QE X.nox (Expr.ListComp aV [{ target:=tg,iter:=iter,ifs:=ifs,is_async:=0 }] scope pos) (Zf own fr wi g tt te):=
 ⟨@jf0 _ _ _ _ _ _ _ _ _ _ _ own fr h1 h2 h3.h (fun s H ex=>⟨(h4 s H ex).1.h,(h4 s H ex).2.1.h,(h4 s H ex).2.2.h⟩) h5⟩
theorem Y8{X:Cx}{kx vx:aj}{pos:Pos}{tk:TE}(own:List Str)(fr:List Nat)(h1:X.calm=true)(h2:CompOk X scope fr)(h3:QI X.nox tg iter wi)(h4:∀(s:af) (H:Hp) (ex:List aa),QG (blk X.nox scope own fr s H ex) tg g/\QTs (blk X.nox scope own fr s H ex) ifs tt/\QE (blk X.nox scope own fr s H ex) kx tk/\QE (blk X.nox scope own fr s H ex) vx tv)(h5:∀(x:ad),du iter X.env x=pure x:=by intro _;rfl):QE X.nox (aj.DictComp kx vx [{ target:=tg,iter:=iter,ifs:=ifs,is_async:=0 }] scope pos) (Ki own fr wi g tt tk tv):=
 ⟨@jeC _ _ _ _ _ _ _ _ _ _ _ _ _ own fr h1 h2 h3.h (fun s H ex=>⟨(h4 s H ex).1.h,(h4 s H ex).2.1.h,(h4 s H ex).2.2.1.h,(h4 s H ex).2.2.2.h⟩) h5⟩
variable {f:Str}
theorem jL{X:Cx}{pos:Pos}(h1:QE X e ta)(h2:n_ e f X.env (eval e X.env)=eval e X.env):QE X (Expr.Attribute e f pos) (jgZ X.K ta f):=
 ⟨@jeB _ _ _ _ _ h1.h h2⟩
variable {ps:List Str}{sp:Sp}{p:Pos}
theorem jdX{X:Cx}{k k':Nat}{C:aa}{pos:Pos}(h1:MkFn X.prog X.w X.K X.mg X.base k x C ps sp)(h2:Room k' X.A)(h3:QA X (e :: es) t)(h4:k+1<=k':=by decide)(h5:Gl X x:=by rfl)(h6:(x == bx "__debug__")=false:=by decide)(h7:List.all (e :: es) qf=true:=by rfl):QE X (Expr.Call (Expr.Name x p) (e :: es) [] pos) (Ze C sp [] E0 t):=
 ⟨@jgN _ _ _ _ _ _ _ _ _ _ _ _ h1 h2 h3.h h4 h5 h6 h7⟩
theorem jD{X:Cx}{k k':Nat}{pos:Pos}(h1:Fn X.prog X.w X.K X.mg X.base k x ps sp)(h2:Room k' X.A)(h3:QA X (e :: es) t)(h4:k<=k':=by decide)(h5:Gl X x:=by rfl)(h6:(x == bx "__debug__")=false:=by decide)(h7:List.all (e :: es) qf=true:=by rfl):QE X (Expr.Call (Expr.Name x p) (e :: es) [] pos) (jaA sp [] E0 t):=
 ⟨@jgO _ _ _ _ _ _ _ _ _ _ _ h1 h2 h3.h h4 h5 h6 h7⟩
variable {id:String}
theorem qa{X:Cx}{pos:Pos}{r:List V->Hp->VK->Prop}(hc:qX X (Value.builtin id) r)(hg:Gl X x)(hm:X.mg x=none)(hv:eL x=some (Value.builtin id))(ha:QA X (e :: es) t)(hp:List.all (e :: es) qf=true:=by rfl)(hn:x≠bx "__name__":=by decide)(fj:(x == bx "__debug__")=false:=by decide):QE X (Expr.Call (Expr.Name x p) (e :: es) [] pos) (tCB r t):=⟨by
 rw[g7,cm]at hp;exact jeD hc hg hm hv ha.h hn fj (qM hp.1 es X.env) (yR pos X.env es hp.2)⟩
variable {T:String}
theorem yO{X:Cx}{pos:Pos}{r:List V->Hp->VK->Prop}(hc:qX X (Value.type T) r)(hg:Gl X x)(hm:X.mg x=none)(hv:eL x=some (Value.type T))(ha:QA X (e :: es) t)(hp:List.all (e :: es) qf=true:=by rfl)(hn:x≠bx "__name__":=by decide)(fj:(x == bx "__debug__")=false:=by decide):QE X (Expr.Call (Expr.Name x p) (e :: es) [] pos) (tCB r t):=⟨by
 rw[g7,cm]at hp;exact jc8 hc hg hm hv ha.h hn fj (qM hp.1 es X.env) (yR pos X.env es hp.2)⟩
variable {fJ cC:Pos}
theorem Kf{X:Cx}{f:aj}{tx:TE}(hu:DF X.A+1 < cLine)(ho:QE X o td)(he:QE X e ty)(hf:QE X f tx)(m:M2 X o (bx "get") fJ e f cC):QE X (Expr.Call (Expr.Attribute o (bx "get") fJ) [e,f] [] cC) (jg2 td ty tx):=⟨by
 intro ac s σ H Q I h;refine wpAny_Call_method m.base m.few m.line Ip Io PySem.F.type_dict_get (thn (ho.h ac s σ H _ I h) fun u s1 hM=>?_);obtain⟨x,H1,I1,rx,a,ex,d,q1⟩:=hM;subst ex;obtain rfl:u=Value.ref a:=rx;obtain⟨t1,t2,_⟩:=jhs I1 d;refine⟨t1,t2,?_⟩;rw[m.trees];refine Iy rfl (Ix (Iw (thn (he.h ac s1 σ H1 _ I1 q1) fun iv s2 ⟨y,H2,I2,ry,q2⟩=>
  Iw (thn (hf.h ac s2 σ H2 _ I2 q2) fun fv s3 ⟨z,H3,I3,rz,ov,g,q3⟩=>RU ?_))))
 exact jhy hu I3 g ry rz fun w' s4 I4 e_=>⟨_,H3,I4,e_,q3⟩⟩
theorem ql{X:Cx}{name:Str}{r:V->List V->Hp->VK->Prop}(pa:PlainAttrs T)(slot:Slot T name id)(pE:typeOf (Value.builtin id)=pure (Value.type "method_descriptor"))(hm:MtR X id r)(ho:QE X o to)(ha:QA X (e :: es) t)(nv:n_ o name X.env (eval o X.env)=eval o X.env:=by rfl)(pS:(((List.all (fM cC (bT (e :: es) X.env)) fun x=>!Prod.fst x) && List.all (backToKw cC (keywordEach [] X.env)) fun x=>Sz (Prod.fst x)) && decide ((lC (e :: es)+lC ([]:List Ry)+if List.isEmpty ([]:List Ry)=true then 0 else 1) < 30))=true:=by rfl)(AO:(Pos.endLine fJ == lz cC)=true:=by rfl)(hs:bT (e :: es) X.env=(false,eval e X.env) :: bT es X.env:=by rfl)(Nl:(List.any (fM cC (bT es X.env)) fun x=>Prod.fst x)=false:=by rfl):QE X (Expr.Call (Expr.Attribute o name fJ) (e :: es) [] cC) (tBM X.K T r to t):=⟨by
 intro ac s σ H Q I h;refine wpAny_Call_method_late nv pS AO rfl (thn (ho.h ac s σ H _ I h) fun v s1 hM=>?_);obtain⟨x,H1,I1,r1,ty,q1⟩:=hM;obtain⟨h1,h2⟩:=jea I1 r1 ty;refine⟨T,id,pa,slot,pE,h1,h2,?_⟩;have hA:=ha.h cC ac s1 σ H1 _ I1 q1;rw[hs]at hA |-;refine Iy (by show (false || (fM cC (bT es X.env)).any (·.1))=false;rw[Nl] <;> rfl) (Ix ?_);exact thn hA fun us s2 ⟨vs,H2,I2,r2,q2⟩=>hm ac s2 σ H2 x vs v us Q I2 r1 r2 q2⟩
theorem ZP{X:Cx}{name:Str}{r:V->List V->Hp->VK->Prop}(pa:PlainAttrs T)(slot:Slot T name id)(pE:typeOf (Value.builtin id)=pure (Value.type "method_descriptor"))(hm:MtR X id r)(ho:QE X o to)(nv:n_ o name X.env (eval o X.env)=eval o X.env:=by rfl)(AO:(Pos.endLine fJ == lz cC)=true:=by rfl):QE X (Expr.Call (Expr.Attribute o name fJ) [] [] cC) (jiG X.K T r to):=⟨by
 intro ac s σ H Q I h;refine wpAny_Call_method0_late nv AO (thn (ho.h ac s σ H _ I h) fun v s1 hM=>?_);obtain⟨x,H1,I1,r1,ty,q1⟩:=hM;obtain⟨h1,h2⟩:=jea I1 r1 ty;exact⟨T,id,pa,slot,pE,h1,h2,Iy rfl (PySem.evalArgs_none (hm ac s1 σ H1 x [] v [] Q I1 r1 .nil q1))⟩⟩
variable {tA:TT}
theorem jb7{X:Cx}{pos:Pos}(ha:QT X a tA):QT X (Expr.UnaryOp UnaryOp.Not a pos) (jiA tA):=⟨by
 intro ac s σ H Q I h;exact isTrue_not (ha.h ac s σ H (fun c H1=>Q (!c) H1) I h)⟩
theorem jw{X:Cx}{pos:Pos}(ho:OpR X (dZ op) r)(ha:QE X a ta)(hb:QE X b tb)(hm:vK op b=false):QT X (Expr.Compare a [op] [b] pos) (jhO (tOp r ta tb)):=⟨by
 intro ac s σ H Q I h;refine PV (thn (ha.h ac s σ H _ I h) fun v s1 ⟨x,H1,I1,r1,q1⟩=>thn (hb.h ac s1 σ H1 _ I1 q1) fun u s2 ⟨y,H2,I2,r2,q2⟩=>
  thn (ho ac s2 σ H2 x y v u _ I2 r1 r2 q2) fun c s3 ⟨z,H3,I3,r3,k,e,q3⟩=>?_) hm
 subst e
 cases r3
 exact nT ⟨H3,I3,q3⟩⟩
theorem jfE{X:Cx}{pos:Pos}{t:TE}(h:QC X op a b t)(h1:vK op b=false:=by rfl):QT X (Expr.Compare a [op] [b] pos) (tB t):=⟨by
 intro ac s σ H Q I hw;refine PV (thn (h.h ac s σ H _ I hw) fun v s1 h1=>thn h1 fun u s2 h2=>thn h2 fun c s3 hM=>?_) h1;obtain⟨x,H1,I1,r1,q1⟩:=hM;obtain⟨d,rfl,q⟩:=q1
 cases r1
 exact nT ⟨H1,I1,q⟩⟩
theorem ZN{X:Cx}{pos:Pos}{mU:TT}{qV:List aj}(ha:QT X a tA)(hb:QW X (Expr.BoolOp BoolOp.And (b :: qV) pos) mU):QW X (Expr.BoolOp BoolOp.And (a :: b :: qV) pos) (jiI tA mU):=⟨by
 intro wh ac s σ H Q I h;refine isTrue_and (thn (ha.h ac s σ H _ I h) fun c s1 hM=>?_);obtain⟨H1,I1,q1⟩:=hM
 cases c with
 | true=>exact hb.h wh ac s1 σ H1 Q I1 q1
 | false=>exact⟨H1,I1,q1⟩⟩
theorem K8{X:Cx}{pos:Pos}(ha:QT X a tA):QW X (Expr.BoolOp BoolOp.And [a] pos) tA:=⟨by
 intro wh ac s σ H Q I h;refine isTrue_and (thn (ha.h ac s σ H Q I h) fun c s1 e=>?_)
 cases c with
 | true=>exact isTrue_and_nil e
 | false=>exact e⟩
theorem jbq{X:Cx}{pos:Pos}{mU:TT}{qV:List aj}(ha:QT X a tA)(hb:QW X (Expr.BoolOp BoolOp.Or (b :: qV) pos) mU):QW X (Expr.BoolOp BoolOp.Or (a :: b :: qV) pos) (tOr tA mU):=⟨by
 intro wh ac s σ H Q I h;refine isTrue_or (thn (ha.h ac s σ H _ I h) fun c s1 hM=>?_);obtain⟨H1,I1,q1⟩:=hM
 cases c with
 | true=>exact⟨H1,I1,q1⟩
 | false=>exact hb.h wh ac s1 σ H1 Q I1 q1⟩
theorem ZM{X:Cx}{pos:Pos}(ha:QT X a tA):QW X (Expr.BoolOp BoolOp.Or [a] pos) tA:=⟨by
 intro wh ac s σ H Q I h;refine isTrue_or (thn (ha.h ac s σ H Q I h) fun c s1 e=>?_)
 cases c with
 | false=>exact isTrue_or_nil e
 | true=>exact e⟩
theorem qp{X:Cx}:QO X none jfO:=⟨by
 intro ac s σ H Q I h;rw[evalPart_none];exact aq ⟨none,H,I,.none,h⟩⟩
theorem kF{X:Cx}(h:QE X e te):QO X (some e) (jhR te):=⟨by
 intro ac s σ H Q I hw;rw[evalPart_some];refine thn (h.h ac s σ H _ I hw) fun u s1 hM=>?_
 obtain⟨x,H1,I1,r1,q1⟩:=hM;obtain⟨i,rfl,q⟩:=q1;obtain⟨t,rfl⟩:=r1;exact⟨some i,H1,I1,.int i t,q⟩⟩
theorem jbs{X:Cx}{i:aj}(hu:DF X.A+1 < cLine)(hi:QE X i ty)(ho:QE X o td):QC X CmpOp.NotIn i o (jfQ ty td):=⟨by
 intro ac s σ H Q I h;refine thn (hi.h ac s σ H _ I h) fun iv s1 ⟨y,H1,I1,ry,q1⟩=>thn (ho.h ac s1 σ H1 _ I1 q1) fun u s2 hM=>?_
 obtain⟨x,H2,I2,rx,a,ov,ex,g,q2⟩:=hM;subst ex;obtain rfl:u=Value.ref a:=rx;exact jgD hu I2 g ry fun s3 I3=>⟨.bl (!ov.isSome),H2,I3,rfl,q2⟩⟩
theorem yo{X:Cx}{ta:TA}{pos:Pos}(hg:Gl X (bx "range"))(hm:X.mg (bx "range")=none)(ha:QA X [a] ta)(hs:bT [a] X.env=[(false,eval a X.env)]:=by rfl):QI X tg (Expr.Call (Expr.Name (bx "range") p) [a] [] pos) (jin ta):=⟨by
 intro ac s σ H R I h;refine Call_ (Yx I hg hm boot_range (DI (thn (ha.h pos ac s σ H _ I h) fun us s1 hM=>?_) hs rfl));obtain⟨vs,H1,I1,r1,q1⟩:=hM;obtain⟨j,e,q1,q2,q⟩:=q1;subst e
 cases r1 with
 | cons r rr=>
  cases rr
  obtain⟨t,rfl⟩:=r;exact call_range_1 (jep I1 (by omega) (by omega) q1 q2 (by simpa using q))⟩
variable {tl:TE}
theorem jR{X:Cx}{l:aj}(hl:QE X l tl):QI X tg l (ja4 X.K tl):=⟨by
 intro ac s σ H R I h;refine thn (hl.h ac s σ H _ I h) fun v s1 hM=>?_
 obtain⟨x,H1,I1,r1,q1⟩:=hM;obtain⟨a,e,⟨xs,hq⟩,q⟩:=q1;subst e
 cases r1
 obtain⟨its,rv,p,hz⟩:=I1.list hq;refine PM p.isList ?_;refine⟨s1.heap.objs.size,[s1.heap.objs.size],_,_,H1,rfl,I1.kept (t':=s1.toks) fun b o e=>aQ _ e,jcV a _,⟨_,bV _ rfl,rfl,rfl⟩,fun b hb=>?_,q⟩;have e:b=s1.heap.objs.size:=by simpa using hb
 subst e;exact I1.fpOk (aB _) (I1.hok.fresh (aB _))⟩
theorem zJ{X:Cx}{l:aj}(hl:QE X l tl):QI X tg l (jiQ X.K tl):=⟨by
 intro ac s σ H R I h;refine thn (hl.h ac s σ H _ I h) fun v s1 hM=>?_
 obtain⟨x,H1,I1,r1,q1⟩:=hM;obtain⟨a,e,⟨xs,hq⟩,q⟩:=q1;subst e
 cases r1
 obtain⟨its,rv,p,hz⟩:=I1.tuple hq;refine vC (show s1.heap.IsTuple a its.toArray from p) ?_;refine⟨s1.heap.objs.size,[s1.heap.objs.size],_,_,H1,rfl,I1.kept (t':=s1.toks) fun b o e=>aQ _ e,jbt a _,⟨_,bV _ rfl,rfl,rfl⟩,fun b hb=>?_,q⟩;have e:b=s1.heap.objs.size:=by simpa using hb
 subst e;exact I1.fpOk (aB _) (I1.hok.fresh (aB _))⟩
theorem zD{X:Cx}{iq:List aj}{tp:Pos}{ta:TA}{pos:Pos}(hg:Gl X (bx "enumerate"))(hm:X.mg (bx "enumerate")=none)(ha:QA X [a] ta)(hs:bT [a] X.env=[(false,eval a X.env)]:=by rfl):QI X (Expr.Tuple iq x1 tp) (Expr.Call (Expr.Name (bx "enumerate") p) [a] [] pos) (jio X.K ta):=⟨by
 intro ac s σ H R I h;refine Call_ (Yx I hg hm Ka (DI (thn (ha.h pos ac s σ H _ I h) fun us s1 hM=>?_) hs rfl));obtain⟨vs,H1,I1,r1,q1⟩:=hM;obtain⟨l,e,⟨xs,hq⟩,q⟩:=q1;subst e;obtain⟨u,rfl,rx⟩:=yP r1
 cases rx
 obtain⟨its,rv,pl,hz⟩:=I1.list hq;refine call_enumerate_list pl.isList fun h' g1 g2 g3 g4=>?_
 refine C8 (s:={ s1 with heap:=h' }) g1 ?_;have I2:Inv X ac σ H1 { s1 with heap:=h' }:=I1.kept (t':=s1.toks) g4;refine⟨s1.heap.objs.size+1,[s1.heap.objs.size+1,s1.heap.objs.size],_,_,_,rfl,I2,jcW l _ _ (SE _),⟨⟨_,g1⟩,g2⟩,fun b hb=>?_,q⟩;rcases aN.mp hb with rfl | hb
 .exact I1.fpOk (ox _) (I1.hok.fresh (ox _))
 .rw[bf.mp hb]
  exact I1.fpOk (aB _) (I1.hok.fresh (aB _))⟩
theorem Ke{X:Cx}{iq:List aj}{tp:Pos}{ta:TA}{pos:Pos}(hg:Gl X (bx "enumerate"))(hm:X.mg (bx "enumerate")=none)(ha:QA X [a] ta)(hs:bT [a] X.env=[(false,eval a X.env)]:=by rfl):QI X (Expr.Tuple iq x1 tp) (Expr.Call (Expr.Name (bx "enumerate") p) [a] [] pos) (jhu X.K ta):=⟨by
 intro ac s σ H R I h;refine Call_ (Yx I hg hm Ka (DI (thn (ha.h pos ac s σ H _ I h) fun us s1 hM=>?_) hs rfl));obtain⟨vs,H1,I1,r1,q1⟩:=hM;obtain⟨l,e,⟨xs,hq⟩,q⟩:=q1;subst e;obtain⟨u,rfl,rx⟩:=yP r1
 cases rx
 obtain⟨its,rv,pl,hz⟩:=I1.tuple hq;refine jb4 (show s1.heap.IsTuple l its.toArray from pl) fun h' g1 g2 g3 g4=>?_
 refine C8 (s:={ s1 with heap:=h' }) g1 ?_;have I2:Inv X ac σ H1 { s1 with heap:=h' }:=I1.kept (t':=s1.toks) g4;refine⟨s1.heap.objs.size+1,[s1.heap.objs.size+1,s1.heap.objs.size],_,_,_,rfl,I2,jbv l _ _ (SE _),⟨⟨_,g1⟩,g2⟩,fun b hb=>?_,q⟩;rcases aN.mp hb with rfl | hb
 .exact I1.fpOk (ox _) (I1.hok.fresh (ox _))
 .rw[bf.mp hb]
  exact I1.fpOk (aB _) (I1.hok.fresh (aB _))⟩
theorem jdV{X:Cx}{l:aj}(hl:QE X l tl):QI X tg l (jip tl):=⟨by
 intro ac s σ H R I h;refine thn (hl.h ac s σ H _ I h) fun v s1 hM=>?_
 obtain⟨x,H1,I1,r1,q1⟩:=hM;obtain⟨a,kvs,e,hq,q⟩:=q1;subst e
 cases r1
 have ok:=I1.hok a _ hq;obtain⟨z1,z2,vs,rv,o,es,ep,e1,c1,c2,c3⟩:=id ok;have da:s1.heap.DictAt (j6 X.prog X.w) a vs ep:=⟨o,es,e1,c1,c2,c3⟩
 have I2:Inv X ac σ (upd H1 a (.frz o (.dK kvs))) s1:=I1.relabel hq (fun _ z=>by cases z) (fun _ z=>by cases z) (fun o' z' e'=>by
  have:=I1.base.frzs a o' z' e';rw[hq]at this
  cases this) (fun _ z=>by cases z) ⟨e1,ok.stay (fun _ _ _ q=>q) (fun c q=>by rw[jp (KI q hq (by intro z;cases z))];exact q) fun c xs q=>by rw[jp (KI q hq (by intro z;cases z))];exact q⟩
 refine wpAny_pyIter_dict z2 da ?_;have hlen:kvs.length=vs.length:=rv.length;refine⟨s1.heap.objs.size,[s1.heap.objs.size],_,_,_,rfl,I2.kept (t':=s1.toks) fun b o e=>aQ _ e,jcX a _ c2,⟨_,bV _ rfl,rfl,by rw[<- hlen];rfl⟩,fun b hb=>?_,q o⟩;have e:b=s1.heap.objs.size:=by simpa using hb
 subst e;exact I2.fpOk (aB _) (I2.hok.fresh (aB _))⟩
variable {i:Nat}{fV:Pos}
theorem jt{X:Cx}{pos:Pos}(hN:bg X.N)(hi:X.N[i]?=some x)(hx:L2.Loc (eT X.env) x)(he:QE X e te)(hs:iB e (some (Expr.Name x fV)) (lz pos) X.env=pure false:=by rfl)(hf:X.fn x=true\/eW x (om (eT X.env))=some NameKind.local:=by first | exact .inl rfl | exact .inr rfl | assumption):QS X (Stmt.Assign [Expr.Name x fV] e pos) (jby te (kO i)):=⟨by
 intro ac s σ H D I h;refine P7 (thn (he.h ac s σ H _ I h) fun v s1 hM=>?_) hs;obtain⟨y,H1,I1,r1,q1⟩:=hM;exact qr I1 hN hi hx r1 (fun s2 I2=>⟨_,H1,I2,q1⟩) hf⟩
theorem kZ{X:Cx}{aV:aj}{pos:Pos}{y:Str}{py fR:Pos}(h1:bg X.N)(h2:X.N[i]?=some y)(h3:L2.Loc (eT X.env) y)(own:List Str)(fr:List Nat)(h4:X.calm=true)(h5:CompOk X scope fr)(h6:QI X.nox tg iter wi)(h7:∀(s:af) (H:Hp) (ex:List aa),QG (blk X.nox scope own fr s H ex) tg g/\QTs (blk X.nox scope own fr s H ex) ifs tt/\QE (blk X.nox scope own fr s H ex) aV te)(h8:∀(x:ad),du iter X.env x=pure x:=by intro _;rfl)(h9:iB (Expr.ListComp aV [{ target:=tg,iter:=iter,ifs:=ifs,is_async:=0 }] scope pos) (some (Expr.Name y py)) (lz fR) X.env=pure true:=by rfl)(p_:X.fn y=true\/eW y (om (eT X.env))=some NameKind.local:=by first | exact .inl rfl | exact .inr rfl | assumption):QS X.nox (Stmt.Assign [Expr.Name y py] (Expr.ListComp aV [{ target:=tg,iter:=iter,ifs:=ifs,is_async:=0 }] scope pos) fR) (jby (Zf own fr wi g tt te) (kO i)):=
 ⟨@jbC _ _ _ _ _ _ _ _ _ _ _ _ _ _ _ h1 h2 h3 own fr h4 h5 h6.h (fun s H ex=>⟨(h7 s H ex).1.h,(h7 s H ex).2.1.h,(h7 s H ex).2.2.h⟩) h8 h9 p_⟩
theorem JC{X:Cx}{i value:aj}{pos:Pos}(hu:DF X.A+1 < cLine)(ho:QE X o td)(hi:QE X i ty)(hv:QE X value tv)(hs:iB value (some (Expr.Subscript o i fV)) (lz pos) X.env=pure false):QS X (Stmt.Assign [Expr.Subscript o i fV] value pos) (jh4 td ty tv):=⟨by
 intro ac s σ H D I h;refine wpAny_Assign_Subscript (thn (hv.h ac s σ H _ I h) fun r s1 ⟨v,H1,I1,rv,q1⟩=>thn (ho.h ac s1 σ H1 _ I1 q1) fun u s2 ⟨x,H2,I2,rx,q2⟩=>thn (hi.h ac s2 σ H2 _ I2 q2) fun iv s3 hM=>?_) hs;obtain⟨y,H3,I3,ry,a,H4,ex,g,q3⟩:=hM;subst ex;obtain rfl:u=Value.ref a:=rx;exact jdN hu I3 g ry rv fun s4 I4=>⟨σ,H4,I4,q3⟩⟩
theorem kb{X:Cx}{value:aj}{pos:Pos}(ha:QE X o ta)(hv:QE X value tv)(hs:iB value (some (Expr.Attribute o f fV)) (lz pos) X.env=pure false):QS X (Stmt.Assign [Expr.Attribute o f fV] value pos) (jiK X.K ta tv f):=⟨by
 intro ac s σ H D I h;refine plainObj_wpAny_Assign_Attribute (thn (hv.h ac s σ H _ I h) fun u s1 ⟨y,H1,I1,ry,q⟩=>thn (ha.h ac s1 σ H1 _ I1 q) fun ov s2 hM=>?_) hs;obtain⟨x,H2,I2,rx,a,C,dx,fs,ex,ea,c,n,l,q2⟩:=hM;subst ex;obtain rfl:ov=Value.ref a:=rx;exact jbB I2 ea c n l ry fun s3 I3=>⟨σ,_,I3,q2⟩⟩
theorem kX{X:Cx}{pos:Pos}(he:QE X e te)(hg:QG X tg g)(hs:swapsWithSole [tg] e (lz pos) X.env=pure false:=by rfl)(hw:swappedStores [tg] e X.env=pure none:=by rfl)(h1:g6 (fun x=>Prod.snd x) (iD [tg] X.env)=[assign tg X.env]:=by rfl):QS X (Stmt.Assign [tg] e pos) (jby te g):=⟨by
 intro ac s σ H D I h;refine wpAny_Assign_stores (thn (he.h ac s σ H _ I h) fun v s1 hM=>?_) hs hw;obtain⟨x,H1,I1,r1,q1⟩:=hM;rw[h1];exact thn (hg.h ac s1 σ H1 x v _ I1 r1 q1) fun _ s2 q=>q⟩
theorem jr{X:Cx}{pos:Pos}(he:QE X e te):QS X (aA.Return (some e) pos) (jhQ te):=⟨by
 intro ac s σ H D I h;exact wpAny_Return_some (thn (he.h ac s σ H _ I h) fun v s1 ⟨x,H1,I1,r1,q1⟩=>⟨x,σ,H1,I1,r1,q1⟩)⟩
variable {c:aj}
theorem jQ{X:Cx}{t u:TS}{pos:Pos}{a b:List aA}{tc:TT}(hc:QT X c tc)(ha:QSs X a t)(hb:QSs X b u):QS X (aA.If c a b pos) (jiC tc t u):=⟨by
 intro ac s σ H D I h;refine wpAny_If (thn (hc.h ac s σ H _ I h) fun d s1 hM=>?_);obtain⟨H1,I1,q1⟩:=hM
 cases d with
 | true=>exact ha.h ac s1 σ H1 D I1 q1
 | false=>exact hb.h ac s1 σ H1 D I1 q1⟩
theorem jW{X:Cx}{body:List aA}{tb:TS}{pos:Pos}(hp:Ds (am X.prog X.w) X.A X.env X.xe)(hc:X.calm=true)(hi:QI X tg iter wi)(hg:QG X tg g)(hb:QSs X body tb)(hs:∀(x:ad),du iter X.env x=pure x:=by intro _;rfl):QS X (aA.For tg iter body [] pos) (jiE wi g tb):=⟨by
 have hb:=hb.h;have hg:=hg.h;have hi:=hi.h;intro ac s σ H D I h;refine wpAny_For (thn (hi ac s σ H _ I h) fun v s1 h1=>thn h1 fun m8 s2 h2=>?_) hs;obtain⟨it,fp,tn,J,H2,e,I2,T,eZ,f2,W,⟨m0,w0⟩,cY⟩:=h2;subst e;have cZ:∀{H':Hp},(∀b∈fp,H' b=none)->∀b∈fp,yK X ac H' b:=fun hn b hb=>⟨hn b hb,(f2 b hb).2⟩
 refine codeAny_forLoop_any (fun n s'=>∃i σ' H',Inv X ac σ' H' s'/\tn i s'.heap/\(∀b∈fp,H' b=none)/\W i n σ' H') ?_ m0 ⟨0,σ,H2,I2,eZ,fun b hb=>(f2 b hb).1,w0⟩;rintro n s3 ⟨i,σ3,H3,I3,eY,Gm,w3⟩;rcases cY i n σ3 H3 w3 with⟨stop,qn⟩ | ⟨go,N,hN,step⟩
 .refine nU hp (thn (T.done X rfl rfl rfl hc i ac s3 σ3 H3 X.xe I3 (cZ Gm) eY stop) fun r s4 ⟨hr,I4⟩=>?_)
  subst hr;exact rG ⟨σ3,H3,I4,qn⟩
 .refine nU hp (thn (T.item X rfl rfl rfl hc i ac s3 σ3 H3 X.xe I3 (cZ Gm) eY go) fun r s4 ⟨u,hr,h4⟩=>?_)
  subst hr;refine nU hp (thn h4 fun _ s5 hM=>?_);obtain⟨x,H5,I5,r5,y5,wH,OQ⟩:=hM;have Pp:=I5.pinned (cZ OQ) (T.obj _ _ wH);refine nU hp (thn (hg _ s5 σ3 H5 x u _ Pp r5 (step x H5 y5)) fun _ s6 hM=>?_);obtain⟨σ6,H6,I6,q6⟩:=hM;refine nU hp (thn (hb _ s6 σ6 H6 _ I6 q6) fun f s7 q7=>?_);have again:∀{σ7:St} {H7:Hp},Inv X (ac++zq fp s5.heap) σ7 H7 s7->N σ7 H7->∃m,m < n/\∃i σ' H',Inv X ac σ' H' s7/\tn i s7.heap/\(∀b∈fp,H' b=none)/\W i m σ' H':=fun {σ7 H7} I7 n7=>by
   obtain⟨m',hm,w7⟩:=hN σ7 H7 n7;refine⟨m',hm,i+1,σ7,H7,I7.unpinned,T.keep _ _ _ wH fun b hb o e=>(I7.pin (b,o) (b4 _ (b4 _ (kj hb e)))).1,fun b hb=>?_,w7⟩;obtain⟨o,e,d⟩:=T.obj _ _ wH b hb;exact (I7.pin (b,o) (b4 _ (b4 _ (kj hb e)))).2.1
  cases f with
  | next=>obtain⟨σ7,H7,I7,n7⟩:=q7;exact again I7 n7
  | cont=>obtain⟨σ7,H7,I7,n7⟩:=q7;exact again I7 n7
  | brk=>obtain⟨σ7,H7,I7,q7⟩:=q7;exact⟨σ7,H7,I7.unpinned,q7⟩
  | ret v=>obtain⟨x7,σ7,H7,I7,r7,q7⟩:=q7;exact⟨x7,σ7,H7,I7.unpinned,r7,q7⟩⟩
variable {st:aA}
theorem jar{X:Cx}{t:TS}(h:QS X st t):QS X st (jhN (Cx.H₀ X) t):=⟨by
 intro ac s σ H D I q;refine thn (h.h ac s σ H _ I q) fun f s1 q1=>?_
 cases f with
 | next=>
  obtain⟨σ',H',I',a,o,kvs,e,hn,q'⟩:=q1;have ok:=I'.hok a _ e;exact⟨σ',_,I'.relabel e (fun _ z=>by cases z) (fun _ z=>by cases z) hn (fun _ z=>by cases z) (ok.2.stay (fun _ _ _ q=>q) (fun c q=>by rw[jp (KI q e (by intro z;cases z))];exact q) fun c xs q=>by rw[jp (KI q e (by intro z;cases z))];exact q),q'⟩
 | cont=>exact q1
 | brk=>exact q1
 | ret v=>exact q1⟩
theorem jfF{X:Cx}{pos:Pos}{op:Operator}{ti:TIp}(hN:bg X.N)(hi:X.N[i]?=some x)(hx:L2.Loc (eT X.env) x)(he:QE X e te)(ho:PIp X op ti)(hf:X.fn x=true\/eW x (om (eT X.env))=some NameKind.local:=by first | exact .inl rfl | exact .inr rfl | assumption):QS X (aA.AugAssign (Expr.Name x fV) op e pos) (jiH i te ti):=⟨by
 intro ac s σ H D I h;obtain⟨v,e1,h⟩:=h;obtain⟨m,hn,hl⟩:=I.loc;have LB:Vis X.env.scope x:=by rcases hx with k | k;exact .inl k;exact .inr (.inl k)
 obtain⟨u,r,l⟩:=hl i x v hi e1 LB;refine wpAny_AugAssign_Name ?_;have go:ah (am X.prog X.w) X.A (eval e X.env) (fun w s₂=>ah (am X.prog X.w) X.A (inplaceOp op u w) (fun r s₃=>ah (am X.prog X.w) X.A (Hb X.env x r) (fun _=>SP X ac D .next) X.xe s₃) X.xe s₂) X.xe s:=by
  refine thn (he.h ac s σ H _ I h) fun w s1 hM=>?_
  obtain⟨y,H1,I1,r1,q1⟩:=hM;refine thn (ho ac s1 σ H1 v y u w _ I1 r r1 q1) fun z s2 hM=>?_
  obtain⟨zv,H2,I2,r2,q2⟩:=hM;exact qr I2 hN hi hx r2 (fun s3 I3=>⟨_,H2,I3,q2⟩) hf
 rcases l with⟨hk,hm⟩ | ⟨hk,c,hc,tX⟩
 .exact PQ I.ok.kind hk hn hm go
 .rcases hk with hk | hk
  .exact PR I.ok.kind hk hc tX go
  .rcases hx with k | k
   .have:X.env.scope.names.lookup x=some .free:=hk
    rw[k]at this;cases this
   .have:X.env.scope.names.lookup x=some .free:=hk
    rw[k]at this;cases this⟩
theorem jcO{X:Cx}{pos:Pos}{body:List aA}{tc:TT}{tb:TS}(hp:Ds (am X.prog X.w) X.A X.env X.xe)(hc:QT X c tc)(hb:QSs X body tb):QS X (aA.While c body [] pos) (jec tc tb):=⟨by
 intro ac s σ H D I h;obtain⟨W,⟨m0,w0⟩,cY⟩:=h;refine wpAny_While (codeAny_whileLoop (fun n s'=>∃σ' H',Inv X ac σ' H' s'/\W n σ' H') ?_ m0 ⟨σ,H,I,w0⟩);rintro n s1 ⟨σ1,H1,I1,w1⟩;refine nU hp (thn (hc.h ac s1 σ1 H1 _ I1 (cY n σ1 H1 w1)) fun b s2 hM=>?_);obtain⟨H2,I2,q2⟩:=hM
 cases b with
 | true=>
  obtain⟨N,hN,q2⟩:=q2;rw[Tu rfl];refine nU hp (thn (hb.h ac s2 σ1 H2 _ I2 q2) fun f s3 q3=>?_)
  cases f with
  | next=>
   obtain⟨σ3,H3,I3,n3⟩:=q3;obtain⟨m',hm,w3⟩:=hN σ3 H3 n3;exact⟨m',hm,σ3,H3,I3,w3⟩
  | cont=>
   obtain⟨σ3,H3,I3,n3⟩:=q3;obtain⟨m',hm,w3⟩:=hN σ3 H3 n3;exact⟨m',hm,σ3,H3,I3,w3⟩
  | brk=>exact q3
  | ret v=>exact q3
 | false=>
  rw[Tt bF];exact rG ⟨σ1,H2,I2,q2⟩⟩
theorem j7{X:Cx}{pos:Pos}(he:QE X e te)(hs:iB e none (lz pos) X.env=pure false:=by rfl):QS X (aA.Expr e pos) (jgK te):=⟨by
 intro ac s σ H D I h;exact wpAny_Expr_any (thn (he.h ac s σ H _ I h) fun v s1 ⟨x,H1,I1,r1,q1⟩=>⟨σ,H1,I1,q1⟩) I.quiet hs⟩
theorem jj{X:Cx}{pos:Pos}(hN:bg X.N)(hi:X.N[i]?=some x)(hx:L2.Loc (eT X.env) x)(hf:X.fn x=true\/eW x (om (eT X.env))=some NameKind.local:=by first | exact .inl rfl | exact .inr rfl | assumption):QG X (Expr.Name x pos) (kO i):=⟨by
 intro ac s σ H v u Q I r h;exact GY (qr I hN hi hx r (fun s' I'=>⟨_,H,I',h⟩) hf)⟩
theorem jX{X:Cx}{pos:Pos}{k:Nat}{t:TGs}{n:Nat}(h1:X.calm=true)(h2:QGs X es t)(h3:lC (iD es X.env)=n:=by rfl)(h4:wg (fun x=>Prod.fst x) (iD es X.env)=none:=by rfl):QG X (Expr.Tuple es k pos) (jhw X.K n t):=
 ⟨@jev _ _ _ _ _ _ h1 h2.h h3 h4⟩
theorem jJ{X:Cx}:QGs X [] jiT:=⟨by
 intro ac s σ H vs us Q I r h;obtain⟨e,h⟩:=h;subst e
 cases r
 exact Sr ⟨σ,H,I,h⟩⟩
theorem jm{X:Cx}{t:TG}{u:TGs}(h1:QG X e t)(h2:QGs X es u)(hs:g6 (fun x=>Prod.snd x) (iD (e :: es) X.env)=assign e X.env :: g6 (fun x=>Prod.snd x) (iD es X.env):=by rfl):QGs X (e :: es) (jir t u):=⟨by
 intro ac s σ H vs us Q I r h;obtain⟨v,vr,e1,h⟩:=h;subst e1
 cases r with
 | cons r rr=>
  rw[hs];refine DJ (thn (h1.h ac s σ H _ _ _ I r h) fun _ s1 hM=>?_);obtain⟨σ1,H1,I1,q1⟩:=hM;exact h2.h ac s1 σ1 H1 _ _ Q I1 rr q1⟩
theorem jC{X:Cx}:QSs X [] jhU:=⟨fun _ _ σ H _ I h=>rG ⟨σ,H,I,h⟩⟩
theorem jf{X:Cx}{t:TS}(h1:QS X st t):QSs X [st] t:=⟨by
 intro ac s σ H D I h;refine GW (thn (h1.h ac s σ H D I h) fun f s1 q=>?_)
 cases f with
 | next=>exact rG q
 | ret v=>exact q
 | brk=>exact q
 | cont=>exact q⟩
theorem ja{X:Cx}{qV:List aA}{t u:TS}(h1:QS X st t)(h2:QSs X qV u):QSs X (st :: qV) (jO t u):=⟨by
 intro ac s σ H D I h;refine GW (thn (h1.h ac s σ H { D with nx:=u D } I h) fun f s1 q=>?_)
 cases f with
 | next=>
  obtain⟨σ',H',I',q⟩:=q;exact h2.h ac s1 σ' H' D I' q
 | ret v=>exact q
 | brk=>exact q
 | cont=>exact q⟩
theorem kf{X:Cx}:QTs X [] Jo:=⟨fun _ _ _ H _ I h=>wpAny_tests_nil ⟨H,I,h⟩⟩
theorem zC{X:Cx}{t:TT}(h:QT X c t):QTs X [c] t:=⟨fun ac s σ H Q I q=>wpAny_tests_one (h.h ac s σ H Q I q)⟩
theorem jc{X:Cx}:QA X [] jbx:=
 ⟨@jeG _⟩
theorem jd{X:Cx}(h1:QE X e te)(h2:QA X es t)(h3:qf e=true:=by rfl):QA X (e :: es) (jcc te t):=
 ⟨@jid _ _ _ _ _ h1.h h2.h h3⟩
variable {K:av}
theorem qL{X:Cx}{pos:Pos}{k:Nat}{t:TGs}{n:Nat}(hc:X.calm=true)(h:QGs X es t)(hK:X.K=K:=by rfl)(hn:lC (iD es X.env)=n:=by rfl)(cw:wg (fun x=>Prod.fst x) (iD es X.env)=none:=by rfl):QG X (Expr.Tuple es k pos) (jhw K n t):=⟨by subst hK;exact jev hc h.h hn cw⟩
theorem jdY{X:Cx}{pos:Pos}(h:QE X e ta)(hb:n_ e f X.env (eval e X.env)=eval e X.env)(hK:X.K=K:=by rfl):QE X (Expr.Attribute e f pos) (jgZ K ta f):=⟨by subst hK;exact jeB h.h hb⟩
theorem jdT{X:Cx}{pos:Pos}{l:Nat}{y z:Str}{ta:TA}{px py pz pt:Pos}{kt k2:Nat}{wU:Pos}(hc:X.calm=true)(hN:bg X.N)(hi:X.N[i]?=some x)(hj:X.N[j]?=some y)(hl:X.N[l]?=some z)(tR:i≠j)(N1:i≠l)(N0:j≠l)(hx:L2.Loc (eT X.env) x)(hy:L2.Loc (eT X.env) y)(hz:L2.Loc (eT X.env) z)(ha:QA X [a,b,c] ta)(hw:swappedStores [Expr.Tuple [Expr.Name x px,Expr.Name y py,Expr.Name z pz] kt pt] (Expr.Tuple [a,b,c] k2 wU) X.env=pure (some [x,y,z]))(fx:X.fn x=true\/eW x (om (eT X.env))=some NameKind.local)(fy:X.fn y=true\/eW y (om (eT X.env))=some NameKind.local)(fz:X.fn z=true\/eW z (om (eT X.env))=some NameKind.local)(hs:swapsWithSole [Expr.Tuple [Expr.Name x px,Expr.Name y py,Expr.Name z pz] kt pt] (Expr.Tuple [a,b,c] k2 wU) (lz pos) X.env=pure false:=by rfl):QS X (Stmt.Assign [Expr.Tuple [Expr.Name x px,Expr.Name y py,Expr.Name z pz] kt pt] (Expr.Tuple [a,b,c] k2 wU) pos) (jhS i j l ta):=⟨by
 intro ac s σ H D I h;rw[exec_Assign_arm];refine ae (ft ?_);rw[hs];refine ae (aq ?_);rw[Tt (by decide)];refine ae (Tuple_ (thn (ha.h _ ac s σ H _ I h) fun us s1 hM=>?_));obtain⟨vs,H1,I1,r1,q1⟩:=hM;obtain⟨v,w,u,e1,q1⟩:=q1;subst e1;obtain⟨u1,u2,u3,rfl,rv,e_,ru⟩:∃u1 u2 u3,us=[u1,u2,u3]/\RelV v u1/\RelV w u2/\RelV u u3:=by
  cases r1 with
  | cons p q=>
   cases q with
   | cons p' q'=>
    cases q' with
    | cons p2 q2=>
     cases q2
     exact⟨_,_,_,rfl,p,p',p2⟩
 refine dY ?_ (by show 3<=aF;decide);have I2:Inv X ac σ H1 { s1 with heap:=s1.heap.push { cls:=.type "tuple",data:=.seq [u1,u2,u3].toArray } }:=I1.kept (t':=s1.toks) fun b o e=>aQ _ e
 rw[hw];refine ae (aq ?_);show ah (am X.prog X.w) X.A (do rule "assign.swapped-stores";let items <- unpackItems (.ref s1.heap.objs.size) 3 none;HM [fun v=>nZ X.env z v,fun v=>nZ X.env y v,fun v=>nZ X.env x v] items.reverse;pure Flow.next) _ _ _;refine ae (iz (ae (unpackItems_tuple (items:=#[u1,u2,u3]) (I.ok.hd hc) (DK s1.heap _) fun h' aZ=>?_)));have I3:=I2.kept (h':=h') (t':=s1.toks) fun b o e=>aZ b o (aT (aL e)) e
 show ah _ _ (HM [fun v=>nZ X.env z v,fun v=>nZ X.env y v,fun v=>nZ X.env x v] [u3,u2,u1] >>= fun _=>pure Flow.next) _ _ _;refine ae (DJ (Dc (qr I3 hN hl hz ru (fun s2 I4=>?_) fz)));refine DJ (Dc (qr I4 hN hj hy e_ (fun s3 I5=>?_) fy));refine DJ (Dc (qr I5 hN hi hx rv (fun s4 I6=>Sr (aq ?_)) fx));have e:((σ.set l (some u)).set j (some w)).set i (some v)=((σ.set i (some v)).set j (some w)).set l (some u):=by
  rw[Lc _ _ (br N0),Lc _ _ (br N1),Lc _ _ (br tR)]
 rw[e]at I6;exact⟨_,H1,I6,q1⟩⟩
theorem qq{X:Cx}{v:V}{u:ad}{pos:Pos}(hg:Gl X x)(hm:X.mg x=some u)(r:RelV v u)(hd:(x == bx "__debug__")=false:=by decide):QE X (Expr.Name x pos) (tC v):=⟨fun _ _ _ H _ I h=>zS I hg hm ⟨v,H,I,r,h⟩ hd⟩
theorem jB{X:Cx}:QS X st jgY:=⟨fun _ _ _ _ _ _ h=>h.elim⟩
theorem yL{X:Cx}{t:TS}(h:QS X st t):QS X st (jhV t):=⟨by
 intro ac s σ H D I q;obtain⟨J,q,k⟩:=q;refine thn (h.h ac s σ H _ I q) fun f s1 q1=>?_
 cases f with
 | next=>
  obtain⟨σ',H',I',e⟩:=q1;exact⟨σ',H',I',k _ _ e⟩
 | cont=>exact q1
 | brk=>exact q1
 | ret v=>exact q1⟩
variable {w:ax}
theorem Fun.okZ{P:az}{mg:Str->Option ad}{base:au}{aX:Str}{f:aa}{fd:aD}{N:List Str}{k:Nat}(F:Fun K x aX st f fd)(S:FnScope N ps (ji st))(im:∀(ay:ad) (A:aM) (outer:List Env) (s:af) (H:Hp) (vs:List V) (Q:VK) (E:XK),Room k (A.deeper (envOfC aX (ji st) s.heap.objs.size f ay))->sp vs H Q E->
   ∃t,QSs (j5 CX0 P w K mg base N aX (ji st) f ay A outer s H E).nox (qy st) t/\t { nx:=fun _ H'=>Q .non H',rt:=Q } (zr N vs) H)(len:∀vs H Q E,sp vs H Q E->vs.length=ps.length:=by intro _ _ _ _ h;first|(cases h;subst_vars;rfl)|repeat first|(obtain⟨rfl,_⟩:=h;rfl)|(obtain⟨_,h⟩:=h)):FnOk P w K mg base CX0 (k+1) f fd ps sp:=
 F.ok S len fun ay A outer s H vs Q E hr h=>let ⟨t,a,b⟩:=im ay A outer s H vs Q E hr h;⟨t,a.h,b⟩
theorem Ya{X:Cx}{t:TE}(h:QE X e t):PD X e (rE t):=jib h.h
theorem zpd{X:Cx}{R:RD}(h:PD X e R):QE X e (tHD R):=⟨h.h⟩
open PySem PySem.Spec PyProof.Rows PySem.W
def SetAtS(prog:az)(w:ax)(h:au)(a:aa)(led:Bool)(σ:List Str):Prop:=∃(es:Array (Int×ad)) (ep:Nat) (t:bb),
 h.get? a=some { cls:=.type "set",dict:=none,data:=.set es ep t }/\DB (cT prog w) es.toList/\(∃l:List Str,StrsAre (es.toList.map (·.2)) l/\l.Perm σ)/\es.size < eK/\t.fits es.size=true/\TabOk led t
variable {prog:az}{led:Bool}{σ:List Str}
theorem SetAtS.kept{h h':au}{a:aa}(x:SetAtS prog w h a led σ)(k:∀o,h.get? a=some o->h'.get? a=some o):SetAtS prog w h' a led σ:=by
 obtain⟨es,ep,t,e,r⟩:=x;exact⟨es,ep,t,k _ e,r⟩
variable {v:Str}
theorem Yd{vs:List ad}{l:List Str}(h:StrsAre vs l):v∈l↔∃t,Value.str v t∈vs:=by
 induction h with
 | nil=>simp
 | cons n t h ih=>
  constructor
  .intro hv
   rcases aN.mp hv with rfl | hv
   .exact⟨t,bt⟩
   .obtain⟨t',ht⟩:=ih.mp hv
    exact⟨t',bu _ ht⟩
  .rintro⟨t',ht⟩
   rcases aN.mp ht with e | ht
   .cases e
    exact bt
   .exact bu _ (ih.mpr ⟨t',ht⟩)
theorem Zg:∀{vs:List ad} {l:List Str} {v:Str} {t:Tok},StrsAre vs l->StrsAre (vs++[.str v t]) (l++[v])
 | _,_,v,t,.nil=>.cons v t .nil
 | _,_,v,t,.cons n t' h=>.cons n t' (Zg h)
theorem Jb{vs eA:List ad}{l:List Str}(h:StrsAre vs l)(p:eA.Perm vs):∃l',StrsAre eA l'/\l'.Perm l:=by
 refine⟨eA.map strOf,strsAre_map eA fun v hv=>h.all v (p.mem_iff.mp hv),?_⟩;rw[<- h.strs];exact p.map _
section
variable {A:aM}{E:ad->af->Prop}{s:af}
theorem Zj{es:Array (Int×ad)}{l:List Str}(hI:StrsAre (es.toList.map (·.2)) l):(∃j,wg (fun e=>(cT prog w).is v e.2) es.toList=some j)↔v∈l:=by
 rw[Yd hI];constructor
 .rintro⟨j,hj⟩
  obtain⟨a_,h1,_⟩:=List.findIdx?_eq_some_iff_getElem.mp hj;obtain⟨x,t,e⟩:=hI.all es.toList[j].2 (ck.mpr ⟨_,gD a_,rfl⟩);have:v=x:=by
   rw[e]at h1;exact (cT prog w).inj _ _ _ h1 (nW _ _ _ _)
  subst this;exact⟨t,ck.mpr ⟨_,gD a_,e⟩⟩
 .rintro⟨t,ht⟩
  obtain⟨e,he,e2⟩:=ck.mp ht
  cases hf:wg (fun e=>(cT prog w).is v e.2) es.toList with
  | some j=>exact⟨j,rfl⟩
  | none=>
   have:=List.findIdx?_eq_none_iff.mp hf e he;rw[e2,nW]at this
   cases this
theorem Yh{a:aa}{es bD:Array (Int×ad)}{ep:Nat}{t t':bb}{h:au}(ho:h.get? a=some { cls:=.type "set",dict:=none,data:=.set es ep t })
  (gk:DB (cT prog w) bD.toList) (hl:∃l:List Str,StrsAre (bD.toList.map (·.2)) l/\l.Perm σ) (hb:bD.size < eK) (hf:t'.fits bD.size=true) (ht:TabOk led t') :
  (h.update a (on bD t')).get? a=some { cls:=.type "set",dict:=none,data:=.set bD (ep+1) t' }/\SetAtS prog w (h.update a (on bD t')) a led σ:=by
 have hg:(h.update a (on bD t')).get? a=some { cls:=.type "set",dict:=none,data:=.set bD (ep+1) t' }:=by
  have:=Dx (on bD t') ho (by rw[Dg bD t' rfl];rfl);rw[Dg bD t' rfl]at this;exact this
 exact⟨hg,bD,ep+1,t',hg,gk,hl,hb,hf,ht⟩
theorem Yi{a:aa}{tk:Tok}{Q:Bool->af->Prop}(hS:SetAtS prog w s.heap a led σ)(Fk:σ.length+1 < eK)
  (h:∀b h',cr a s.heap h'->SetAtS prog w h' a led (if v∈σ then σ else σ++[v])->Q b { s with heap:=h' }):ah (am prog w) A (setAddHashed a (.str v tk) ((cT prog w).hash v)) Q E s:=by
 obtain⟨es,ep,t,ho,gk,⟨l,hI,hp⟩,hb,hf,ht⟩:=hS
 have hsz:es.size=σ.length:=by
  have h1:=hI.length;have h2:=hp.length_eq;rw[aC,cF]at h1;omega
 unfold setAddHashed setAddHashedIn
 refine dr (ae (cS ho rfl hf ?_))
 dsimp only
 rw[byScan_of (knd:=cT prog w) rfl hb gk]
 simp only[↓reduceIte]
 unfold setAddByScan
 refine ae (ae (iz (ae (wpAny_setScan_of (knd:=cT prog w) (nW _ _ _ _) ho rfl hf gk ?_))))
 cases hr:wg (fun e=>(cT prog w).is v e.2) es.toList with
 | some j=>
  have hv:v∈σ:=hp.mem_iff.mp ((Zj hI).mp ⟨j,hr⟩)
  dsimp only
  refine aq (aq ?_)
  have:=h false s.heap (iH a s.heap) (by rw[Tu hv];exact⟨es,ep,t,ho,gk,⟨l,hI,hp⟩,hb,hf,ht⟩)
  exact this
 | none=>
  have hv:¬v∈σ:=fun z=>by
   obtain⟨j,hj⟩:=(Zj (prog:=prog) (w:=w) hI).mpr (hp.mem_iff.mpr z);rw[hr]at hj
   cases hj
  rw[Tt hv]at h
  dsimp only
  have gw:∀(b:Bool) {s₁:af} {Q':Unit->af->Prop},Q' () s₁->ah (am prog w) A (match b with | true=>rule "set.scan.the-table-gave-way" | false=>pure ()) Q' E s₁:=fun b s₁ Q' hq=>by
   cases b
   .exact aq hq
   .exact iz hq
  have p1:=layNew_perm t es ((cT prog w).hash v) (.str v tk)
  have f1:=layNew_fits t es ((cT prog w).hash v) (.str v tk)
  have k1:=jdz ht es ((cT prog w).hash v) (.str v tk)
  generalize layNew t es ((cT prog w).hash v) (.str v tk)=L at p1 f1 k1 |-
  obtain⟨cB,t1,wd,gv⟩:=L
  dsimp only at p1 f1 k1 |-
  rw[Lq]at p1
  have FT:DB (cT prog w) cB.toList:=(gk.push (nW _ _ _ _) rfl).perm p1
  have Gc:∃l:List Str,StrsAre (cB.toList.map (·.2)) l/\l.Perm (σ++[v]):=by
   have pm:=p1.map (·.2);rw[bh]at pm;obtain⟨l',i1,i2⟩:=Jb (Zg (t:=tk) hI) pm;exact⟨l',i1,i2.trans (hp.append_right _)⟩
  have pF:cB.size=es.size+1:=by
   have:=p1.length_eq;rw[aO,cF,cF]at this;simpa using this
  have F1:cB.size < eK:=by omega
  refine ae (gw _ ?_)
  have fin:∀t2:bb,t2.fits cB.size=true->TabOk led t2->ah (am prog w) A (do
    storeSet a cB t2
    if (!wd && t2.tooFull)=true then do
      (match (rM t2 cB (oj cB.size)).2.2 with | true=>rule "set.scan.the-table-gave-way" | false=>pure ():Sem Unit)
      storeSet a (rM t2 cB (oj cB.size)).1 (rM t2 cB (oj cB.size)).2.1
      pure (some true)
     else pure (some true)) (fun Pk s'=>ah (am prog w) A (match Pk with | some Pj=>pure Pj | none=>setAddHashedIn a (.str v tk) ((cT prog w).hash v) 99999) Q E s') E s:=by
   intro t2 f2 k2
   refine ae (rB ho rfl ?_ (QK F1))
   obtain⟨ic,md⟩:=Yh (prog:=prog) (w:=w) (σ:=σ++[v]) ho FT Gc F1 f2 k2
   have lJ:=mG s.heap a (on cB t2)
   split
   .have p2:=relayAll_perm t2 cB (oj cB.size)
    have f3:=relayAll_fits t2 cB (oj cB.size)
    have k3:=jen k2 cB (oj cB.size)
    generalize rM t2 cB (oj cB.size)=L at p2 f3 k3 |-
    obtain⟨Bw,t3,gv2⟩:=L
    dsimp only at p2 f3 k3 |-
    have dU:Bw.size=cB.size:=by rw[<- cF,p2.length_eq,cF]
    have OD:∃l:List Str,StrsAre (Bw.toList.map (·.2)) l/\l.Perm (σ++[v]):=by
     obtain⟨l1,i1,i2⟩:=Gc;obtain⟨l',j1,j2⟩:=Jb i1 (p2.map (·.2));exact⟨l',j1,j2.trans i2⟩
    refine ae (gw _ (ae (rB ic rfl ?_ (QK (by omega)))))
    obtain⟨_,fE⟩:=Yh (prog:=prog) (w:=w) (σ:=σ++[v]) ic (FT.perm p2) OD (by omega) f3 k3
    exact aq (aq (h true _ (lJ.trans (mG _ a _)) fE))
   .exact aq (aq (h true _ lJ md))
  split
  .refine ae ?_
   rw[hashByValue_scannable 8 rfl]
   refine aq ?_
   refine fin _ ?_ ?_
   .split
    .exact f1
    .exact bb.fits_plain_off f1
   .split
    .exact k1
    .exact jc7 k1
  .refine ae (aq ?_)
   simp only[↓reduceIte]
   exact fin _ f1 k1
end
def dedupS(ns:List Str):List Str:=ns.foldl (fun σ v=>if v∈σ then σ else σ++[v]) []
theorem KO(ns:List Str)(v:Str):dedupS (ns++[v])=if v∈dedupS ns then dedupS ns else dedupS ns++[v]:=by unfold dedupS;rw[List.foldl_append];rfl
theorem Ky(ns:List Str):(dedupS ns).Nodup/\(dedupS ns).length<=ns.length/\∀x,x∈dedupS ns↔x∈ns:=by
 have bz:∀(l:List Str),(dedupS l.reverse).Nodup/\(dedupS l.reverse).length<=l.reverse.length/\∀x,x∈dedupS l.reverse↔x∈l.reverse:=by
  intro l;induction l with
  | nil=>exact⟨fO,aB _,fun x=>Iff.rfl⟩
  | cons v l ih=>
   rw[wa,KO];obtain⟨h1,h2,h3⟩:=ih;split
   .next h=>
    refine⟨h1,by rw[aO];omega,fun x=>?_⟩;rw[bB,h3];constructor
    .exact .inl
    .rintro (z | z)
     .exact z
     .rw[bf.mp z]
      exact (h3 v).mp h
   .next h=>
    refine⟨?_,by rw[aO,aO];simp;simpa using h2,fun x=>by rw[bB,bB,h3]⟩;rw[g5];refine⟨h1,by simp,fun x hx y hy e=>?_⟩;rw[bf]at hy;subst hy e;exact h hx
 have:=bz ns.reverse;rw[List.reverse_reverse]at this;exact this
section
variable {A:aM}{E:ad->af->Prop}{R:ly->af->Prop}
theorem set_loopB{b:Bool}{S it l:aa}{led:Bool}{its:List ad}{ns:List Str}(hh:A.handled=none)(hI:StrsAre its ns)(OB:S≠l)(Bj:S≠it)(pN:l≠it)(hz:ns.length+1 < eK):
  ∀(k i:Nat) (s:af),i+k=ns.length->(bif b then s.heap.IsTupleIter it l i else s.heap.IsListIter it l i)->(bif b then s.heap.IsTuple l its.toArray else s.heap.IsList l its.toArray)->SetAtS prog w s.heap S led (dedupS (ns.take i))->
   (∀h' tk,(∀b o,b≠S->b≠it->s.heap.get? b=some o->h'.get? b=some o)->SetAtS prog w h' S led (dedupS ns)->R (.ok (.ret .none)) { s with heap:=h',toks:=tk })->
   cD (am prog w) A (.builtin "set.update.loop" ⟨[.ref S,.ref it],[]⟩) R s:=by
 cases b <;> dsimp only[cond]
 all_goals
  intro k
  induction k with
  | zero=>
   intro i s hk bY ht hS hR
   have hl:=hI.length
   refine lm Sx ?_
   rw[ot IT _]
   show ah _ A.in1 (dh (.ref it) >>= _) _ _ s
   first | refine ae (PL (A:=A.in1) hh bY ht (by simp;omega) fun h1 pU=>?_) | refine ae (PJ (A:=A.in1) hh bY ht (by simp;omega) fun h1 pU=>?_)
   show ah _ A.in1 (ret Value.none) _ _ _
   refine aq ?_
   rw[show ns.take i=ns from Lb (by omega)]at hS
   exact hR h1 s.toks (fun b o _ hb e=>pU b o hb e) (hS.kept fun o e=>pU S o Bj e)
  | succ k ih=>
   intro i s hk bY ht hS hR
   have hl:=hI.length
   have a_:i < ns.length:=by omega
   have FQ:its.toArray[i]?=some its[i]:=by simp[hl,a_]
   obtain⟨t,et⟩:∃t,its[i]=.str ns[i] t:=by
    obtain⟨t,ht⟩:=hI.get i ns[i] (by simp[a_]);exact⟨t,by rw[aI (by omega)]at ht;exact bZ ht⟩
   refine lm Sx ?_
   rw[ot IT _]
   show ah _ A.in1 (dh (.ref it) >>= _) _ _ s
   first | refine ae (PK bY ht FQ fun h1 FP pF=>?_) | refine ae (PH bY ht FQ fun h1 FP pF=>?_)
   have fg:=ht.extBut pF.extBut pN
   have md:SetAtS prog w h1 S led (dedupS (ns.take i)):=hS.kept fun o e=>(pF.2 S Bj).trans e
   rw[et]
   show ah _ A.in1 (holding [Value.str ns[i] t] (setAdd S (.str ns[i] t)) >>= _) _ _ _
   refine ae (dr ?_)
   unfold setAdd
   refine dr ?_
   refine ae ((cT prog w).pyHash (k:=ns[i]) (nW _ _ _ _) ?_)
   have Fk:(dedupS (ns.take i)).length+1 < eK:=by
    have:=(Ky (ns.take i)).2.1;rw[cM]at this;omega
   refine Yi (s:={ s with heap:=h1,toks:=s.toks+1 }) md Fk fun b h2 dU fE=>?_
   have e2:dedupS (ns.take (i+1))=if ns[i]∈dedupS (ns.take i) then dedupS (ns.take i) else dedupS (ns.take i)++[ns[i]]:=by
    rw[cE,aI a_];exact KO _ _
   rw[<- e2]at fE
   have gO:∀b o,b≠S->h1.get? b=some o->h2.get? b=some o:=fun b o hb e=>(dU.2 b hb).trans e
   refine aq ⟨rO IT _,ih (i+1) _ (by omega) ?_ ?_ fE fun h' tk lY dC=>hR h' tk (fun b o b1 b2 e=>lY b o b1 b2 (gO b o b1 ((pF.2 b b2).trans e))) dC⟩
   .obtain⟨oi,z1,z2⟩:=FP
    exact⟨oi,gO it oi Bj.symm z1,z2⟩
   .obtain⟨oi,z1,z2⟩:=fg
    exact⟨oi,gO l oi OB.symm z1,z2⟩
end
end L2
namespace PySem
section
variable {prog:az}{w:ax}{A:aM}{E:ad->af->Prop}{s:af}
set_option maxHeartbeats 3200000 in
theorem set_ofB{b:Bool}{l:aa}{its:List ad}{ns:List Str}{nl:Nat}{sl:Array (Option ad)}{dd:Option aa}{Q:ad->af->Prop}(hh:A.handled=none)(iU:s.heap.get? l=some { cls:=.type (bif b then "tuple" else "list"),dict:=dd,data:=.seq its.toArray nl,slots:=sl })(hi:PyProof.Rows.StrsAre its ns)(hb:ns.length+1 < eK)
  (h:∀(h':au) (tk:Nat),L2.SetAtS prog w h' s.heap.objs.size (L2.ledOf w) (L2.dedupS ns)->(∀b o,s.heap.get? b=some o->h'.get? b=some o)->Q (.ref s.heap.objs.size) { s with heap:=h',toks:=tk }) :
  ah (am prog w) A (call (.type "set") [.ref l]) Q E s:=by
 have SL:=fun {A R}=>@L2.set_loopB (prog:=prog) (w:=w) (A:=A) (R:=R) (b:=b)
 cases b <;> dsimp only[cond]at SL iU
 all_goals
  obtain⟨c,tl,hmro⟩:=mH.mro
  have hmade:=mH.made
  have Fg:=mH.sub
  refine Db (Hv ?_)
  show ah _ _ (callAny (.type "set") _) _ _ _
  refine aq ⟨RR _ (by decide +kernel),lm F.entry_type_call ?_⟩
  rw[aM.under_plain (weight_type_call_type "set" [.ref l] []) rfl]
  have h1:=mH.notType
  have h2:=mH.canCreate
  have hct:=F.typeCall_set_1 (.ref l)
  repeat (any_goals (first | assumption | wp_step))
  refine lj (jaF (.ref l) (E:=E) (Q₁:=fun obj s₁=>obj=.ref s.heap.objs.size/\s₁={ s with heap:=s.heap.push { cls:=.type "set",dict:=none,data:=.set #[] 0 (.fresh 0 0 (L2.ledOf w)) } }) ⟨rfl,rfl⟩) fun r s₁ hr=>?_
  cases r with
  | error e=>exact hr
  | ok fl=>
   cases fl with
   | ret obj=>
    obtain⟨rfl,rfl⟩:=hr
    have hS:(s.heap.push { cls:=.type "set",dict:=none,data:=.set #[] 0 (.fresh 0 0 (L2.ledOf w)) }).get? s.heap.objs.size=some { cls:=.type "set",dict:=none,data:=.set #[] 0 (.fresh 0 0 (L2.ledOf w)) }:=bV _ rfl
    have hT:af.TypeIs { s with heap:=s.heap.push { cls:=.type "set",dict:=none,data:=.set #[] 0 (.fresh 0 0 (L2.ledOf w)) } } (.ref s.heap.objs.size) "set":=⟨_,hS,rfl⟩
    have pN:=mH.init.lookup
    have tY:=mH.init.bind (.ref s.heap.objs.size)
    repeat (any_goals (first | assumption | wp_step))
    refine lj (Hw (R:=wants (fun r s₂=>r=.none/\∃h' tk,s₂={ s with heap:=h',toks:=tk }/\L2.SetAtS prog w h' s.heap.objs.size (L2.ledOf w) (L2.dedupS ns)/\
      (∀b o,s.heap.get? b=some o->h'.get? b=some o)) E) mH.init.plain F.entry_set_init (check_set_init_1 hT ?_)) fun r₂ s₂ AA=>?_
    .have AF:=aQ { cls:=.type "set",dict:=none,data:=.set #[] 0 (.fresh 0 0 (L2.ledOf w)) } iU
     have hsls:=F.sub_list_set
     have hslf:=F.sub_list_frozenset
     have aW:(Value.type "list" == Value.type "dict")=false:=by decide
     have hsl2:=F.sub_tuple_set
     have hsl3:=F.sub_tuple_frozenset
     have Fz:(Value.type "tuple" == Value.type "dict")=false:=by decide
     unfold Builtin.«set.__init__» noKeywords R4
     generalize hPI:mB=PI
     wp_walk
     subst hPI
     first | refine PM (items:=its.toArray) ⟨_,AF,rfl,nl,rfl⟩ ?_ | refine vC (items:=its.toArray) ⟨_,AF,rfl,nl,rfl⟩ ?_
     refine ae (wpAny_runValue ?_)
     have FI:l < s.heap.objs.size:=aL iU
     have N5:A.in1.in1.handled=none:=by simp[hh]
     have xW:s.heap.objs.size < (s.heap.push { cls:=.type "set",dict:=none,data:=.set #[] 0 (.fresh 0 0 (L2.ledOf w)) }).objs.size:=aL hS
     refine SL (its:=its) (ns:=ns) (led:=L2.ledOf w) N5 hi (mK FI) (aT xW) (aT (iL FI xW)) hb ns.length 0 _ (by omega) ?_ ?_ ?_ ?_
     .exact⟨_,bV _ rfl,rfl,rfl⟩
     .exact⟨_,aQ _ AF,rfl,nl,rfl⟩
     .refine⟨#[],0,.fresh 0 0 (L2.ledOf w),?_,fun e he=>by simp at he,⟨[],.nil,.nil⟩,by decide,rfl,⟨rfl,rfl,List.Pairwise.nil⟩⟩
      exact aQ _ hS
     .intro h' tk hk dC
      show ah _ _ _ _ _ _
      refine aq ?_
      show ah _ _ (ret Value.none) _ _ _
      refine aq ⟨rfl,h',tk,rfl,dC,fun b o e=>?_⟩
      have Bc:=aL e
      exact hk b o (aT Bc) (aT (iL Bc xW)) (aQ _ (aQ _ e))
    .cases r₂ with
     | error e=>exact AA
     | ok fl₂=>
      cases fl₂ with
      | ret r=>
       obtain⟨rfl,h',tk,rfl,dC,lY⟩:=AA
       repeat (any_goals (first | assumption | wp_step))
       exact h _ _ dC lY
      | _=>exact AA.elim
   | _=>exact hr.elim
end
end PySem
namespace L2
open PySem PySem.Spec PySem.Calls PyProof.Rows PySem.W
abbrev Yj(X:Cx)(v:aa)(σ:List Str):HO:=.ext fun h=>SetAtS X.prog X.w h v (ledOf X.w) σ
theorem Yc:∀{xs:List Str} {us:List ad},Vals (xs.map V.str) us->StrsAre us xs
 | [],us,h=>by cases h;exact .nil
 | x :: r,us,h=>by
  cases h with
  | cons h1 h2=>
   obtain⟨t,rfl⟩:=h1;exact .cons x t (Yc h2)
variable {X:Cx}
theorem Y5(hc:X.calm=true):qX X (.type "set") (fun xs H Q=>∃(p:aa) (ns:List Str),xs=[.ref p]/\SqL X.K H p (ns.map V.str)/\ns.length<=1000/\∀v,H v=none->Q (.ref v) (upd H v (Yj X v (dedupS ns)))):=by
 intro ac s σ H xs us Q I r h;obtain⟨p,ns,rfl,hq,hz,q⟩:=h;obtain⟨u,rfl,rx⟩:=yP r
 cases rx
 obtain⟨its,rv,⟨⟨c1,d1,t1,l1⟩,n1,o1,z1,z2,z3⟩,MB⟩:=I.list hq;simp only at z1 z2 z3;subst z1 z2 z3;refine PySem.set_ofB (b:=false) (I.ok.hd hc) o1 (Yc rv) (by unfold eK;omega) fun h' tk hS hk=>?_
 have dC:=hS;obtain⟨es,ep,t,e,_⟩:=dC;refine⟨.ref s.heap.objs.size,_,I.laid (t':=tk) hk (aB _) (show ObjOk X.prog X.w _ _ _ (Yj X s.heap.objs.size (dedupS ns)) from⟨hS,⟨_,e⟩,fun h1 h2 x k=>x.kept k⟩),rfl,q _ (I.hok.fresh (aB _))⟩
theorem Kz(hc:X.calm=true):qX X (.builtin "sorted") (fun xs H Q=>∃(p:aa) (τ:List Str),xs=[.ref p]/\H p=some (Yj X p τ)/\τ.length < 64/\∀(l:aa) (ns:List Str),H l=none->ns.Perm τ->sortedS ns=true->Q (.ref l) (upd H l (.lst (ns.map V.str)))):=by
 intro ac s σ H xs us Q I r h;obtain⟨p,τ,rfl,hp,h64,q⟩:=h;obtain⟨u,rfl,rx⟩:=yP r
 cases rx
 obtain⟨⟨es,ep,t,ho,gk,⟨l0,Gd,gf⟩,hb,hf,ht⟩,_⟩:=I.hok p _ hp;have hz:es.size=τ.length:=by
  have h1:=Gd.length;rw[aC,cF]at h1;rw[h1,gf.length_eq]
 refine RV kind_sorted plain_sorted entry_sorted (args_sorted1 _) ?_;unfold Builtin.«sorted»;refine ae (m:=checkCount "sorted" 1 1 _) (aq (ae ?_));refine jbl (A:=X.A.in1) (show X.A.in1.handled=none from I.ok.hd hc) ho hf ht (by omega) fun h' d' aR hv hk=>?_
 obtain⟨ns0,hI,pJ⟩:=Jb Gd hv;have hl:aR.length=τ.length:=by rw[hI.length,pJ.length_eq,gf.length_eq]
 refine ae (GQ ?_ (by rw[hl];exact aU (by omega) je7));have gL:(h'.push (dw "list" aR.toArray 0)).get? h'.objs.size=some (dw "list" aR.toArray 0):=bV _ rfl;refine ae (dr (iA slot_list_sort ⟨_,gL,rfl⟩ entry_list_sort (list_sort_treeK strKind_oneLt gL hI.keysOf (fun v₁ v₂ qV e=>keyKind_strs (by rw[<- e];exact hI)) (by omega) fun bM a1 a2=>⟨_,rfl,?_⟩) (args_list_sort _)));refine aq ⟨_,rfl,?_⟩;obtain⟨ss,b1,b2,b3⟩:=sorted_out_str hI a1 a2;have I1:Inv X ac σ H { s with heap:=h',drawn:=d' }:=I.drawn hk;obtain⟨e,he⟩:=sortedHeap_at (out:=(arrOf bM).map (·.2)) gL;refine⟨.ref h'.objs.size,_,I1.laid (t':=s.toks) (a:=h'.objs.size) (fun b o hb=>?_) (aB _) (show ObjOk X.prog X.w _ _ _ (.lst (ss.map V.str)) from⟨?_,_,e,Za b1,?_⟩),rfl,q _ _ (I1.hok.fresh (aB _)) (b2.trans (pJ.trans gf)) b3⟩
 .have a_:=aL hb
  rw[sortedHeap_old (aT a_) (by rw[IP];exact sq a_)];exact aQ _ hb
 .rw[aC,b2.length_eq,<- hI.length,hl]
  exact aU (by omega) je7
 .rw[Tj]
  exact he
theorem YO(hc:X.calm=true):qX X (.type "set") (fun xs H Q=>∃(p:aa) (ns:List Str),xs=[.ref p]/\SqT X.K H p (ns.map V.str)/\ns.length<=1000/\∀v,H v=none->Q (.ref v) (upd H v (Yj X v (dedupS ns)))):=by
 intro ac s σ H xs us Q I r h;obtain⟨p,ns,rfl,hq,hz,q⟩:=h;obtain⟨u,rfl,rx⟩:=yP r
 cases rx
 obtain⟨its,rv,tp,MB⟩:=I.tuple hq;obtain⟨⟨c1,d1,t1,l1⟩,o1,z1,n1,z2⟩:=tp;simp only at z1 z2;subst z1 z2;refine PySem.set_ofB (b:=true) (I.ok.hd hc) o1 (Yc rv) (by unfold eK;omega) fun h' tk hS hk=>?_
 have dC:=hS;obtain⟨es,ep,t,e,_⟩:=dC;refine⟨.ref s.heap.objs.size,_,I.laid (t':=tk) hk (aB _) (show ObjOk X.prog X.w _ _ _ (Yj X s.heap.objs.size (dedupS ns)) from⟨hS,⟨_,e⟩,fun h1 h2 x k=>x.kept k⟩),rfl,q _ (I.hok.fresh (aB _))⟩
def jh1(mask i:Nat):Nat:=(i * 5+1) % (mask+1)
def jct(mask:Nat):Nat->Nat->Nat->Bool
 | 0,_,_=>false
 | f+1,i,j=>i == j || jct mask f (jh1 mask i) j
def qJ(m:Nat):Prop:=m=7\/m=15\/m=31\/m=63
theorem jdx{mask:Nat}(h:qJ mask):∀i,i < mask+1->∀j,j < mask+1->jct mask (mask+1) i j=true:=by
 rcases h with rfl | rfl | rfl | rfl
 .decide +kernel
 .decide +kernel
 .decide +kernel
 .decide +kernel
theorem Zw{mask:Nat}{owner:Array (Option Nat)}{j:Nat}(hj:(owner.getD j (some 0)).isNone=true):∀(f i:Nat),jct mask f i j=true->∃k,gX mask owner f i 0=some k/\(owner.getD k (some 0)).isNone=true
 | 0,i,h=>by cases h
 | f+1,i,h=>by
  unfold gX
  cases hf:(bL (HZ mask i+1 - i)).find? fun k=>(owner.getD (i+k) (some 0)).isNone with
  | some k=>exact⟨i+k,rfl,by have:=S7 hf;exact this⟩
  | none=>
   unfold jct at h;rw[mR]at h;rcases h with h | h
   .have e:i=j:=by simpa using h
    subst e;have:=List.find?_eq_none.mp hf 0 (sw.mpr (by unfold HZ;split <;> omega));rw[J_,hj]at this;exact absurd rfl this
   .show ∃k,gX mask owner f ((i * 5+1+0 / 32) % (mask+1)) (0 / 32)=some k/\_
    exact Zw hj f _ h
theorem Zx{mask:Nat}(hm:qJ mask){owner:Array (Option Nat)}{j:Nat}(hj:(owner.getD j (some 0)).isNone=true)(FN:j < mask+1):∀(n i p:Nat),i < mask+1->p < 32 ^ n->∃k,gX mask owner (mask+1+n) i p=some k/\(owner.getD k (some 0)).isNone=true
 | 0,i,p,hi,hp=>by
  have:p=0:=by simpa using hp
  subst this;exact Zw hj _ i (jdx hm i hi j FN)
 | n+1,i,p,hi,hp=>by
  show ∃k,gX mask owner (mask+1+n+1) i p=some k/\_;unfold gX
  cases hf:(bL (HZ mask i+1 - i)).find? fun k=>(owner.getD (i+k) (some 0)).isNone with
  | some k=>exact⟨i+k,rfl,by have:=S7 hf;exact this⟩
  | none=>
   show ∃k,gX mask owner (mask+1+n) ((i * 5+1+p / 32) % (mask+1)) (p / 32)=some k/\_;exact Zx hm hj FN n _ _ (DP _ (SD _)) (by rw[Nat.pow_succ]at hp;omega)
def yV(owner:Array (Option Nat))(l:List Nat):List Nat:=l.filterMap fun j=>owner.getD j none
theorem jaO{owner:Array (Option Nat)}{j k:Nat}(hj:j < owner.size)(hn:owner.getD j (some 0)=none):∀l:List Nat,l.Nodup->(j ∉ l->yV (owner.setIfInBounds j (some k)) l=yV owner l)/\(j∈l->(yV (owner.setIfInBounds j (some k)) l).Perm (k :: yV owner l))
 | [],_=>⟨fun _=>rfl,fun h=>by cases h⟩
 | a :: l,nd=>by
  obtain⟨n1,n2⟩:=cW.mp nd;obtain⟨i1,i2⟩:=jaO hj hn l n2;have Ex:a≠j->(owner.setIfInBounds j (some k)).getD a none=owner.getD a none:=fun aW=>by
   rw[oF,oF,Array.getElem?_setIfInBounds_ne (br aW)]
  have Pf:(owner.setIfInBounds j (some k)).getD j none=some k:=by
   rw[oF,Array.getElem?_setIfInBounds_self_of_lt hj];rfl
  have LV:owner.getD j none=none:=by
   rw[oF]at hn |-;rw[iM hj]at hn |-;exact hn
  refine⟨fun h=>?_,fun h=>?_⟩
  .have aW:a≠j:=fun z=>h (by rw[z];exact bt)
   unfold yV at i1 |-;rw[cX,cX,Ex aW,i1 (fun z=>h (bu _ z))]
  .by_cases e:a=j
   .subst e
    unfold yV at i1 |-;rw[cX,cX,Pf,LV,i1 n1]
   .have hm:j∈l:=(aN.mp h).resolve_left (fun z=>e z.symm)
    have:=i2 hm;unfold yV at this |-;rw[cX,cX,Ex e]
    cases owner.getD a none with
    | none=>exact this
    | some x=>exact (this.cons x).trans (List.Perm.swap k x _)
theorem jda{owner:Array (Option Nat)}{m:Nat}(hs:owner.size=m)(h:(yV owner (bL m)).length < m):∃j,j < m/\(owner.getD j (some 0)).isNone=true:=by
 apply Classical.byContradiction;intro lW;have all:∀j,j < m->∃k,owner.getD j none=some k:=fun j hj=>by
  have h1:¬(owner.getD j (some 0)).isNone=true:=fun z=>lW ⟨j,hj,z⟩
  rw[oF,iM (by omega)]at h1 |-
  cases hx:owner[j]'(by omega+splitNatSub) with
  | none=>rw[hx]at h1;exact absurd rfl h1
  | some k=>exact⟨k,by rw[Option.getD_some]⟩
 have bz:∀l:List Nat,(∀j∈l,j < m)->(yV owner l).length=l.length:=by
  intro l;induction l with
  | nil=>intro _;rfl
  | cons a l ih=>
   intro hl;obtain⟨k,hk⟩:=all a (hl a bt);have:=ih fun j hj=>hl j (bu _ hj)
   unfold yV at this |-;rw[cX,hk];show (k :: List.filterMap _ l).length=_;rw[bo,this,bo]
 rw[bz _ (fun j hj=>sw.mp hj),DV]at h;omega
theorem ja0{mask:Nat}(hm:qJ mask):∀(hs:List Int) (owner:Array (Option Nat)) (k:Nat),owner.size=mask+1->(yV owner (bL (mask+1))).Perm (bL k)->k+hs.length<=mask+1->
  ∃xg,(hs.foldl (fun (aP:Option (Array (Option Nat)×Nat)) h=>aP.bind fun (owner,k)=>(gX mask owner (HY mask) (iG h % (mask+1)) (iG h)).bind fun j=>some (owner.setIfInBounds j (some k),k+1)) (some (owner,k)))=some (xg,k+hs.length)/\xg.size=mask+1/\(yV xg (bL (mask+1))).Perm (bL (k+hs.length))
 | [],owner,k,h1,h2,_=>⟨owner,rfl,h1,h2⟩
 | h :: hs,owner,k,h1,h2,h3=>by
  rw[bo]at h3;obtain⟨j,hj,NZ⟩:=jda h1 (by rw[h2.length_eq,DV];omega);have hb:iG h < 32 ^ 14:=by
   unfold iG;have a:=mQ h (b:=(2 ^ 64:Int)) (by decide);have b:=mP h (b:=(2 ^ 64:Int)) (by decide);have:(32:Nat) ^ 14=1180591620717411303424:=by decide
   omega
  obtain⟨x,hx,tF⟩:=Zx hm NZ hj 14 (iG h % (mask+1)) (iG h) (DP _ (SD _)) hb;have fc:x < owner.size:=by
   rcases su x owner.size with z | z
   .exact z
   .rw[oF,Array.getElem?_eq_none z]at tF
    cases tF
  have MG:owner.getD x (some 0)=none:=by
   cases e:owner.getD x (some 0) with
   | none=>rfl
   | some y=>rw[e]at tF;cases tF
  have hp:=(jaO (k:=k) fc MG (bL (mask+1)) List.nodup_range).2 (sw.mpr (by omega));have fq:(yV (owner.setIfInBounds x (some k)) (bL (mask+1))).Perm (bL (k+1)):=by
   refine hp.trans ((h2.cons k).trans ?_);rw[Ld];exact (List.perm_append_singleton _ _).symm
  obtain⟨o',e1,e2,e3⟩:=ja0 hm hs (owner.setIfInBounds x (some k)) (k+1) (by rw[Array.size_setIfInBounds];exact h1) fq (by omega);refine⟨o',?_,e2,?_⟩
  .rw[S5]
   have:(some (owner,k)).bind (fun (p:Array (Option Nat)×Nat)=>(gX mask p.1 (HY mask) (iG h % (mask+1)) (iG h)).bind fun j=>some (p.1.setIfInBounds j (some p.2),p.2+1))=some (owner.setIfInBounds x (some k),k+1):=by
    show (gX mask owner (mask+15) _ _).bind _=_;rw[show mask+15=mask+1+14 from rfl,hx];rfl
   rw[bo,show k+(hs.length+1)=k+1+hs.length by omega];refine Eq.trans ?_ e1;exact Tw (fun z=>hs.foldl _ z) this
  .rw[bo,show k+(hs.length+1)=k+1+hs.length by omega]
   exact e3
theorem jaP(n:Nat):∀l:List Nat,yV (D4 n none) l=[]
 | []=>rfl
 | a :: l=>by
  have:=jaP n l;unfold yV at this |-;rw[cX];have e:(D4 n (none:Option Nat)).getD a none=none:=by
   rw[oF,Array.getElem?_replicate];split <;> rfl
  rw[e];exact this
theorem Yu(owner:Array (Option Nat)):∀l:List Nat,(l.filterMap fun j=>(owner.getD j none).map (fun k=>(j,k))).map (·.2)=yV owner l
 | []=>rfl
 | a :: l=>by
  have:=Yu owner l;unfold yV at this |-;rw[cX,cX]
  cases owner.getD a none with
  | none=>exact this
  | some k=>show k :: g6 _ _=_;rw[this]
variable {led:Bool}
theorem Zq{mask finger moves:Nat}{plain:Bool}(hm:qJ mask)(hs:Array Int)(h:hs.size<=mask+1):∃t o,oh mask finger moves led plain hs=some (t,o)/\o.toList.Perm (bL hs.size)/\t.place.size=hs.size/\t.mask=mask/\TabOk led t:=by
 obtain⟨owner,e1,e2,e3⟩:=ja0 hm hs.toList (D4 (mask+1) none) 0 Array.size_replicate (by rw[jaP];exact oC _) (by rw[cF];omega);have hc:H0 mask hs=some owner:=by
  unfold H0;rw[<- Tn];have:(hs.toList.foldl (fun (aP:Option (Array (Option Nat)×Nat)) h=>aP.bind fun (owner,k)=>(gX mask owner (HY mask) (iG h % (mask+1)) (iG h)).bind fun j=>some (owner.setIfInBounds j (some k),k+1)) (some (D4 (mask+1) none,0))).map (·.1)=some owner:=by rw[e1];rfl
  exact this
 have hl:oh mask finger moves led plain hs=some ({ mask,place:=(((bL (mask+1)).filterMap fun j=>(owner.getD j none).map (fun k=>(j,k))).map (·.1)).toArray,dummies:=#[],finger,led,moves,plain },(((bL (mask+1)).filterMap fun j=>(owner.getD j none).map (fun k=>(j,k))).map (·.2)).toArray):=by
  unfold oh;rw[hc];rfl
 refine⟨_,_,hl,?_,?_,rfl,jcu hl⟩
 .rw[Yu]
  rw[cF,mI]at e3;exact e3
 .have h1:=e3.length_eq
  rw[<- Yu,aC,DV,cF,mI]at h1;show (g6 _ _).toArray.size=_;rw[bP,aC];exact h1
theorem jbE{α:Type}(es:Array α):(bL es.size).filterMap (es[·]?)=es.toList:=by
 apply List.ext_getElem?;intro i;have bz:∀n,n<=es.size->(bL n).filterMap (es[·]?)=es.toList.take n:=by
  intro n;induction n with
  | zero=>intro _;rfl
  | succ n ih=>
   intro hn;rw[Ld,List.filterMap_append,ih (by omega),cE];simp[iM (show n < es.size by omega)]
 rw[bz _ (aB _),Lb (by rw[cF];exact aB _)]
theorem JO{α:Type}{es:Array α}{o:Array Nat}(h:o.toList.Perm (bL es.size)):(o.filterMap (es[·]?)).toList.Perm es.toList/\(o.filterMap (es[·]?)).size=es.size:=by
 have e:(o.filterMap (es[·]?)).toList=o.toList.filterMap (es[·]?):=Array.toList_filterMap;have p:(o.filterMap (es[·]?)).toList.Perm es.toList:=by
  rw[e,<- jbE es];exact h.filterMap _
 exact⟨p,by have:=p.length_eq;rw[cF,cF]at this;exact this⟩
theorem jaD:∀n,n < 63->qJ (lx n - 1)/\n < lx n/\lx n<=64:=by
 intro n hn;unfold qJ;have:∀n,n < 63->((lx n=8\/lx n=16\/lx n=32\/lx n=64)/\n < lx n):=by decide +kernel
 obtain⟨h,h2⟩:=this n hn;omega
structure SmS(prog:az)(w:ax)(h:au)(a:aa)(led:Bool)(σ:List Str)(es:Array (Int×ad))(ep:Nat)(t:bb):Prop where
 o:h.get? a=some (kh es ep t)
 el:DB (cT prog w) es.toList
 pm:∃l:List Str,StrsAre (es.toList.map (·.2)) l/\l.Perm σ
 fit:t.fits es.size=true
 tab:TabOk led t
 sm:qJ t.mask
variable {prog:az}{w:ax}{h:au}{a:aa}{σ:List Str}{es:Array (Int×ad)}{ep:Nat}{t:bb}
theorem SmS.len(x:SmS prog w h a led σ es ep t):es.size=σ.length:=by
 obtain⟨l,h1,h2⟩:=x.pm;have:=h1.length;rw[aC,cF]at this;rw[this,h2.length_eq]
theorem SmS.set(x:SmS prog w h a led σ es ep t)(hb:σ.length < eK):SetAtS prog w h a led σ:=⟨es,ep,t,x.o,x.el,x.pm,by rw[x.len];exact hb,x.fit,x.tab⟩
theorem jbb{n:Nat}(h1:t.place.size=n)(h2:t.dummies=#[])(h3:n<=t.mask):t.fits n=true:=by
 unfold Dp H_;simp[h1,h2,h3]
theorem jco{bD:Array (Int×ad)}(p:bD.toList.Perm es.toList)(h:∃l:List Str,StrsAre (es.toList.map (·.2)) l/\l.Perm σ):∃l:List Str,StrsAre (bD.toList.map (·.2)) l/\l.Perm σ:=by
 obtain⟨l,h1,h2⟩:=h;obtain⟨l',j1,j2⟩:=Jb h1 (p.map (·.2));exact⟨l',j1,j2.trans h2⟩
variable {A:aM}{E:ad->af->Prop}{s:af}
section
theorem Z3{bD:Array (Int×ad)}{t':bb}(ho:h.get? a=some (kh es ep t)):(h.update a (on bD t')).get? a=some (kh bD (ep+1) t'):=by
 have:=Dx (on bD t') ho (by rw[Dg bD t' rfl];rfl);rw[Dg bD t' rfl]at this;exact this
theorem jel{more:Nat}{Q:Unit->af->Prop}(x:SmS prog w s.heap a led σ es ep t)(hz:σ.length+more<=15)
  (h:∀h' bD eD t',cr a s.heap h'->SmS prog w h' a led σ bD eD t'->σ.length+more<=t'.mask->t'.fill=σ.length->Q () { s with heap:=h' }):ah (am prog w) A (setRoomFor a more) Q E s:=by
 have hlen:=x.len
 have iY:t.fill=es.size:=by
  have:=x.fit;unfold Dp at this;rw[cm]at this;have h1:t.place.size=es.size:=by simpa using this.1
  unfold H_;rw[x.tab.none_,h1];rfl
 unfold setRoomFor
 refine ae (cS x.o rfl x.fit ?_)
 dsimp only
 cases hr:t.roomFor more with
 | none=>
  dsimp only
  refine aq (h s.heap es ep t (iH a s.heap) x ?_ (by rw[iY,hlen]))
  unfold Rn at hr
  split at hr
  .cases hr
  .rename_i hn
   rw[iY,hlen]at hn
   omega
 | some wanted=>
  dsimp only
  have hw:wanted=(es.size+more) * 2:=by
   unfold Rn at hr;split at hr
   .have:t.place.size=es.size:=by
     have:=x.fit;unfold Dp at this;rw[cm]at this;simpa using this.1
    rw[this]at hr;exact (bZ hr).symm
   .cases hr
  obtain⟨m1,m2,m3⟩:=jaD wanted (by omega)
  obtain⟨t',o,e1,e2,e3,e4,e5⟩:=Zq (finger:=t.finger) (moves:=t.movedTo (lx wanted - 1)) (led:=t.led) (plain:=t.plain) m1 (es.map (·.1)) (by rw[D3];omega)
  rw[D3]at e2 e3
  rw[x.tab.led_]at e5
  obtain⟨p1,p2⟩:=JO e2
  unfold setRelay
  refine ae (cS x.o rfl x.fit ?_)
  dsimp only
  rw[Tt (by rw[eJ];omega)]
  show ah _ _ ((match t.relaid (es.map (·.1)) wanted with | some (t,lL)=>(if ((lL.filterMap (es[·]?)).size != es.size)=true then unsupported "internal:set-table-lost-an-element" >>= fun _=>pure (lL.filterMap (es[·]?),t) else pure (lL.filterMap (es[·]?),t)) | _=>unsupported "internal:set-table-without-room") >>= _) _ _ _
  rw[show t.relaid (es.map (·.1)) wanted=some (t',o) from e1]
  dsimp only
  rw[Tt (by rw[p2];simp)]
  refine ae (aq ?_)
  dsimp only
  refine rB x.o rfl ?_ (by rw[p2,hlen,eJ];omega)
  refine h _ _ _ _ (mG s.heap a _) ⟨Z3 x.o,x.el.perm p1,jco p1 x.pm,jbb (by rw[e3,p2]) e5.none_ (by rw[p2,e4];omega),e5,by rw[e4];exact m1⟩ (by rw[e4];omega) ?_
  unfold H_
  rw[e3,e5.none_,hlen]
  rfl
end
section
theorem jbo{Q:Bool->af->Prop}(h:Q (w.params.followText "set-order") s):ah (am prog w) A vG Q E s:=by
 unfold vG;exact ae (mz (aq h))
theorem jd7{Q:Array (Int×ad)->af->Prop}(ho:s.heap.get? a=some (kh es ep t))(hf:t.fits es.size=true)(ht:TabOk (ledOf w) t)(hd:w.params.followText "set-order" = true\/yE es t=false)
  (h:∀fI:Array (Int×ad),fI.toList.Perm es.toList->Q fI s):ah (am prog w) A (Df a) Q E s:=by
 unfold Df
 refine ae (cS ho rfl hf ?_)
 dsimp only
 refine ae (jbo ?_)
 cases hb:w.params.followText "set-order" with
 | true=>
  simp only[if_true]
  exact ae (mz (aq (h _ (Zm _ _))))
 | false=>
  rcases hd with hd | hd
  .rw[hb]at hd;cases hd
  rw[Tt bF]
  show ah _ _ (if yE es t=true then _ else _) _ _ _
  rw[hd,Tt bF]
  have hl:t.led=true:=by rw[ht.led_];unfold ledOf;rw[hb];rfl
  show ah _ _ ((if (!t.led && decide (es.size > 1))=true then unsupported "set:maker-not-led" else pure ()) >>= fun _=>pure es) _ _ _
  rw[hl,Tt (by simp)]
  exact ae (aq (aq (h es (oC _))))
theorem jaK:∀(oS:List aa) {Q:Bool->af->Prop},(∀a∈oS,∃es ep t,s.heap.get? a=some (kh es ep t)/\t.fits es.size=true/\∀e∈es.toList,∃x k,e.2=.str x k)->Q true s->ah (am prog w) A (setsQuiet oS) Q E s:=by
 intro oS Q hs h;unfold setsQuiet;refine ae ?_;refine GV _ (fun qV r s'=>r.1=none/\s'=s/\∀a∈qV,a∈oS) _ ?_ ?_ oS _ ⟨rfl,rfl,fun a h=>h⟩
 .rintro a qV r s' ⟨hr,rfl,nA⟩
  obtain⟨es,ep,t,ho,hf,gk⟩:=hs a (nA a bt);unfold Hf;refine ae (ae (cS ho rfl hf (aq ?_)));dsimp only;refine ae ?_;rw[<- Tl];refine GV _ (fun Eu r' fU=>r'.1=none/\fU=s'/\∀e∈Eu,e∈es.toList) _ ?_ ?_ es.toList _ ⟨rfl,rfl,fun e h=>h⟩
  .rintro e Eu r' fU ⟨dG,rfl,F3⟩
   obtain⟨x,k,ex⟩:=gk e (F3 e bt);obtain⟨e1,e2⟩:=e;dsimp only at ex;subst ex;refine aq ?_;exact⟨rfl,rfl,fun e h=>F3 e (bu _ h)⟩
  .rintro⟨r1,r2⟩ fU ⟨dG,rfl,_⟩
   dsimp only at dG;subst dG;exact aq ⟨rfl,rfl,fun a h=>nA a (bu _ h)⟩
 .rintro⟨r1,r2⟩ s' ⟨hr,rfl,_⟩
  dsimp only at hr;subst hr;exact aq h
theorem Jz{l:List Str}(h:StrsAre (es.toList.map (·.2)) l):∀e∈es.toList,∃x k,e.2=.str x k:=fun e he=>h.all e.2 (ck.mpr ⟨e,he,rfl⟩)
end
section
theorem jav{S o:aa}{σs σo:List Str}{eo:Array (Int×ad)}{eq:Nat}{to:bb}{Q:Array (Int×ad)->af->Prop}(aW:S≠o)(x:SmS prog w s.heap S (ledOf w) σs es ep t)(ho:s.heap.get? o=some (kh eo eq to))(iX:to.fits eo.size=true)(lP:TabOk (ledOf w) to)(lR:StrsAre (eo.toList.map (·.2)) σo)(hz:σs.length < 1000)
  (h:∀fI h' eD t',fI.toList.Perm eo.toList->cr S s.heap h'->SmS prog w h' S (ledOf w) σs es eD t'->Q fI { s with heap:=h' }):ah (am prog w) A (setWalkUnseen o [S] (some S)) Q E s:=by
 unfold setWalkUnseen
 refine ae (cS ho rfl iX ?_)
 dsimp only
 refine ae (jbo ?_)
 by_cases hc:(w.params.followText "set-order" || (to.led && to.plain) || decide (eo.size<=1))=true
 .rw[Tu hc]
  refine jd7 ho iX lP ?_ fun fI ha=>h fI s.heap ep t ha (iH S s.heap) x
  rw[mR,mR]at hc
  rcases hc with (hc | hc) | hc
  .exact .inl hc
  .right
   rw[cm]at hc
   unfold yE
   rw[hc.2]
   rfl
  .right
   have:=Tq hc
   unfold yE
   rw[Ts (by omega),Lp]
 .rw[Tt hc]
  refine ae (jaK [o,S] (fun a ha=>?_) ?_)
  .rcases aN.mp ha with rfl | ha
   .exact⟨eo,eq,to,ho,iX,Jz lR⟩
   .rw[bf.mp ha]
    obtain⟨l,hl,_⟩:=x.pm
    exact⟨es,ep,t,x.o,x.fit,Jz hl⟩
  rw[Tt (by decide)]
  refine ae (iz ?_)
  try dsimp only
  refine ae (cS x.o rfl x.fit ?_)
  dsimp only
  split
  .refine ae (rB x.o rfl ?_ (by rw[x.len,eJ];omega))
   refine aq (h eo _ (ep+1) { t with led:=t.led && to.led,plain:=t.plain && to.plain } (oC _) (mG s.heap S _) ⟨Z3 x.o,x.el,x.pm,x.fit,⟨?_,x.tab.none_,x.tab.up⟩,x.sm⟩)
   show (t.led && to.led)=_
   rw[x.tab.led_,lP.led_]
   cases ledOf w <;> rfl
  .exact aq (h eo s.heap ep t (oC _) (iH S s.heap) x)
theorem Ys{S o:aa}{σs σo:List Str}{each:Sem Unit}{Q:Unit->af->Prop}(aW:S≠o)(x:SmS prog w s.heap S (ledOf w) σs es ep t)(ho:SetAtS prog w s.heap o (ledOf w) σo)(EJ:σs.Nodup)(L9:σo.Nodup)(hz:σs.length+σo.length<=15)
  (Ob:∀(s':af) {Q':Unit->af->Prop},(∀ob,s.heap.get? o=some ob->s'.heap.get? o=some ob)->Q' () s'->ah (am prog w) A each Q' E s')
  (h:∀h' σ',cr S s.heap h'->SetAtS prog w h' S (ledOf w) σ'->σ'.Nodup->(∀y,y∈σ'↔y∈σs\/y∈σo)->((σs=[]\/σo=[])->∃bD eD t',SmS prog w h' S (ledOf w) σ' bD eD t')->Q () { s with heap:=h' }):ah (am prog w) A (setMerge S o each) Q E s:=by
 obtain⟨eo,eq,to,ic,A2,⟨lo,dH,pG⟩,hbo,iX,lP⟩:=ho
 have hlen:eo.size=σo.length:=by
  have h1:=dH.length;rw[aC,cF]at h1;rw[h1,pG.length_eq]
 unfold setMerge
 rw[Tt (by simpa using aW)]
 refine ae (cS ic rfl iX ?_)
 dsimp only
 by_cases he:eo.isEmpty=true
 .rw[Tu he]
  have h0:σo=[]:=by
   have:eo.size=0:=by simpa using he
   exact DW.mp (by omega)
  subst h0
  exact aq (h s.heap σs (iH S s.heap) (x.set (by unfold eK;omega)) EJ (fun y=>by simp) fun _=>⟨es,ep,t,x⟩)
 rw[Tt he]
 refine ae (jel (more:=eo.size) x (by omega) fun h1 cB ep1 t1 lJ x1 AM FS=>?_)
 have dW:h1.get? o=some (kh eo eq to):=(lJ.2 o (br aW)).trans ic
 refine ae (cS (s:={ s with heap:=h1 }) x1.o rfl x1.fit ?_)
 dsimp only
 have EX:(t1.led && to.led)=ledOf w:=by rw[x1.tab.led_,lP.led_];cases ledOf w <;> rfl
 unfold bb.road
 by_cases iY:(t1.fill != 0)=true
 .rw[Tu iY]
  dsimp only
  refine ae (jav (s:={ s with heap:=h1 }) aW x1 dW iX lP dH (by omega) fun fI h2 uf t2 ha sY x2=>?_)
  have tP:h2.get? o=some (kh eo eq to):=(sY.2 o (br aW)).trans dW
  have Lv:=x2.set (by unfold eK;omega)
  have ND:∀e∈fI.toList,∃v k,v∈σo/\e.2=.str v k/\e.1=(cT prog w).hash v:=fun e ij=>by
   have ig:=ha.mem_iff.mp ij;obtain⟨v,k,ev⟩:=Jz dH e ig;obtain⟨⟨kk,FL,nq⟩,_⟩:=A2 e ig;rw[ev]at FL;have:v=kk:=(cT prog w).inj _ _ _ (nW prog w v k) FL;subst this;refine⟨v,k,pG.mem_iff.mp ((Yd dH).mpr ⟨k,?_⟩),ev,nq⟩;rw[<- ev];exact ck.mpr ⟨e,ig,rfl⟩
  have h9:fI.toList.length=σo.length:=by rw[ha.length_eq,cF,hlen]
  refine ae ?_
  rw[<- Tl]
  refine GV _ (fun qV _ s'=>∃h' σ',s'={ s with heap:=h' }/\cr S h2 h'/\SetAtS prog w h' S (ledOf w) σ'/\σ'.Nodup/\(∀y∈σs,y∈σ')/\(∀y∈σ',y∈σs\/y∈σo)/\(∃done,fI.toList=done++qV/\(∀e∈done,∀v k,e.2=.str v k->v∈σ'))/\σ'.length+qV.length<=30) _ ?_ ?_ fI.toList _ ⟨h2,σs,rfl,iH S h2,Lv,EJ,fun y hy=>hy,fun y hy=>.inl hy,⟨[],rfl,fun e ij=>by cases ij⟩,by omega⟩
  .rintro⟨hh,v0⟩ qV _ s' ⟨h',σ',rfl,sZ,dC,tf,a1,a2,⟨done,ed,a3⟩,al⟩
   obtain⟨v,k,hv,ev,eh⟩:=ND (hh,v0) (by rw[ed];exact b4 _ bt)
   dsimp only at ev eh
   subst ev eh
   dsimp only
   rw[bo]at al
   refine ae (dr (Yi (s:={ s with heap:=h' }) dC (by unfold eK;omega) fun b h3 sX nB=>?_))
   have tO:h3.get? o=some (kh eo eq to):=(sX.2 o (br aW)).trans ((sZ.2 o (br aW)).trans tP)
   refine ae (Ob { s with heap:=h3 } (fun ob e=>by rw[ic]at e;cases e;exact tO) ?_)
   refine ae (cS (s:={ s with heap:=h3 }) tO rfl iX ?_)
   dsimp only
   rw[Tt (by simp)]
   refine aq ?_
   refine⟨h3,_,rfl,sZ.trans sX,nB,?_,fun y hy=>?_,fun y hy=>?_,⟨done++[((cT prog w).hash v,.str v k)],by rw[ed,em];rfl,fun e ij v' k' Bv=>?_⟩,?_⟩
   .split
    .exact tf
    .rename_i hn
     exact g5.mpr ⟨tf,by simp,fun a ub b aJ=>by rw[bf.mp aJ];intro z;exact hn (by rw[<- z];exact ub)⟩
   .split
    .exact a1 y hy
    .exact wc _ (a1 y hy)
   .split at hy
    .exact a2 y hy
    .rcases bB.mp hy with g | g
     .exact a2 y g
     .rw[bf.mp g];exact .inr hv
   .rcases bB.mp ij with g | g
    .have:=a3 e g v' k' Bv
     split
     .exact this
     .exact wc _ this
    .rw[bf.mp g]at Bv
     cases Bv
     split
     .assumption
     .exact b4 _ (bf.mpr rfl)
   .split
    .omega
    .rw[aO];simp only[bo,mM];omega
  .rintro _ s' ⟨h',σ',rfl,sZ,dC,tf,a1,a2,⟨done,ed,a3⟩,_⟩
   rw[dl]at ed
   refine aq (h h' σ' (lJ.trans (sY.trans sZ)) dC tf (fun y=>⟨a2 y,fun g=>?_⟩) fun g=>?_)
   .rcases g with g | g
    .exact a1 y g
    .obtain⟨k,hk⟩:=(Yd dH).mp (pG.mem_iff.mpr g)
     obtain⟨e,ij,ee⟩:=ck.mp hk
     exact a3 e (by rw[<- ed];exact ha.mem_iff.mpr ij) y k ee
   .rcases g with g | g
    .rw[g]at FS
     rw[FS]at iY
     cases iY
    .rw[g]at hlen
     exact absurd (by simpa using hlen) he
 .rw[Tt iY]
  have Ng:σs=[]:=by
   have:t1.fill=0:=by simpa using iY
   exact DW.mp (by omega)
  subst Ng
  have fin:∀h' bD eD t',cr S s.heap h'->SmS prog w h' S (ledOf w) σo bD eD t'->Q () { s with heap:=h' }:=fun h' bD eD t' sb x'=>h h' σo sb (x'.set (by unfold eK;omega)) L9 (fun y=>by simp) fun _=>⟨bD,eD,t',x'⟩
  rw[mM,mI]at AM
  by_cases hmask:(t1.mask == to.mask && to.dummies.isEmpty)=true
  .rw[Tu hmask]
   dsimp only
   have NE:t1.mask=to.mask:=by
    rw[cm]at hmask;simpa using hmask.1
   refine rB (s:={ s with heap:=h1 }) x1.o rfl ?_ (by rw[hlen,eJ];omega)
   exact fin _ eo _ { to with finger:=t1.finger,led:=t1.led && to.led,moves:=t1.moves,plain:=t1.plain && to.plain } (lJ.trans (mG h1 S _)) ⟨Z3 x1.o,A2,⟨lo,dH,pG⟩,iX,⟨EX,lP.none_,lP.up⟩,by show qJ to.mask;rw[<- NE];exact x1.sm⟩
  .rw[Tt hmask]
   dsimp only
   obtain⟨t',od,e1,e2,e3,e4,e5⟩:=Zq (finger:=t1.finger) (moves:=t1.moves) (led:=t1.led && to.led) (plain:=t1.plain && to.plain) x1.sm (eo.map (·.1)) (by rw[D3];omega)
   rw[D3]at e2 e3
   rw[EX]at e5
   obtain⟨p1,p2⟩:=JO e2
   show ah _ _ ((match oh t1.mask t1.finger t1.moves (t1.led && to.led) (t1.plain && to.plain) (eo.map (·.1)) with | some (t,lL)=>(if ((lL.filterMap (eo[·]?)).size != eo.size)=true then unsupported "internal:set-table-lost-an-element" >>= fun _=>pure (lL.filterMap (eo[·]?),t) else pure (lL.filterMap (eo[·]?),t)) | _=>unsupported "internal:set-table-without-room") >>= _) _ _ _
   rw[e1]
   dsimp only
   rw[Tt (by rw[p2];simp)]
   refine ae (aq ?_)
   dsimp only
   refine rB (s:={ s with heap:=h1 }) x1.o rfl ?_ (by rw[p2,hlen,eJ];omega)
   exact fin _ _ _ _ (lJ.trans (mG h1 S _)) ⟨Z3 x1.o,A2.perm p1,jco p1 ⟨lo,dH,pG⟩,jbb (by rw[e3,p2]) e5.none_ (by rw[p2,e4];omega),e5,by rw[e4];exact x1.sm⟩
end
end L2
namespace PySem.F
theorem entry_set_or:entryFor table "set.__or__" = some Builtin.«frozenset.__or__»:=
 entryFor_alias (id':="frozenset.__or__") (by kernel_rfl) (by first | rfl | decide +kernel | (unfold String.splitOn;simp +decide [String.splitOnAux])) (by decide +kernel) (by kernel_rfl)
end PySem.F
namespace L2
open PySem PySem.Spec PyProof.Rows PySem.W
theorem Zo{α:Type}[DecidableEq α]:∀{l l':List α},l.Nodup->(∀y∈l,y∈l')->l.length<=l'.length
 | [],_,_,_=>bA _
 | a :: l,l',nd,h=>by
  obtain⟨n1,n2⟩:=cW.mp nd;have ha:=h a bt;have:=Zo (l':=l'.erase a) n2 fun y hy=>(SS (fun z=>n1 (by rw[<- z];exact hy))).mpr (h y (bu _ hy))
  have e:=SZ ha;have hp:0 < l'.length:=SY ha;rw[bo];omega
variable {a:aa}{Q:ad->af->Prop}
section
variable {prog:az}{w:ax}{A:aM}{E:ad->af->Prop}{s:af}
theorem jam{Q:Bool->af->Prop}(h:s.TypeIs (.ref a) "set")(q:Q true s):ah (am prog w) A (II (.ref a)) Q E s:=by
 unfold II;refine ae (vE (T:="set") (b:=true) h RE ?_);exact aq q
theorem jfu(h:s.TypeIs (.ref a) "set")(q:Q (.type "set") s):ah (am prog w) A (R6 a) Q E s:=by
 unfold R6;refine ae (vE (T:="set") (b:=true) h RE ?_);exact aq q
theorem jcs(q:Q (.ref s.heap.objs.size) { s with heap:=s.heap.push (kh #[] 0 (.fresh 0 0 (ledOf w))) }):ah (am prog w) A (newSet (.type "set")) Q E s:=by
 unfold newSet vG;refine ae (ae (mz (aq ?_)));dsimp only;simp only[newObj];exact ae (wpAny_alloc (aq q))
theorem ja8{h:au}(e:h.get? a=some (kh #[] 0 (.fresh 0 0 (ledOf w)))):SmS prog w h a (ledOf w) [] #[] 0 (.fresh 0 0 (ledOf w)):=
 ⟨e,fun e he=>by simp at he,⟨[],.nil,.nil⟩,rfl,⟨rfl,rfl,List.Pairwise.nil⟩,.inl rfl⟩
theorem jao{Q:aa->af->Prop}(q:Q a s):ah (am prog w) A (Builtin.Frozenset.addrOf (.ref a)) Q E s:=aq q
theorem Zi{es:Array (Int×ad)}{ep:Nat}{t:bb}{Q:Nat->af->Prop}(ho:s.heap.get? a=some (kh es ep t))(hf:t.fits es.size=true)(q:Q ep s):ah (am prog w) A (setEpoch a) Q E s:=by
 unfold setEpoch;exact ae (cS ho rfl hf (aq q))
theorem SetAtS.type{h:au}{led:Bool}{σ:List Str}(x:SetAtS prog w h a led σ):∃es ep t,h.get? a=some (kh es ep t)/\t.fits es.size=true:=by
 obtain⟨es,ep,t,e,_,_,_,hf,_⟩:=x;exact⟨es,ep,t,e,hf⟩
theorem jg5{b:aa}{σ1 σ2:List Str}(ha:SetAtS prog w s.heap a (ledOf w) σ1)(hb:SetAtS prog w s.heap b (ledOf w) σ2)(n1:σ1.Nodup)(n2:σ2.Nodup)(hz:σ1.length+σ2.length<=15)
  (h:∀h' σ',(∀c o,s.heap.get? c=some o->h'.get? c=some o)->SetAtS prog w h' s.heap.objs.size (ledOf w) σ'->σ'.Nodup->(∀y,y∈σ'↔y∈σ1\/y∈σ2)->Q (.ref s.heap.objs.size) { s with heap:=h' }):ah (am prog w) A (call (.builtin "set.__or__") [.ref a,.ref b]) (fun v s'=>v≠.notImplemented/\Q v s') E s:=by
 obtain⟨ea,pa,ta,oa,fa⟩:=ha.type
 obtain⟨eb,pb,tb,ob,fb⟩:=hb.type
 have Ta:s.TypeIs (.ref a) "set":=⟨_,oa,rfl⟩
 have Tb:s.TypeIs (.ref b) "set":=⟨_,ob,rfl⟩
 refine iA RF Ta PySem.F.entry_set_or ?_ (PySem.F.args_set_or_2 _ _)
 show ah _ _ (Builtin.Frozenset.slot1 "__or__" ⟨[.ref a,.ref b],[]⟩ >>= _) _ _ _
 refine ae (vD (a:=(Value.ref a,Value.ref b)) rfl ?_)
 simp only[sL,if_false]
 refine ae ?_
 unfold andM
 refine ae (jam Ta ?_)
 show ah _ _ (II (.ref b)) _ _ _
 refine jam Tb ?_
 rw[Tt (by decide)]
 show ah _ _ ((R5 a >>= _) >>= _) _ _ _
 refine ae (ae ?_)
 unfold R5
 refine ae (jfu Ta ?_)
 refine ae (jcs ?_)
 have eS:(s.heap.push (kh #[] 0 (.fresh 0 0 (ledOf w)))).get? s.heap.objs.size=some (kh #[] 0 (.fresh 0 0 (ledOf w))):=bV _ rfl
 have o9:∀c o,s.heap.get? c=some o->(s.heap.push (kh #[] 0 (.fresh 0 0 (ledOf w)))).get? c=some o:=fun c o e=>aQ _ e
 have My:s.heap.objs.size≠a:=fun z=>absurd (aL oa) (by rw[z];exact g0 _)
 have Mw:s.heap.objs.size≠b:=fun z=>absurd (aL ob) (by rw[z];exact g0 _)
 generalize s.heap.push (kh #[] 0 (.fresh 0 0 (ledOf w)))=h1 at *
 refine ae (jao ?_)
 refine ae (Ys (s:={ s with heap:=h1 }) (each:=pure ()) My (ja8 eS) (ha.kept fun o e=>o9 a o e) fO n1 (by rw[mM];omega) (fun s' Q' _ q=>aq q) fun h2 σ' sY _ gG m2 LK=>?_)
 obtain⟨Bw,uf,t2,x2⟩:=LK (.inl rfl)
 refine aq ?_
 have xU:∀y,y∈σ'↔y∈σ1:=fun y=>by rw[m2];simp
 have l2:σ'.length<=σ1.length:=Zo gG fun y hy=>(xU y).mp hy
 have fW:∀c o,s.heap.get? c=some o->h2.get? c=some o:=fun c o e=>(sY.2 c (aT (aL e))).trans (o9 c o e)
 by_cases bI:((Value.ref b != Value.ref a)=true)
 .show ah _ _ (if (Value.ref b != Value.ref a)=true then _ else _) _ _ _
  rw[Tu bI]
  refine ae (jao ?_)
  refine ae (dr ?_)
  unfold R4
  refine ae (jam (s:={ s with heap:=h2 }) ⟨_,fW _ _ ob,rfl⟩ ?_)
  rw[Tu rfl]
  refine ae (jao ?_)
  unfold Builtin.Frozenset.merge
  refine ae (Zi (s:={ s with heap:=h2 }) (fW _ _ ob) fb ?_)
  refine Ys (s:={ s with heap:=h2 }) Mw x2 (hb.kept fun o e=>fW b o e) gG n2 (by omega) (fun s' Q' hk q=>?_) fun h3 σ3 sX nB Mc m3 _=>?_
  .unfold Builtin.Frozenset.unchanged
   refine ae (Zi (hk _ (fW _ _ ob)) fb ?_)
   rw[Tt (by simp)]
   exact aq q
  .refine aq (aq ⟨_,rfl,(fun z=>by cases z),h h3 σ3 (fun c o e=>(sX.2 c (aT (aL e))).trans (fW c o e)) nB Mc fun y=>by rw[m3,xU]⟩)
 .show ah _ _ (if (Value.ref b != Value.ref a)=true then _ else _) _ _ _
  rw[Tt bI]
  have e:b=a:=by simpa using bI
  subst e
  have:σ2.Perm σ1:=by
   obtain⟨_,_,_,z1,_,⟨l1,k1,p1⟩,_⟩:=ha;obtain⟨_,_,_,z2,_,⟨l2',k2,p2⟩,_⟩:=hb;rw[z1]at z2
   cases z2
   have e1:=k1.strs;have e2:=k2.strs;rw[e1]at e2;subst e2;exact p2.symm.trans p1
  refine aq (aq ⟨_,rfl,(fun z=>by cases z),h h2 σ' fW (x2.set (by unfold eK;omega)) gG fun y=>by rw[xU,this.mem_iff];simp⟩)
end
theorem jha{X:Cx}:OpR X (eM .BitOr) (fun x y H Q=>∃(a b:aa) (σ1 σ2:List Str),x=.ref a/\y=.ref b/\H a=some (Yj X a σ1)/\H b=some (Yj X b σ2)/\σ1.Nodup/\σ2.Nodup/\σ1.length+σ2.length<=15/\∀v σ',H v=none->σ'.Nodup->(∀z,z∈σ'↔z∈σ1\/z∈σ2)->Q (.ref v) (upd H v (Yj X v σ'))):=by
 intro ac s σ H x y v u Q I rx ry h;obtain⟨a,b,σ1,σ2,rfl,rfl,ha,hb,n1,n2,hz,q⟩:=h
 cases rx
 cases ry
 have sa:SetAtS X.prog X.w s.heap a (ledOf X.w) σ1:=(I.hok a _ ha).1;have sb:SetAtS X.prog X.w s.heap b (ledOf X.w) σ2:=(I.hok b _ hb).1;obtain⟨ea,pa,ta,oa,_⟩:=sa.type;obtain⟨eb,pb,tb,ob,_⟩:=sb.type;refine wpAny_binaryOp_same (T:="set") ⟨_,oa,rfl⟩ ⟨_,ob,rfl⟩ PySem.F.fills_set_or RF (jg5 sa sb n1 n2 hz fun h' σ' hk hS nd m=>?_);have dC:=hS;obtain⟨es,ep,t,e,_⟩:=dC;exact⟨.ref s.heap.objs.size,_,I.laid (t':=s.toks) hk (aB _) (show ObjOk X.prog X.w _ _ _ (Yj X s.heap.objs.size σ') from⟨hS,⟨_,e⟩,fun h1 h2 x k=>x.kept k⟩),rfl,q _ _ (I.hok.fresh (aB _)) nd m⟩
theorem ja2{K:av}{cd:ad}{q:Str}(h:dj K cd q=true):vM K cd=true:=by
 unfold dj at h;unfold vM;split at h
 .split at h
  .rename_i e
   dsimp only;rw[e]
  .cases h
 .cases h
theorem Fun.okC{P:az}{w:ax}{K:av}{mg:Str->Option ad}{base:au}{x aX:Str}{st:aA}{f:aa}{fd:aD}{N ps:List Str}{k:Nat}{sp:Sp}(F:Fun K x aX st f fd)(S:FnScope N ps (ji st))(len:∀vs H Q E,sp vs H Q E->vs.length=ps.length)
  (im:∀(ay:ad) (A:aM) (outer:List Env) (s:af) (H:Hp) (vs:List V) (Q:VK) (E:XK),vM K ay=true->Room k (A.deeper (envOfC aX (ji st) s.heap.objs.size f ay))->sp vs H Q E->
   ∃t,QSs (j5 CX0 P w K mg base N aX (ji st) f ay A outer s H E).nox (qy st) t/\t { nx:=fun _ H'=>Q .non H',rt:=Q } (zr N vs) H):FnOk P w K mg base CX0 (k+1) f fd ps sp:=by
 obtain⟨oc,od,kV,cn,pm,an,ay,ct,fu,rfl,lk,cR⟩:=F.ex
 refine jfe lk cR S len fun A outer s H vs Q E hr cQ=>?_
 obtain⟨t,h,q⟩:=im ay A outer s H vs Q E (ja2 cR) hr cQ
 exact⟨t,h.h.nox,q⟩
theorem jdW{X:Cx}{z:Str}{j:Nat}{p1 pos:Pos}(hc:vM X.K X.env.code=true):QE X (.Set [.Constant (.str z) j p1] 0 pos) (fun _ H Q=>∀v,H v=none->Q (.ref v) (upd H v (Yj X v [z]))):=⟨by
 intro ac s σ H Q I q;rw[arm_eval_Set];refine ae (ft ?_);refine ae (kds_main I.kIn hc fun b=>?_);show ah _ _ (setDisplay .oneByOne b [(false,do let v <- eval (.Constant (.str z) j p1) X.env;j_ pos;pure v)]) _ _ _;unfold setDisplay;rw[Tt (by decide)];refine ae (jcs ?_);have eS:(s.heap.push (kh #[] 0 (.fresh 0 0 (ledOf X.w)))).get? s.heap.objs.size=some (kh #[] 0 (.fresh 0 0 (ledOf X.w))):=bV _ rfl;dsimp only;refine ae (dr ?_);refine ae (wpAny_evalAll_cons (ae (wpAny_Constant_str (ae (ft (aq (wpAny_evalAll_nil ?_)))))));refine ae (dr ?_);refine ae ?_;rw[DZ];refine ae ?_;refine ae ?_;unfold setAdd;refine dr ?_;refine ae ((cT X.prog X.w).pyHash (k:=z) (nW _ _ _ _) ?_);refine Yi (prog:=X.prog) (w:=X.w) (σ:=[]) ((ja8 (prog:=X.prog) (w:=X.w) eS).set (by decide)) (by decide) fun b' h' sb hS=>?_
 rw[Tt (by simp)]at hS;refine aq ?_;dsimp only;rw[wf];refine aq ?_;rw[Tt (by decide)];refine aq ?_;show ah _ _ (forIn ([]:List (Bool×Sem ad)) PUnit.unit _ >>= _) _ _ _;rw[wf];refine ae (aq (aq (aq ?_)));have dC:=hS;obtain⟨es,ep,t,e,_⟩:=dC;exact⟨.ref s.heap.objs.size,_,I.laid (fun c o eo=>(sb.2 c (aT (aL eo))).trans (aQ _ eo)) (aB _) (show ObjOk X.prog X.w _ _ _ (Yj X s.heap.objs.size [z]) from⟨hS,⟨_,e⟩,fun h1 h2 x k=>x.kept k⟩),rfl,q _ (I.hok.fresh (aB _))⟩⟩
end L2
namespace LW
open PySem L2
variable {n:Nat}
theorem km(h:n<=1000):n<=aF:=cP (jS h)
theorem sm(h:n.ble 1000=true):n<=aF:=km (aw h)
def jfP:TE:=fun _ _ _=>False
theorem yd{X:Cx}{e:aj}:QE X e jfP:=⟨fun _ _ _ _ _ _ h=>h.elim⟩
inductive Tm where
 | is (x:Str) | at_ (r x:Str) (d:Int)
inductive Bd where
 | is (x:Str) | row (r:Str)
inductive Cl where
 | least (a b:Tm) (c:Int) | each (t:Str) (td:Int) (u:Str) (ud:Int) (r way:Str) (b:Bd) (c:Int) | rise (t:Str) (td:Int) (u:Str) (ud:Int) (r:Str)
inductive Sm where
 | set (x:Str) (t:Tm) (c:Int) | put (r x:Str) (d:Int) (t:Tm) (c:Int) | any (x:Str) | claim (C:Cl) | call (x f:Str) (as rs:List Str)
def plD(x:Str)(d:Int):D:=.tup [.str x,.int d]
def Tm.toD:Tm->D
 | .is x=>.tup [.str "is",.str x]
 | .at_ r x d=>.tup [.str "at",.str r,plD x d]
def Bd.toD:Bd->D
 | .is x=>.tup [.str "is",.str x]
 | .row r=>.tup [.str "row",.str r]
def Cl.toD:Cl->D
 | .least a b c=>.tup [.str "least",a.toD,b.toD,.int c]
 | .each t td u ud r way b c=>.tup [.str "each",plD t td,plD u ud,.str r,.str way,b.toD,.int c]
 | .rise t td u ud r=>.tup [.str "rise",plD t td,plD u ud,.str r]
def Sm.toD:Sm->D
 | .set x t c=>.tup [.str "set",.str x,t.toD,.int c]
 | .put r x d t c=>.tup [.str "put",.str r,plD x d,t.toD,.int c]
 | .any x=>.tup [.str "any",.str x]
 | .claim C=>.tup [.str "claim",C.toD]
 | .call x f as rs=>.tup [.str "call",.str x,.str f,.tup (as.map D.str),.tup (rs.map D.str)]
def Tm.ns:Tm->List Str
 | .is x=>[x]
 | .at_ _ x _=>[x]
def Cl.ns:Cl->List Str
 | .least a b _=>a.ns++b.ns
 | .each t _ u _ _ _ b _=>[t,u]++(match b with | .is x=>[x] | .row _=>[])
 | .rise t _ u _ _=>[t,u]
def Sm.ns:Sm->List Str
 | .set x t _=>[x]++t.ns
 | .put _ x _ t _=>[x]++t.ns
 | .any x=>[x]
 | .claim C=>C.ns
 | .call x _ as _=>[x]++as
theorem Cl.ns_len:∀C:Cl,C.ns.length<=3
 | .least a b _=>by cases a <;> cases b <;> exact aw rfl
 | .each _ _ _ _ _ _ b _=>by cases b <;> (unfold Cl.ns;simp)
 | .rise _ _ _ _ _=>by unfold Cl.ns;simp
def Sm.few:Sm->Prop
 | .call _ _ as rs=>as.length<=6/\rs.length<=6
 | _=>True
variable {H:Hp}{v:V}
theorem kI{x:Int}(h:Held H (.int x) v):v=.int x:=by unfold Held at h;exact h
theorem js{ds:List D}(h:Held H (.tup ds) v):∃a xs,v=.ref a/\H a=some (.tup xs)/\HeldL H ds xs:=by unfold Held at h;exact h
theorem jv{vs:List V}(h:HeldL H [] vs):vs=[]:=by unfold HeldL at h;exact h
theorem jg{d:D}{ds:List D}{vs:List V}(h:HeldL H (d :: ds) vs):∃v r,vs=v :: r/\Held H d v/\HeldL H ds r:=by unfold HeldL at h;exact h
variable {x:Str}
theorem jA(h:Held H (.str x) v):v=.str x:=by unfold Held at h;exact h
variable {d:Int}
theorem Jv(h:Held H (plD x d) v):∃a,v=.ref a/\H a=some (.tup [.str x,.int d]):=by
 obtain⟨a,xs,rfl,ha,h1⟩:=js h;obtain⟨v1,r1,rfl,e1,h2⟩:=jg h1;obtain⟨v2,r2,rfl,e2,h3⟩:=jg h2
 cases jv h3
 cases jA e1
 cases kI e2
 exact⟨a,rfl,ha⟩
variable {y:Str}
theorem yf(h:Held H (.tup [.str x,.str y]) v):∃a,v=.ref a/\H a=some (.tup [.str x,.str y]):=by
 obtain⟨a,xs,rfl,ha,h1⟩:=js h;obtain⟨v1,r1,rfl,e1,h2⟩:=jg h1;obtain⟨v2,r2,rfl,e2,h3⟩:=jg h2
 cases jv h3
 cases jA e1
 cases jA e2
 exact⟨a,rfl,ha⟩
variable {r:Str}
theorem jhB(h:Held H (Tm.at_ r x d).toD v):∃a b,v=.ref a/\H a=some (.tup [.str "at",.str r,.ref b])/\H b=some (.tup [.str x,.int d]):=by
 obtain⟨a,xs,rfl,ha,h1⟩:=js h;obtain⟨v1,r1,rfl,e1,h2⟩:=jg h1;obtain⟨v2,r2,rfl,e2,h3⟩:=jg h2;obtain⟨v3,r3,rfl,e3,h4⟩:=jg h3
 cases jv h4
 cases jA e1
 cases jA e2
 obtain⟨b,rfl,hb⟩:=Jv e3;exact⟨a,b,rfl,ha,hb⟩
variable {a b:Tm}{c:Int}
theorem Ji(h:Held H (Cl.least a b c).toD v):∃t va vb,v=.ref t/\H t=some (.tup [.str "least",va,vb,.int c])/\Held H a.toD va/\Held H b.toD vb:=by
 obtain⟨t,xs,rfl,ht,h1⟩:=js h;obtain⟨v1,r1,rfl,e1,h2⟩:=jg h1;obtain⟨v2,r2,rfl,e2,h3⟩:=jg h2;obtain⟨v3,r3,rfl,e3,h4⟩:=jg h3;obtain⟨v4,r4,rfl,e4,h5⟩:=jg h4
 cases jv h5
 cases jA e1
 cases kI e4
 exact⟨t,v2,v3,rfl,ht,e2,e3⟩
theorem jem{e:Int}(h:Held H (Cl.rise x d y e r).toD v):∃t a b,v=.ref t/\H t=some (.tup [.str "rise",.ref a,.ref b,.str r])/\H a=some (.tup [.str x,.int d])/\H b=some (.tup [.str y,.int e]):=by
 obtain⟨t,xs,rfl,ht,h1⟩:=js h;obtain⟨v1,r1,rfl,e1,h2⟩:=jg h1;obtain⟨v2,r2,rfl,e2,h3⟩:=jg h2;obtain⟨v3,r3,rfl,e3,h4⟩:=jg h3;obtain⟨v4,r4,rfl,e4,h5⟩:=jg h4
 cases jv h5
 cases jA e1
 cases jA e4
 obtain⟨a,rfl,ha⟩:=Jv e2;obtain⟨b,rfl,hb⟩:=Jv e3;exact⟨t,a,b,rfl,ht,ha,hb⟩
theorem jfk{way:Str}{e:Int}{bd:Bd}(h:Held H (Cl.each x d y e r way bd c).toD v):∃t a b vb,v=.ref t/\H t=some (.tup [.str "each",.ref a,.ref b,.str r,.str way,.ref vb,.int c])/\H a=some (.tup [.str x,.int d])/\H b=some (.tup [.str y,.int e])/\H vb=some (.tup (match bd with | .is z=>[.str "is",.str z] | .row z=>[.str "row",.str z])):=by
 obtain⟨t,xs,rfl,ht,h1⟩:=js h;obtain⟨v1,r1,rfl,e1,h2⟩:=jg h1;obtain⟨v2,r2,rfl,e2,h3⟩:=jg h2;obtain⟨v3,r3,rfl,e3,h4⟩:=jg h3;obtain⟨v4,r4,rfl,e4,h5⟩:=jg h4;obtain⟨v5,r5,rfl,e5,h6⟩:=jg h5;obtain⟨v6,r6,rfl,e6,h7⟩:=jg h6;obtain⟨v7,r7,rfl,e7,h8⟩:=jg h7
 cases jv h8
 cases jA e1
 cases jA e4
 cases jA e5
 cases kI e7
 obtain⟨a,rfl,ha⟩:=Jv e2;obtain⟨b,rfl,hb⟩:=Jv e3
 cases bd with
 | is z=>
  obtain⟨vb,rfl,lN⟩:=yf e6;exact⟨t,a,b,vb,rfl,ht,ha,hb,lN⟩
 | row z=>
  obtain⟨vb,rfl,lN⟩:=yf e6;exact⟨t,a,b,vb,rfl,ht,ha,hb,lN⟩
abbrev jgp(H:Hp)(Q:VK)(xs:List Str):Prop:=∀l H',Same H H'->H l=none->H' l=some (.lst (xs.map V.str))->Q (.ref l) H'
def ZW:Sp:=fun vs H Q _=>∃(v:V) (t:Tm),vs=[v]/\Held H t.toD v/\jgp H Q t.ns
def jaC:Sp:=fun vs H Q _=>∃(v:V) (C:Cl),vs=[v]/\Held H C.toD v/\jgp H Q C.ns
def Kk:Sp:=fun vs H Q _=>∃(a:aa) (eA:List V) (Cs:List Cl),vs=[.ref a]/\H a=some (.tup eA)/\HeldL H (Cs.map Cl.toD) eA/\Cs.length<=100/\jgp H Q (Cs.flatMap Cl.ns)
theorem jbz(h:n<=10000):n < aF:=v8 h (by decide)
theorem jg4(h:n<=10000):n<=aF:=cP (jbz h)
inductive Fo(α:Type) where
 | leaf (S:Sm) | ite (a b:Tm) (c:Int) (x y:List α) | whl (a b:Tm) (c:Int) (ks:List Cl) (x:List α)
def StN:Nat->Type
 | 0=>Empty
 | n+1=>Fo (StN n)
inductive Nd where
 | leaf (S:Sm) | ite (a b:Tm) (c:Int) (x y:List D) | whl (a b:Tm) (c:Int) (ks:List Cl) (x:List D)
def Nd.toD:Nd->D
 | .leaf S=>S.toD
 | .ite a b c x y=>.tup [.str "if",(Cl.least a b c).toD,.tup x,.tup y]
 | .whl a b c ks x=>.tup [.str "while",(Cl.least a b c).toD,.tup (ks.map Cl.toD),.tup x]
def Nd.ns:Nd->List Str
 | .leaf S=>S.ns
 | .ite a b c _ _=>(Cl.least a b c).ns
 | .whl a b c ks _=>(Cl.least a b c :: ks).flatMap Cl.ns
def Nd.bods:Nd->List (List D)
 | .leaf _=>[]
 | .ite _ _ _ x y=>[x,y]
 | .whl _ _ _ _ x=>[x]
def Nd.few:Nd->Prop
 | .leaf S=>S.few
 | .whl _ _ _ ks _=>ks.length<=20
 | _=>True
def Fo.nd{α:Type}(f:α->D):Fo α->Nd
 | .leaf S=>.leaf S
 | .ite a b c x y=>.ite a b c (x.map f) (y.map f)
 | .whl a b c ks x=>.whl a b c ks (x.map f)
def Fo.bods{α:Type}:Fo α->List (List α)
 | .leaf _=>[]
 | .ite _ _ _ x y=>[x,y]
 | .whl _ _ _ _ x=>[x]
theorem Fo.nd_bods{α:Type}(f:α->D):∀s:Fo α,(s.nd f).bods=s.bods.map fun x=>x.map f
 | .leaf _=>rfl
 | .ite _ _ _ _ _=>rfl
 | .whl _ _ _ _ _=>rfl
def stD:(n:Nat)->StN n->D
 | 0=>fun e=>nomatch (show Empty from e)
 | n+1=>fun s=>(Fo.nd (stD n) s).toD
def ZV{n:Nat}(s:StN (n+1)):Nd:=Fo.nd (stD n) s
def kP{n:Nat}(s:StN (n+1)):List (List (StN n)):=Fo.bods s
theorem jcZ(s:StN (n+1)):(ZV s).bods=(kP s).map fun x=>x.map (stD n):=Fo.nd_bods (stD n) s
def kN:(n:Nat)->List (StN n)->List Nd
 | 0=>fun _=>[]
 | n+1=>fun l=>l.flatMap fun (s:StN (n+1))=>ZV s :: (kP s).flatMap (kN n)
theorem jh2{l:List (StN 0)}:l=[]:=by
 cases l with
 | nil=>rfl
 | cons e _=>exact nomatch (show Empty from e)
theorem KB(s:StN (n+1))(l:List (StN (n+1))):kN (n+1) (s :: l)=(ZV s :: (kP s).flatMap (kN n))++kN (n+1) l:=rfl
theorem jbp{n:Nat}:∀(l r:List (StN (n+1))),kN (n+1) (l++r)=kN (n+1) l++kN (n+1) r
 | [],r=>rfl
 | s :: l,r=>by rw[bW,KB,KB,jbp l r,em]
theorem ZL{l:List (StN (n+1))}{i:Nat}(hi:i < l.length):kN (n+1) (l.take (i+1))=kN (n+1) (l.take i)++(ZV l[i] :: (kP l[i]).flatMap (kN n)):=by
 rw[show l.take (i+1)=l.take i++[l[i]] by rw[cE,aI hi];rfl,jbp,KB];exact Tw _ (dl _)
theorem zz{α β:Type}(f:α->List β):∀(l:List α) (i:Nat),((l.take i).flatMap f).length<=(l.flatMap f).length
 | [],i=>by simp
 | a :: l,0=>by simp
 | a :: l,i+1=>by
  rw[List.take_succ_cons,oA,oA,aO,aO];have:=zz f l i;omega
theorem JS{x y:List D}(h:Held H (Nd.ite a b c x y).toD v):∃t u p q xs ys,v=.ref t/\H t=some (.tup [.str "if",u,.ref p,.ref q])/\Held H (Cl.least a b c).toD u/\H p=some (.tup xs)/\HeldL H x xs/\H q=some (.tup ys)/\HeldL H y ys:=by
 obtain⟨t,us,rfl,ht,h1⟩:=js h;obtain⟨v1,r1,rfl,e1,h2⟩:=jg h1;obtain⟨v2,r2,rfl,e2,h3⟩:=jg h2;obtain⟨v3,r3,rfl,e3,h4⟩:=jg h3;obtain⟨v4,r4,rfl,e4,h5⟩:=jg h4
 cases jv h5
 cases jA e1
 obtain⟨p,xs,rfl,hp,hx⟩:=js e3;obtain⟨q,ys,rfl,hq,hy⟩:=js e4;exact⟨t,v2,p,q,xs,ys,rfl,ht,e2,hp,hx,hq,hy⟩
theorem ZR{ks:List Cl}{x:List D}(h:Held H (Nd.whl a b c ks x).toD v):∃t u p q xs ys,v=.ref t/\H t=some (.tup [.str "while",u,.ref p,.ref q])/\Held H (Cl.least a b c).toD u/\H p=some (.tup xs)/\HeldL H (ks.map Cl.toD) xs/\H q=some (.tup ys)/\HeldL H x ys:=by
 obtain⟨t,us,rfl,ht,h1⟩:=js h;obtain⟨v1,r1,rfl,e1,h2⟩:=jg h1;obtain⟨v2,r2,rfl,e2,h3⟩:=jg h2;obtain⟨v3,r3,rfl,e3,h4⟩:=jg h3;obtain⟨v4,r4,rfl,e4,h5⟩:=jg h4
 cases jv h5
 cases jA e1
 obtain⟨p,xs,rfl,hp,hx⟩:=js e3;obtain⟨q,ys,rfl,hq,hy⟩:=js e4;exact⟨t,v2,p,q,xs,ys,rfl,ht,e2,hp,hx,hq,hy⟩
def Nd.cls:Nd->List Cl
 | .leaf (.claim C)=>[C]
 | .leaf _=>[]
 | .ite a b c _ _=>[.least a b c]
 | .whl a b c ks _=>.least a b c :: ks
inductive spNamedN(vs:List V)(H:Hp)(Q:VK)(E:XK):Prop
 | mk (v:V) (N:Nd) (_:vs=[v]) (_:Held H N.toD v) (_:N.few) (_:jgp H Q N.ns)
end LW
namespace L2
open PySem
variable {t1 t2 u:TS}{H:Hp}
theorem zI{D:Ends}{σ:St}(h:let r2:=u;let r1:=jO t2 r2;jO t1 r1 D σ H):(jO t1 (jO t2 u)) D σ H:=h
variable {t3:TS}
theorem YE{D:Ends}{σ:St}(h:let r3:=u;let r2:=jO t3 r3;let r1:=jO t2 r2;jO t1 r1 D σ H):(jO t1 (jO t2 (jO t3 u))) D σ H:=h
variable {t4:TS}
theorem YD{D:Ends}{σ:St}(h:let r4:=u;let r3:=jO t4 r4;let r2:=jO t3 r3;let r1:=jO t2 r2;jO t1 r1 D σ H):(jO t1 (jO t2 (jO t3 (jO t4 u)))) D σ H:=h
variable {t5:TS}
theorem jcz{D:Ends}{σ:St}(h:let r5:=u;let r4:=jO t5 r5;let r3:=jO t4 r4;let r2:=jO t3 r3;let r1:=jO t2 r2;jO t1 r1 D σ H):(jO t1 (jO t2 (jO t3 (jO t4 (jO t5 u))))) D σ H:=h
variable {t6:TS}
theorem jfc{D:Ends}{σ:St}(h:let r6:=u;let r5:=jO t6 r6;let r4:=jO t5 r5;let r3:=jO t4 r4;let r2:=jO t3 r3;let r1:=jO t2 r2;jO t1 r1 D σ H):(jO t1 (jO t2 (jO t3 (jO t4 (jO t5 (jO t6 u)))))) D σ H:=h
variable {t7:TS}
theorem jiq{D:Ends}{σ:St}(h:let r7:=u;let r6:=jO t7 r7;let r5:=jO t6 r6;let r4:=jO t5 r5;let r3:=jO t4 r4;let r2:=jO t3 r3;let r1:=jO t2 r2;jO t1 r1 D σ H):(jO t1 (jO t2 (jO t3 (jO t4 (jO t5 (jO t6 (jO t7 u))))))) D σ H:=h
theorem jgQ{t8:TS}{D:Ends}{σ:St}(h:let r8:=u;let r7:=jO t8 r8;let r6:=jO t7 r7;let r5:=jO t6 r6;let r4:=jO t5 r5;let r3:=jO t4 r4;let r2:=jO t3 r3;let r1:=jO t2 r2;jO t1 r1 D σ H):(jO t1 (jO t2 (jO t3 (jO t4 (jO t5 (jO t6 (jO t7 (jO t8 u)))))))) D σ H:=h
theorem jhv{t8 t9 dN eX Ee Ed:TS}{D:Ends}{σ:St}(h:let LS:=u;let oZ:=jO Ed LS;let lK:=jO Ee oZ;let LU:=jO eX lK;let r9:=jO dN LU;let r8:=jO t9 r9;let r7:=jO t8 r8;let r6:=jO t7 r7;let r5:=jO t6 r6;let r4:=jO t5 r5;let r3:=jO t4 r4;let r2:=jO t3 r3;let r1:=jO t2 r2;jO t1 r1 D σ H):(jO t1 (jO t2 (jO t3 (jO t4 (jO t5 (jO t6 (jO t7 (jO t8 (jO t9 (jO dN (jO eX (jO Ee (jO Ed u))))))))))))) D σ H:=h
theorem y7{g:TG}{x:V}{σ:St}{b:TS}{D:Ends}(h:let E:=D;g x σ H fun σ2 H2=>b E σ2 H2):g x σ H (fun σ2 H2=>b D σ2 H2):=h
end L2
namespace LW
open PySem L2
def top(i:Nat):aA:=PySem.Challenge.pw_outlineward_k66_what_comes_first.main.body.getD i (.Pass ⟨0,0,0,0⟩)
abbrev zd:aA:=top 84
abbrev qR:aA:=top 83
abbrev qw:aA:=top 82
variable {P:az}{w:ax}{K:av}{mg:Str->Option ad}{base:au}{f:aa}{fd:aD}
section
theorem jeL(F:Fun K "term_numbers" "term_numbers" zd f fd):FnOk P w K mg base CX0 1 f fd ["term"] ZW:=by
 have sc:FnScope ["term"] ["term"] (ji zd):=fQ;refine F.okZ sc (fun ay A outer s H vs Q E hr h=>?_);obtain⟨v,t,rfl,ht,q⟩:=h;refine⟨_,(ja (jQ (jw ka (jz jE (zpv 0) jl (fun _ _=>rfl)) jy (jF _)) (jf (jr (jK (jd (jz jE (zpv 0) jl (fun _ _=>rfl)) jc)))) jC)
   (jf (jr (jK (jd (jz jE (jz jE (zpv 0) jl (fun _ _=>rfl)) jl (fun _ _=>rfl)) jc))))),?_⟩
 try dsimp only[j5]
 cases t with
 | is x=>
  obtain⟨a,rfl,ha⟩:=yf ht;refine⟨_,rfl,a,_,_,_,rfl,rfl,SqT.of ha,rfl,rfl,_,rfl,jZ (fun _=>?_) (fun d=>absurd (Tr rfl) d)⟩;exact⟨_,rfl,a,_,_,_,rfl,rfl,SqT.of ha,rfl,sm rfl,fun l hl=>q l _ (je hl _) hl jb⟩
 | at_ r x d=>
  obtain⟨a,b,rfl,ha,hb⟩:=jhB ht;refine⟨_,rfl,a,_,_,_,rfl,rfl,SqT.of ha,rfl,rfl,_,rfl,jZ (fun d=>absurd (Tq d) (by decide)) (fun _=>?_)⟩;exact⟨_,rfl,a,_,_,_,rfl,rfl,SqT.of ha,rfl,b,_,_,_,rfl,rfl,SqT.of hb,rfl,sm rfl,fun l hl=>q l _ (je hl _) hl jb⟩
theorem jdp(F:Fun K "claim_numbers" "claim_numbers" qR f fd)(i9:Fn P w K mg base 1 "term_numbers" ["term"] ZW):FnOk P w K mg base CX0 2 f fd ["claim"] jaC:=by
 have sc:FnScope ["claim","ends"] ["claim"] (ji qR):=fQ;refine F.okZ sc (fun ay A outer s H vs Q E hr h=>?_);obtain⟨v,C,rfl,hC,q⟩:=h;refine⟨_,(ja (jQ (jw ka (jz jE (zpv 0) jl (fun _ _=>rfl)) jy (jF _)) (jf (jr (jG kW (jD i9 hr (jd (jz jE (zpv 0) jl (fun _ _=>rfl)) jc)) (jD i9 hr (jd (jz jE (zpv 0) jl (fun _ _=>rfl)) jc))))) jC)
   (ja (jt (i:=1) sc.nd rfl oQ (jK (jd (jz jE (jz jE (zpv 0) jl (fun _ _=>rfl)) jl (fun _ _=>rfl)) (jd (jz jE (jz jE (zpv 0) jl (fun _ _=>rfl)) jl (fun _ _=>rfl)) jc))))
   (ja (yL (jQ (ZN (jw ka (jz jE (zpv 0) jl (fun _ _=>rfl)) jy (jF _)) (K8 (jw ka (jz jE (jz jE (zpv 0) jl (fun _ _=>rfl)) jl (fun _ _=>rfl)) jy (jF _)))).pt (jf (jr (jG kW (zpv 1) (jK (jd (jz jE (jz jE (zpv 0) jl (fun _ _=>rfl)) jl (fun _ _=>rfl)) jc))))) jC))
   (jf (jr (zpv 1)))))),?_⟩
 refine jV (σ':=[some v,none]) rfl ?_
 try dsimp only[j5]
 refine YE ?_;intro _ _ _;have oN:∀t:Tm,t.ns.length=1:=fun t=>by cases t <;> rfl
 cases C with
 | least a b c=>
  obtain⟨t,va,vb,rfl,ht,ha,hb⟩:=Ji hC;refine⟨_,rfl,t,_,_,_,rfl,rfl,SqT.of ht,rfl,rfl,_,rfl,jZ (fun _=>?_) (fun d=>absurd (Tr rfl) d)⟩;refine⟨_,rfl,t,_,_,_,rfl,rfl,SqT.of ht,rfl,va,a,rfl,ha,fun l1 H1 s1 n1 e1=>?_⟩;refine⟨_,rfl,t,_,_,_,rfl,rfl,SqT.of (s1 _ _ ht),rfl,vb,b,rfl,hb.mono s1,fun l2 H2 s2 n2 e2=>?_⟩;refine⟨l1,l2,_,_,rfl,rfl,s2 _ _ e1,e2,aU (by rw[aC,aC,oN,oN];exact (by decide:1+1<=1000)) (km (aB 1000)),fun l3 cg=>?_⟩;refine q l3 _ (s1.trans (s2.trans (je cg _))) (s1.free (s2.free cg)) ?_;rw[jb,<- bh];rfl
 | rise x d y e r=>
  obtain⟨t,a,b,rfl,ht,ha,hb⟩:=jem hC;refine⟨_,rfl,t,_,_,_,rfl,rfl,SqT.of ht,rfl,rfl,_,rfl,jZ (fun d=>absurd (Tq d) (by decide)) (fun _=>?_)⟩;refine⟨_,rfl,t,_,_,_,rfl,rfl,SqT.of ht,rfl,a,_,_,_,rfl,rfl,SqT.of ha,rfl,_,rfl,t,_,_,_,rfl,rfl,SqT.of ht,rfl,b,_,_,_,rfl,rfl,SqT.of hb,rfl,sm rfl,fun l hl=>?_⟩;have s1:=je hl (.lst [V.str x,V.str y]);have e1:upd H l (.lst [V.str x,V.str y]) l=some (.lst [V.str x,V.str y]):=jb;generalize upd H l (.lst [V.str x,V.str y])=H1 at *;refine gQ ?_;refine⟨fun σ' G=>σ'=[some (.ref t),some (.ref l)]/\G=H1,?_,?_⟩
  .exact⟨_,rfl,t,_,_,_,rfl,rfl,SqT.of (s1 _ _ ht),rfl,rfl,_,rfl,jZ (fun d=>absurd (Tq d) (by decide)) (fun _=>yj ⟨rfl,rfl⟩)⟩
  .rintro σ' G ⟨rfl,rfl⟩
   exact⟨_,rfl,q l _ s1 hl e1⟩
 | each x d y e r way bd c=>
  obtain⟨t,a,b,vb,rfl,ht,ha,hb,lN⟩:=jfk hC;refine⟨_,rfl,t,_,_,_,rfl,rfl,SqT.of ht,rfl,rfl,_,rfl,jZ (fun d=>absurd (Tq d) (by decide)) (fun _=>?_)⟩;refine⟨_,rfl,t,_,_,_,rfl,rfl,SqT.of ht,rfl,a,_,_,_,rfl,rfl,SqT.of ha,rfl,_,rfl,t,_,_,_,rfl,rfl,SqT.of ht,rfl,b,_,_,_,rfl,rfl,SqT.of hb,rfl,sm rfl,fun l hl=>?_⟩;have s1:=je hl (.lst [V.str x,V.str y]);have e1:upd H l (.lst [V.str x,V.str y]) l=some (.lst [V.str x,V.str y]):=jb;generalize upd H l (.lst [V.str x,V.str y])=H1 at *;refine gQ ?_;refine⟨fun σ' G=>σ'=[some (.ref t),some (.ref l)]/\G=H1/\∃z,bd=.row z,?_,?_⟩
  .refine⟨_,rfl,t,_,_,_,rfl,rfl,SqT.of (s1 _ _ ht),rfl,rfl,_,rfl,jZ (fun _=>?_) (fun d=>absurd (Tr rfl) d)⟩
   cases bd with
   | row z=>exact⟨_,rfl,t,_,_,_,rfl,rfl,SqT.of (s1 _ _ ht),rfl,vb,_,_,_,rfl,rfl,SqT.of (s1 _ _ lN),rfl,rfl,_,rfl,jZ (fun d=>absurd (Tq d) (by decide)) (fun _=>⟨rfl,rfl,z,rfl⟩)⟩
   | is z=>
    refine⟨_,rfl,t,_,_,_,rfl,rfl,SqT.of (s1 _ _ ht),rfl,vb,_,_,_,rfl,rfl,SqT.of (s1 _ _ lN),rfl,rfl,_,rfl,jZ (fun _=>?_) (fun d=>absurd (Tr rfl) d)⟩;refine⟨_,rfl,_,rfl,t,_,_,_,rfl,rfl,SqT.of (s1 _ _ ht),rfl,vb,_,_,_,rfl,rfl,SqT.of (s1 _ _ lN),rfl,sm rfl,fun l2 dq=>?_⟩;have s2:=je dq (.lst [V.str z]);refine⟨l,l2,_,_,rfl,rfl,s2 _ _ e1,jb,aU (aw rfl) (km (aB 1000)),fun l3 cg=>?_⟩;exact q l3 _ (s1.trans (s2.trans (je cg _))) (s1.free (s2.free cg)) jb
  .rintro σ' G ⟨rfl,rfl,z,rfl⟩
   exact⟨_,rfl,q l _ s1 hl e1⟩
theorem jbL(F:Fun K "claims_numbers" "claims_numbers" qw f fd)(CQ:Fn P w K mg base 2 "claim_numbers" ["claim"] jaC):FnOk P w K mg base CX0 3 f fd ["claims"] Kk:=by
 have sc:FnScope ["claims","told","claim"] ["claims"] (ji qw):=fQ;refine F.okZ sc (fun ay A outer s H vs Q E hr h=>?_);obtain⟨a,us,Cs,rfl,ha,gl,hlen,q⟩:=h;refine⟨_,(ja (jt (i:=1) sc.nd rfl oQ (jK jc))
   (ja (jW cb rfl (zJ (zpv 0)) (jj (i:=2) sc.nd rfl oQ) (jf (j7 (ql dL r_ rZ zB (zpv 1) (jd (jD CQ hr (jd (zpv 2) jc)) jc)))))
   (jf (jr (zpv 1))))),?_⟩
 refine jV (σ':=[some (.ref a),none,none]) rfl ?_
 try dsimp only[j5]
 refine zI ?_;intro _ _;refine⟨sm rfl,fun l hl=>?_⟩;have s1:=je hl (.lst []);have e1:upd H l (.lst []) l=some (.lst []):=jb;generalize upd H l (.lst [])=H1 at *;refine gQ ?_;have cv:=gl.length;rw[aC]at cv;refine⟨_,rfl,a,rfl,⟨_,SqT.of (s1 _ _ ha)⟩,?_⟩;refine JW (xs:=us) (fun i σ G=>∃u2,σ=[some (.ref a),some (.ref l),u2]/\Same H G/\G l=some (.lst (((Cs.take i).flatMap Cl.ns).map V.str))) ⟨none,rfl,s1,e1⟩ ?_ ?_ ?_
 .rintro i σ G _ ⟨u2,rfl,sG,_⟩
  exact SqT.of (sG _ _ ha)
 .rintro i x σ G hx ⟨u2,rfl,sG,hG⟩
  have hi:i < Cs.length:=by have:=(aY.mp hx).1;omega
  obtain⟨x',aZ,dS⟩:=gl.get (show (Cs.map Cl.toD)[i]?=some Cs[i].toD by rw[bU,aI hi];rfl);rw[hx]at aZ
  cases aZ
  have ii:((Cs.take i).flatMap Cl.ns).length<=3 * i:=by
   have:∀l:List Cl,(l.flatMap Cl.ns).length<=3 * l.length:=fun l=>by
    induction l with
    | nil=>exact bA _
    | cons c r ih=>rw[oA,aO,bo];have:=c.ns_len;omega
   have h1:=this (Cs.take i);rw[cM]at h1;omega
  refine y7 ?_;intro _;refine gQ ?_;refine⟨_,rfl,.inl ⟨rfl,_,SqL.of hG⟩,_,rfl,x,Cs[i],rfl,dS.mono sG,fun l2 G2 s2 n2 e2=>?_⟩;have bS:=s2 _ _ hG;have hn3:=Cs[i].ns_len;refine⟨l,l2,_,_,rfl,rfl,bS,e2,aU (by rw[aC,aC];omega) (km (aB 1000)),?_⟩;refine⟨_,rfl,fun b o e=>?_,?_⟩
  .rw[jp (jh e hl)];exact s2 _ _ (sG _ _ e)
  .rw[jb,cE,aI hi,oB,bh]
   simp
 rintro σ G ⟨u2,rfl,sG,hG⟩;have et:Cs.take us.length=Cs:=by rw[<- cv,cV]
 rw[et]at hG;exact⟨_,rfl,q l G sG hl hG⟩
end
abbrev zQ:aA:=top 80
abbrev qP:aA:=top 81
abbrev yw:aA:=top 79
abbrev ki:aA:=top 78
def Nd.asks:Nd->Prop
 | .leaf (.claim _)=>True
 | .leaf _=>False
 | _=>True
inductive spOwn(vs:List V)(H:Hp)(Q:VK)(E:XK):Prop
 | mk (v:V) (N:Nd) (_:vs=[v]) (_:Held H N.toD v) (_:N.asks) (_:N.few) (_:∀t us H',Same H H'->H' t=some (.tup us)->HeldL H' (N.cls.map Cl.toD) us->Q (.ref t) H')
inductive spBodies(vs:List V)(H:Hp)(Q:VK)(E:XK):Prop
 | mk (v:V) (N:Nd) (_:vs=[v]) (_:Held H N.toD v) (_:∀t us H',Same H H'->H' t=some (.tup us)->HeldL H' (N.bods.map D.tup) us->Q (.ref t) H')
inductive spAll(n:Nat)(vs:List V)(H:Hp)(Q:VK)(E:XK):Prop
 | mk (a:aa) (us:List V) (Ss:List (StN n)) (_:vs=[.ref a]) (_:H a=some (.tup us)) (_:HeldL H (Ss.map (stD n)) us) (_:(kN n Ss).length<=100) (_:∀l sQ H',Same H H'->H l=none->H' l=some (.lst sQ)->HeldL H' ((kN n Ss).map Nd.toD) sQ->Q (.ref l) H')
variable {H:Hp}{x:Str}{v:V}
theorem jcf{t:Tm}{c:Int}(h:Held H (Sm.set x t c).toD v):∃a u,v=.ref a/\H a=some (.tup [.str "set",.str x,u,.int c])/\Held H t.toD u:=by
 obtain⟨a,xs,rfl,ha,h1⟩:=js h;obtain⟨v1,r1,rfl,e1,h2⟩:=jg h1;obtain⟨v2,r2,rfl,e2,h3⟩:=jg h2;obtain⟨v3,r3,rfl,e3,h4⟩:=jg h3;obtain⟨v4,r4,rfl,e4,h5⟩:=jg h4
 cases jv h5
 cases jA e1
 cases jA e2
 cases kI e4
 exact⟨a,v3,rfl,ha,e3⟩
theorem jcn{r:Str}{d:Int}{t:Tm}{c:Int}(h:Held H (Sm.put r x d t c).toD v):∃a b u,v=.ref a/\H a=some (.tup [.str "put",.str r,.ref b,u,.int c])/\H b=some (.tup [.str x,.int d])/\Held H t.toD u:=by
 obtain⟨a,xs,rfl,ha,h1⟩:=js h;obtain⟨v1,r1,rfl,e1,h2⟩:=jg h1;obtain⟨v2,r2,rfl,e2,h3⟩:=jg h2;obtain⟨v3,r3,rfl,e3,h4⟩:=jg h3;obtain⟨v4,r4,rfl,e4,h5⟩:=jg h4;obtain⟨v5,r5,rfl,e5,h6⟩:=jg h5
 cases jv h6
 cases jA e1
 cases jA e2
 cases kI e5
 obtain⟨b,rfl,hb⟩:=Jv e3;exact⟨a,b,v4,rfl,ha,hb,e4⟩
theorem Jn{C:Cl}(h:Held H (Sm.claim C).toD v):∃a u,v=.ref a/\H a=some (.tup [.str "claim",u])/\Held H C.toD u:=by
 obtain⟨a,xs,rfl,ha,h1⟩:=js h;obtain⟨v1,r1,rfl,e1,h2⟩:=jg h1;obtain⟨v2,r2,rfl,e2,h3⟩:=jg h2
 cases jv h3
 cases jA e1
 exact⟨a,v2,rfl,ha,e2⟩
theorem qg{H:Hp}:∀{xs:List Str} {vs:List V},HeldL H (xs.map D.str) vs->vs=xs.map V.str
 | [],_,h=>jv h
 | _ :: _,_,h=>by
  obtain⟨v,r,rfl,h1,h2⟩:=jg h
  cases jA h1
  rw[qg h2];rfl
theorem jbn{f:Str}{as rs:List Str}(h:Held H (Sm.call x f as rs).toD v):∃a b c,v=.ref a/\H a=some (.tup [.str "call",.str x,.str f,.ref b,.ref c])/\H b=some (.tup (as.map V.str))/\H c=some (.tup (rs.map V.str)):=by
 obtain⟨a,xs,rfl,ha,h1⟩:=js h;obtain⟨v1,r1,rfl,e1,h2⟩:=jg h1;obtain⟨v2,r2,rfl,e2,h3⟩:=jg h2;obtain⟨v3,r3,rfl,e3,h4⟩:=jg h3;obtain⟨v4,r4,rfl,e4,h5⟩:=jg h4;obtain⟨v5,r5,rfl,e5,h6⟩:=jg h5
 cases jv h6
 cases jA e1
 cases jA e2
 cases jA e3
 obtain⟨b,xb,rfl,hb,aJ⟩:=js e4;obtain⟨c,xc,rfl,hc,bC⟩:=js e5
 cases qg aJ
 cases qg bC
 exact⟨a,b,c,rfl,ha,hb,hc⟩
theorem Sm.head{S:Sm}(h:Held H S.toD v):∃a k r,v=.ref a/\H a=some (.tup (.str k :: r))/\k≠"if"/\k≠"while"/\(k = "call"↔∃x f as rs,S=.call x f as rs)/\(k = "claim"↔∃C,S=.claim C):=by
 cases S with
 | set x t c=>obtain⟨a,u,rfl,ha,_⟩:=jcf h;exact⟨a,_,_,rfl,ha,by decide,by decide,⟨fun z=>absurd z (by decide),fun⟨_,_,_,_,z⟩=>by cases z⟩,⟨fun z=>absurd z (by decide),fun⟨_,z⟩=>by cases z⟩⟩
 | put r x d t c=>obtain⟨a,b,u,rfl,ha,_⟩:=jcn h;exact⟨a,_,_,rfl,ha,by decide,by decide,⟨fun z=>absurd z (by decide),fun⟨_,_,_,_,z⟩=>by cases z⟩,⟨fun z=>absurd z (by decide),fun⟨_,z⟩=>by cases z⟩⟩
 | any x=>obtain⟨a,rfl,ha⟩:=yf h;exact⟨a,_,_,rfl,ha,by decide,by decide,⟨fun z=>absurd z (by decide),fun⟨_,_,_,_,z⟩=>by cases z⟩,⟨fun z=>absurd z (by decide),fun⟨_,z⟩=>by cases z⟩⟩
 | claim C=>obtain⟨a,u,rfl,ha,_⟩:=Jn h;exact⟨a,_,_,rfl,ha,by decide,by decide,⟨fun z=>absurd z (by decide),fun⟨_,_,_,_,z⟩=>by cases z⟩,⟨fun _=>⟨C,rfl⟩,fun _=>rfl⟩⟩
 | call x f as rs=>obtain⟨a,b,c,rfl,ha,_⟩:=jbn h;exact⟨a,_,_,rfl,ha,by decide,by decide,⟨fun _=>⟨x,f,as,rs,rfl⟩,fun _=>rfl⟩,⟨fun z=>absurd z (by decide),fun⟨_,z⟩=>by cases z⟩⟩
section
theorem jhd(F:Fun K "own_claims" "own_claims" zQ f fd):FnOk P w K mg base CX0 1 f fd ["statement"] spOwn:=by
 have sc:FnScope ["statement"] ["statement"] (ji zQ):=fQ;refine F.okZ sc (fun ay A outer s H vs Q E hr h=>?_);obtain⟨v,N,rfl,hN,Oo,pS,q⟩:=h;refine⟨_,(ja (jQ (jw ka (jz jE (zpv 0) jl (fun _ _=>rfl)) jy (jF _)) (jf (jr (jG yX (kC zZ (zpv 0) (kF jl) (kF jl)) (jz jE (zpv 0) jl (fun _ _=>rfl))))) jC)
   (jf (jr (kC zZ (zpv 0) (kF jl) (kF jl))))),?_⟩
 try dsimp only[j5]
 cases N with
 | leaf S=>
  cases S with
  | claim C=>
   obtain⟨a,u,rfl,ha,hu⟩:=Jn hN;refine⟨_,rfl,a,_,_,_,rfl,rfl,SqT.of ha,rfl,rfl,_,rfl,jZ (fun d=>absurd (Tq d) (by decide)) (fun _=>?_)⟩;refine⟨_,rfl,_,rfl,_,rfl,a,_,rfl,SqT.of ha,(fun h=>absurd h.1 (by show ¬(HT.sIx 2 0 (some 1)=0);decide)),fun t ht=>?_⟩;exact q t [u] _ (je ht _) jb (jo (hu.mono (je ht _)) jx)
  | _=>exact Oo.elim
 | ite a b c x y=>
  obtain⟨t,u,p,r,xs,ys,rfl,ht,hu,hp,hx,dG,hy⟩:=JS hN;refine⟨_,rfl,t,_,_,_,rfl,rfl,SqT.of ht,rfl,rfl,_,rfl,jZ (fun d=>absurd (Tq d) (by decide)) (fun _=>?_)⟩;refine⟨_,rfl,_,rfl,_,rfl,t,_,rfl,SqT.of ht,(fun h=>absurd h.1 (by show ¬(HT.sIx 4 0 (some 1)=0);decide)),fun t' df=>?_⟩;exact q t' [u] _ (je df _) jb (jo (hu.mono (je df _)) jx)
 | whl a b c ks x=>
  obtain⟨t,u,p,r,xs,ys,rfl,ht,hu,hp,hx,dG,hy⟩:=ZR hN;have hl:=hx.length;rw[aC]at hl;have NX:ks.length<=20:=pS;refine⟨_,rfl,t,_,_,_,rfl,rfl,SqT.of ht,rfl,rfl,_,rfl,jZ (fun _=>?_) (fun d=>absurd (Tr rfl) d)⟩;refine⟨_,rfl,_,rfl,_,rfl,t,_,rfl,SqT.of ht,(fun h=>absurd h.1 (by show ¬(HT.sIx 4 0 (some 1)=0);decide)),fun t' df=>?_⟩;have s1:=je df (.tup (qo [.str "while",u,.ref p,.ref r] (some 1) (some 2)));have e1:upd H t' (.tup (qo [.str "while",u,.ref p,.ref r] (some 1) (some 2))) t'=some (.tup [u]):=jb;generalize upd H t' (.tup (qo [.str "while",u,.ref p,.ref r] (some 1) (some 2)))=H1 at *;refine⟨_,rfl,t,_,_,_,rfl,rfl,SqT.of (s1 _ _ ht),rfl,t',p,_,_,rfl,rfl,e1,s1 _ _ hp,km (by show 1+xs.length<=1000;omega),fun t2 H2 s2 fe=>?_⟩;have bv:=s1.trans s2;exact q t2 _ H2 bv fe (jo (hu.mono bv) (hx.mono bv))
theorem jeU(F:Fun K "numbers_named" "numbers_named" qP f fd)(B:Free0 mg)(i9:Fn P w K mg base 1 "term_numbers" ["term"] ZW)(nQ:Fn P w K mg base 3 "claims_numbers" ["claims"] Kk)(Co:Fn P w K mg base 1 "own_claims" ["statement"] spOwn):FnOk P w K mg base CX0 4 f fd ["statement"] spNamedN:=by
 have sc:FnScope ["statement","kind"] ["statement"] (ji qP):=fQ;refine F.okZ sc (fun ay A outer s H vs Q E hr h=>?_);obtain⟨v,N,rfl,hN,hf,q⟩:=h;refine⟨_,(ja (jt (i:=1) sc.nd rfl oQ (jz jE (zpv 0) jl (fun _ _=>rfl)))
   (ja (jQ (jw ka (zpv 1) jy (jF _)) (jf (jr (jG kW (jK (jd (jz jE (zpv 0) jl (fun _ _=>rfl)) jc)) (jD i9 hr (jd (jz jE (zpv 0) jl (fun _ _=>rfl)) jc))))) jC)
   (ja (jQ (jw ka (zpv 1) jy (jF _)) (jf (jr (jG kW (jK (jd (jz jE (jz jE (zpv 0) jl (fun _ _=>rfl)) jl (fun _ _=>rfl)) jc)) (jD i9 hr (jd (jz jE (zpv 0) jl (fun _ _=>rfl)) jc))))) jC)
   (ja (jQ (jw ka (zpv 1) jy (jF _)) (jf (jr (jK (jd (jz jE (zpv 0) jl (fun _ _=>rfl)) jc)))) jC)
   (ja (jQ (jw ka (zpv 1) jy (jF _)) (jf (jr (jG kW (jK (jd (jz jE (zpv 0) jl (fun _ _=>rfl)) jc)) (yO J9 (by rfl) B.list_ jal (jd (jz jE (zpv 0) jl (fun _ _=>rfl)) jc))))) jC)
   (jf (jr (jD nQ hr (jd (jD Co hr (jd (zpv 0) jc)) jc))))))))),?_⟩
 refine jV (σ':=[some v,none]) rfl ?_
 try dsimp only[j5]
 refine jcz ?_;intro _ _ _ _ _;have oN:∀t:Tm,t.ns.length=1:=fun t=>by cases t <;> rfl
 cases N with
 | leaf S=>
  have hS:Held H S.toD v:=hN
  cases S with
  | set x t c=>
   obtain⟨a,u,rfl,ha,hu⟩:=jcf hS;refine⟨_,rfl,a,_,_,_,rfl,rfl,SqT.of ha,rfl,?_⟩;refine gQ ?_;refine⟨_,rfl,rfl,_,rfl,jZ (fun _=>?_) (fun d=>absurd (Tr rfl) d)⟩;refine⟨_,rfl,a,_,_,_,rfl,rfl,SqT.of ha,rfl,sm rfl,fun l hl=>?_⟩;have s1:=je hl (.lst [V.str x]);have e1:upd H l (.lst [V.str x]) l=some (.lst [V.str x]):=jb;generalize upd H l (.lst [V.str x])=H1 at *;refine⟨_,rfl,a,_,_,_,rfl,rfl,SqT.of (s1 _ _ ha),rfl,u,t,rfl,hu.mono s1,fun l2 H2 s2 n2 e2=>?_⟩;refine⟨l,l2,_,_,rfl,rfl,s2 _ _ e1,e2,aU (by rw[aC,oN];exact (by decide:1+1<=1000)) (km (aB 1000)),fun l3 cg=>?_⟩;exact q l3 _ (s1.trans (s2.trans (je cg _))) (s1.free (s2.free cg)) jb
  | put r x d t c=>
   obtain⟨a,b,u,rfl,ha,hb,hu⟩:=jcn hS;refine⟨_,rfl,a,_,_,_,rfl,rfl,SqT.of ha,rfl,?_⟩;refine gQ ?_;refine⟨_,rfl,rfl,_,rfl,jZ (fun d=>absurd (Tq d) (by decide)) (fun _=>?_)⟩;refine⟨_,rfl,rfl,_,rfl,jZ (fun _=>?_) (fun d=>absurd (Tr rfl) d)⟩;refine⟨_,rfl,a,_,_,_,rfl,rfl,SqT.of ha,rfl,b,_,_,_,rfl,rfl,SqT.of hb,rfl,sm rfl,fun l hl=>?_⟩;have s1:=je hl (.lst [V.str x]);have e1:upd H l (.lst [V.str x]) l=some (.lst [V.str x]):=jb;generalize upd H l (.lst [V.str x])=H1 at *;refine⟨_,rfl,a,_,_,_,rfl,rfl,SqT.of (s1 _ _ ha),rfl,u,t,rfl,hu.mono s1,fun l2 H2 s2 n2 e2=>?_⟩;refine⟨l,l2,_,_,rfl,rfl,s2 _ _ e1,e2,aU (by rw[aC,oN];exact (by decide:1+1<=1000)) (km (aB 1000)),fun l3 cg=>?_⟩;exact q l3 _ (s1.trans (s2.trans (je cg _))) (s1.free (s2.free cg)) jb
  | any x=>
   obtain⟨a,rfl,ha⟩:=yf hS;refine⟨_,rfl,a,_,_,_,rfl,rfl,SqT.of ha,rfl,?_⟩;refine gQ ?_;refine⟨_,rfl,rfl,_,rfl,jZ (fun d=>absurd (Tq d) (by decide)) (fun _=>?_)⟩;refine⟨_,rfl,rfl,_,rfl,jZ (fun d=>absurd (Tq d) (by decide)) (fun _=>?_)⟩;refine⟨_,rfl,rfl,_,rfl,jZ (fun _=>?_) (fun d=>absurd (Tr rfl) d)⟩;exact⟨_,rfl,a,_,_,_,rfl,rfl,SqT.of ha,rfl,sm rfl,fun l hl=>q l _ (je hl _) hl jb⟩
  | claim C=>
   obtain⟨a,u,rfl,ha,hu⟩:=Jn hS;refine⟨_,rfl,a,_,_,_,rfl,rfl,SqT.of ha,rfl,?_⟩;refine gQ ?_;refine⟨_,rfl,rfl,_,rfl,jZ (fun d=>absurd (Tq d) (by decide)) (fun _=>?_)⟩;refine⟨_,rfl,rfl,_,rfl,jZ (fun d=>absurd (Tq d) (by decide)) (fun _=>?_)⟩;refine⟨_,rfl,rfl,_,rfl,jZ (fun d=>absurd (Tq d) (by decide)) (fun _=>?_)⟩;refine⟨_,rfl,rfl,_,rfl,jZ (fun d=>absurd (Tq d) (by decide)) (fun _=>?_)⟩;refine⟨_,rfl,_,.leaf (.claim C),rfl,hN,trivial,trivial,fun t us H1 s1 ht db=>?_⟩;refine⟨t,us,[C],rfl,ht,db,aw rfl,fun l H2 s2 n2 e2=>?_⟩;refine q l H2 (s1.trans s2) (s1.free n2) ?_;rw[e2];simp[Nd.ns,Sm.ns]
  | call x f as rs=>
   obtain⟨a,b,c,rfl,ha,hb,hc⟩:=jbn hS;refine⟨_,rfl,a,_,_,_,rfl,rfl,SqT.of ha,rfl,?_⟩;refine gQ ?_;refine⟨_,rfl,rfl,_,rfl,jZ (fun d=>absurd (Tq d) (by decide)) (fun _=>?_)⟩;refine⟨_,rfl,rfl,_,rfl,jZ (fun d=>absurd (Tq d) (by decide)) (fun _=>?_)⟩;refine⟨_,rfl,rfl,_,rfl,jZ (fun d=>absurd (Tq d) (by decide)) (fun _=>?_)⟩;refine⟨_,rfl,rfl,_,rfl,jZ (fun _=>?_) (fun d=>absurd (Tr rfl) d)⟩;refine⟨_,rfl,a,_,_,_,rfl,rfl,SqT.of ha,rfl,sm rfl,fun l hl=>?_⟩;have s1:=je hl (.lst [V.str x]);have e1:upd H l (.lst [V.str x]) l=some (.lst [V.str x]):=jb;generalize upd H l (.lst [V.str x])=H1 at *;refine⟨_,rfl,a,_,_,_,rfl,rfl,SqT.of (s1 _ _ ha),rfl,b,_,rfl,.inr (SqT.of (s1 _ _ hb)),fun l2 dq=>?_⟩;have s2:=je dq (.lst (as.map V.str));have e2:upd H1 l2 (.lst (as.map V.str)) l2=some (.lst (as.map V.str)):=jb;generalize upd H1 l2 (.lst (as.map V.str))=H2 at *;have has:=hf.1;refine⟨l,l2,_,_,rfl,rfl,s2 _ _ e1,e2,aU (by rw[aC];exact aU (K_ has 1) (by decide:1+6<=1000)) (km (aB 1000)),fun l3 cg=>?_⟩;exact q l3 _ (s1.trans (s2.trans (je cg _))) (s1.free (s2.free cg)) jb
 | ite a b c x y=>
  obtain⟨t,u,p,r,xs,ys,rfl,ht,hu,hp,hx,dG,hy⟩:=JS hN;refine⟨_,rfl,t,_,_,_,rfl,rfl,SqT.of ht,rfl,?_⟩;refine gQ ?_;refine⟨_,rfl,rfl,_,rfl,jZ (fun d=>absurd (Tq d) (by decide)) (fun _=>?_)⟩;refine⟨_,rfl,rfl,_,rfl,jZ (fun d=>absurd (Tq d) (by decide)) (fun _=>?_)⟩;refine⟨_,rfl,rfl,_,rfl,jZ (fun d=>absurd (Tq d) (by decide)) (fun _=>?_)⟩;refine⟨_,rfl,rfl,_,rfl,jZ (fun d=>absurd (Tq d) (by decide)) (fun _=>?_)⟩;refine⟨_,rfl,_,.ite a b c x y,rfl,hN,trivial,trivial,fun t us H1 s1 ht db=>?_⟩;refine⟨t,us,[.least a b c],rfl,ht,db,aw rfl,fun l H2 s2 n2 e2=>?_⟩;refine q l H2 (s1.trans s2) (s1.free n2) ?_;rw[e2];simp[Nd.ns]
 | whl a b c ks x=>
  obtain⟨t,u,p,r,xs,ys,rfl,ht,hu,hp,hx,dG,hy⟩:=ZR hN;have NX:ks.length<=20:=hf;refine⟨_,rfl,t,_,_,_,rfl,rfl,SqT.of ht,rfl,?_⟩;refine gQ ?_;refine⟨_,rfl,rfl,_,rfl,jZ (fun d=>absurd (Tq d) (by decide)) (fun _=>?_)⟩;refine⟨_,rfl,rfl,_,rfl,jZ (fun d=>absurd (Tq d) (by decide)) (fun _=>?_)⟩;refine⟨_,rfl,rfl,_,rfl,jZ (fun d=>absurd (Tq d) (by decide)) (fun _=>?_)⟩;refine⟨_,rfl,rfl,_,rfl,jZ (fun d=>absurd (Tq d) (by decide)) (fun _=>?_)⟩;refine⟨_,rfl,_,.whl a b c ks x,rfl,hN,trivial,hf,fun t us H1 s1 ht db=>?_⟩;refine⟨t,us,.least a b c :: ks,rfl,ht,db,by rw[bo];omega,fun l H2 s2 n2 e2=>?_⟩;exact q l H2 (s1.trans s2) (s1.free n2) e2
theorem jds(F:Fun K "bodies_of" "bodies_of" yw f fd):FnOk P w K mg base CX0 1 f fd ["statement"] spBodies:=by
 have sc:FnScope ["statement"] ["statement"] (ji yw):=fQ;refine F.okZ sc (fun ay A outer s H vs Q E hr h=>?_);obtain⟨v,N,rfl,hN,q⟩:=h;refine⟨_,(ja (jQ (jw ka (jz jE (zpv 0) jl (fun _ _=>rfl)) jy (jF _)) (jf (jr (kC zZ (zpv 0) (kF jl) qp))) jC)
   (ja (jQ (jw ka (jz jE (zpv 0) jl (fun _ _=>rfl)) jy (jF _)) (jf (jr (kC zZ (zpv 0) (kF jl) qp))) jC)
   (jf (jr (jM jc))))),?_⟩
 try dsimp only[j5]
 refine zI ?_;intro _ _
 cases N with
 | leaf S=>
  obtain⟨a,k,r,rfl,ha,h1,h2,_⟩:=Sm.head (S:=S) hN;refine⟨_,rfl,a,_,_,V.str k,rfl,rfl,SqT.of ha,jH (j:=0) rfl,rfl,_,rfl,jZ (fun d=>absurd (Tq d) (fun z=>h1 (by injection z))) (fun _=>?_)⟩;refine⟨_,rfl,a,_,_,V.str k,rfl,rfl,SqT.of ha,jH (j:=0) rfl,rfl,_,rfl,jZ (fun d=>absurd (Tq d) (fun z=>h2 (by injection z))) (fun _=>?_)⟩;exact⟨sm rfl,fun t ht=>q t [] _ (je ht _) jb jx⟩
 | ite a b c x y=>
  obtain⟨t,u,p,r,xs,ys,rfl,ht,hu,hp,hx,dG,hy⟩:=JS hN;refine⟨_,rfl,t,_,_,_,rfl,rfl,SqT.of ht,rfl,rfl,_,rfl,jZ (fun _=>?_) (fun d=>absurd (Tr rfl) d)⟩;refine⟨_,rfl,_,rfl,t,_,rfl,SqT.of ht,(fun h=>absurd h.1 (by show ¬(HT.sIx 4 0 (some 2)=0);decide)),fun t' df=>?_⟩;have s1:=je df (.tup (qo [.str "if",u,.ref p,.ref r] (some 2) none));exact q t' [.ref p,.ref r] _ s1 jb (jo (kc (s1 _ _ hp) (hx.mono s1)) (jo (kc (s1 _ _ dG) (hy.mono s1)) jx))
 | whl a b c ks x=>
  obtain⟨t,u,p,r,xs,ys,rfl,ht,hu,hp,hx,dG,hy⟩:=ZR hN;refine⟨_,rfl,t,_,_,_,rfl,rfl,SqT.of ht,rfl,rfl,_,rfl,jZ (fun d=>absurd (Tq d) (by decide)) (fun _=>?_)⟩;refine⟨_,rfl,t,_,_,_,rfl,rfl,SqT.of ht,rfl,rfl,_,rfl,jZ (fun _=>?_) (fun d=>absurd (Tr rfl) d)⟩;refine⟨_,rfl,_,rfl,t,_,rfl,SqT.of ht,(fun h=>absurd h.1 (by show ¬(HT.sIx 4 0 (some 3)=0);decide)),fun t' df=>?_⟩;have s1:=je df (.tup (qo [.str "while",u,.ref p,.ref r] (some 3) none));exact q t' [.ref r] _ s1 jb (jo (kc (s1 _ _ dG) (hy.mono s1)) jx)
end
theorem j0{H:Hp}:∀{ds bN:List D} {vs eA:List V},HeldL H ds vs->HeldL H bN eA->HeldL H (ds++bN) (vs++eA)
 | [],_,_,_,h,h'=>by cases jv h;exact h'
 | _ :: _,_,_,_,h,h'=>by
  obtain⟨v,r,rfl,h1,h2⟩:=jg h;exact jo h1 (j0 h2 h')
section
theorem jgn(F:Fun K "all_statements" "all_statements" ki f fd):FnOk P w K mg base CX0 2 f fd ["body"] (spAll 0):=by
 have sc:FnScope ["body","told","statement","inner"] ["body"] (ji ki):=fQ;refine F.okZ sc (fun ay A outer s H vs Q E hr h=>?_);obtain⟨a,us,Ss,rfl,ha,uc,hlen,q⟩:=h
 cases jh2 (l:=Ss)
 cases jv uc
 refine⟨_,(ja (jt (i:=1) sc.nd rfl oQ (jK jc))
   (ja (jW cb rfl (zJ (zpv 0)) (jj (i:=2) sc.nd rfl oQ) (ja (j7 (ql dL iJ iI kE (zpv 1) (jd (zpv 2) jc)))
   (jf (jW cb rfl (zJ yd) (jj (i:=3) sc.nd rfl oQ) (jf (j7 (ql dL r_ rZ zB (zpv 1) (jd yd jc))))))))
   (jf (jr (zpv 1))))),?_⟩
 refine jV (σ':=[some (.ref a),none,none,none]) rfl ?_
 try dsimp only[j5]
 refine zI ?_;intro _ _;refine⟨sm rfl,fun l hl=>?_⟩;have s1:=je hl (.lst []);have e1:upd H l (.lst []) l=some (.lst []):=jb;generalize upd H l (.lst [])=H1 at *;refine gQ ?_;refine⟨_,rfl,a,rfl,⟨_,SqT.of (s1 _ _ ha)⟩,?_⟩;refine JW (xs:=[]) (fun i σ G=>∃u2 u3,σ=[some (.ref a),some (.ref l),u2,u3]/\G=H1) ⟨none,none,rfl,rfl⟩ ?_ ?_ ?_
 .rintro i σ G _ ⟨u2,u3,rfl,rfl⟩
  exact SqT.of (s1 _ _ ha)
 .rintro i x σ G hx _
  simp at hx
 rintro σ G ⟨u2,u3,rfl,rfl⟩;exact⟨_,rfl,q l [] G s1 hl e1 jx⟩
theorem jhk{n:Nat}(F:Fun K "all_statements" "all_statements" ki f fd)(nR:Fn P w K mg base 1 "bodies_of" ["statement"] spBodies)(rA:Fn P w K mg base (n+2) "all_statements" ["body"] (spAll n)):FnOk P w K mg base CX0 (n+2+1) f fd ["body"] (spAll (n+1)):=by
 have sc:FnScope ["body","told","statement","inner"] ["body"] (ji ki):=fQ;refine F.okZ sc (fun ay A outer s H vs Q E hr h=>?_);obtain⟨a,us,Ss,rfl,ha,uc,hlen,q⟩:=h;refine⟨_,(ja (jt (i:=1) sc.nd rfl oQ (jK jc))
   (ja (jW cb rfl (zJ (zpv 0)) (jj (i:=2) sc.nd rfl oQ) (ja (j7 (ql dL iJ iI kE (zpv 1) (jd (zpv 2) jc)))
   (jf (jW cb rfl (zJ (jD nR hr (jd (zpv 2) jc) (by omega))) (jj (i:=3) sc.nd rfl oQ) (jf (j7 (ql dL r_ rZ zB (zpv 1) (jd (jD rA hr (jd (zpv 3) jc) (by omega)) jc))))))))
   (jf (jr (zpv 1))))),?_⟩
 refine jV (σ':=[some (.ref a),none,none,none]) rfl ?_
 try dsimp only[j5]
 refine zI ?_;intro _ _;refine⟨sm rfl,fun l hl=>?_⟩;have s1:=je hl (.lst []);have e1:upd H l (.lst []) l=some (.lst []):=jb;generalize upd H l (.lst [])=H1 at *;refine gQ ?_;have cv:=uc.length;rw[aC]at cv;refine⟨_,rfl,a,rfl,⟨_,SqT.of (s1 _ _ ha)⟩,?_⟩;have LG:∀i,(kN (n+1) (Ss.take i)).length<=100:=fun i=>aU (zz _ Ss i) hlen
 refine JW (xs:=us) (fun i σ G=>∃u2 u3 ws,σ=[some (.ref a),some (.ref l),u2,u3]/\Same H G/\G l=some (.lst ws)/\HeldL G ((kN (n+1) (Ss.take i)).map Nd.toD) ws) ⟨none,none,[],rfl,s1,e1,by rw[v9];exact jx⟩ ?_ ?_ ?_
 .rintro i σ G _ ⟨u2,u3,ws,rfl,sG,_⟩
  exact SqT.of (sG _ _ ha)
 .rintro i x σ G hx ⟨u2,u3,ws,rfl,sG,hG,pw⟩
  have hi:i < Ss.length:=by have:=(aY.mp hx).1;omega
  obtain⟨x',aZ,dS⟩:=uc.get (show (Ss.map (stD (n+1)))[i]?=some (ZV Ss[i]).toD by rw[bU,aI hi];rfl);rw[hx]at aZ
  cases aZ
  have Mn:=pw.length;rw[aC]at Mn;have Nv:=LG (i+1);rw[ZL hi,aO,bo]at Nv;refine y7 ?_;intro _;refine gQ ?_;refine⟨_,rfl,.inl ⟨rfl,_,SqL.of hG⟩,_,rfl,l,_,x,rfl,rfl,hG,jS (by omega),?_⟩;have LH:TK G (upd G l (.lst (ws++[x]))):=TK.upd hG (fun _ z=>by cases z);have s2:Same H (upd G l (.lst (ws++[x]))):=fun b o e=>by rw[jp (jh e hl)];exact sG _ _ e
  have e2:upd G l (.lst (ws++[x])) l=some (.lst (ws++[x])):=jb;have MR:=j0 (LH.heldL pw) (jo (dS.mono s2) jx);generalize upd G l (.lst (ws++[x]))=G2 at *;refine⟨_,rfl,x,ZV Ss[i],rfl,dS.mono s2,fun t bs G3 s3 ht hbs=>?_⟩;refine⟨t,rfl,⟨_,SqT.of ht⟩,?_⟩;rw[jcZ,sH]at hbs;have EZ:=hbs.length;rw[aC]at EZ;have LQ:=s2.trans s3;refine JW (xs:=bs) (fun j σ G'=>∃u2 u3 gE,σ=[some (.ref a),some (.ref l),u2,u3]/\Same H G'/\TK G3 G'/\G' l=some (.lst gE)/\HeldL G' ((kN (n+1) (Ss.take i)).map Nd.toD++((ZV Ss[i]).toD :: ((((kP Ss[i]).take j).flatMap (kN n)).map Nd.toD))) gE) ⟨_,_,_,rfl,LQ,(fun _ _ e=>e),s3 _ _ e2,by rw[v9];exact MR.mono s3⟩ ?_ ?_ ?_
  .rintro j σ G' _ ⟨_,_,gE,rfl,cu,mS,_⟩
   exact SqT.of (mS _ _ ht)
  .rintro j y σ G' hy ⟨D9,D8,gE,rfl,cu,mS,ue,fZ⟩
   have hj:j < (kP Ss[i]).length:=by have:=(aY.mp hy).1;omega
   obtain⟨y',dQ,pj⟩:=hbs.get (show ((kP Ss[i]).map (D.tup ∘ fun x=>x.map (stD n)))[j]?=some (D.tup ((kP Ss[i])[j].map (stD n))) by rw[bU,aI hj];rfl);rw[hy]at dQ
   cases dQ
   obtain⟨b,ys,rfl,hb,cI⟩:=js pj;have Gq:(kP Ss[i]).take (j+1)=(kP Ss[i]).take j++[(kP Ss[i])[j]]:=by rw[cE,aI hj];rfl
   have FH:=zz (kN n) (kP Ss[i]) (j+1);have elj:(((kP Ss[i]).take (j+1)).flatMap (kN n)).length=(((kP Ss[i]).take j).flatMap (kN n)).length+(kN n (kP Ss[i])[j]).length:=by rw[Gq,oB,aO];simp
   have Mp:=fZ.length;rw[aO,aC,bo,aC]at Mp;refine y7 ?_;intro _;refine gQ ?_;refine⟨_,rfl,.inl ⟨rfl,_,SqL.of ue⟩,_,rfl,b,ys,(kP Ss[i])[j],rfl,mS _ _ hb,mS.heldL cI,by omega,fun l3 Lw G4 s4 n4 e4 E_=>?_⟩;have Mo:=E_.length;rw[aC]at Mo;have pO:=s4 _ _ ue;refine⟨l,l3,_,_,rfl,rfl,pO,e4,aU (by omega) (km (aB 1000)),?_⟩;have oO:TK G4 (upd G4 l (.lst (gE++Lw))):=TK.upd pO (fun _ z=>by cases z);refine⟨_,_,_,rfl,fun b o e=>by rw[jp (jh e hl)];exact s4 _ _ (cu _ _ e),fun b o e=>oO _ _ (s4 _ _ (mS _ _ e)),jb,?_⟩;rw[show ((kN (n+1) (Ss.take i)).map Nd.toD++((ZV Ss[i]).toD :: ((((kP Ss[i]).take (j+1)).flatMap (kN n)).map Nd.toD)))=((kN (n+1) (Ss.take i)).map Nd.toD++((ZV Ss[i]).toD :: ((((kP Ss[i]).take j).flatMap (kN n)).map Nd.toD)))++(kN n (kP Ss[i])[j]).map Nd.toD by rw[Gq,oB,bh];simp];exact oO.heldL (j0 (fZ.mono s4) E_)
  .rintro σ G' ⟨D9,D8,gE,rfl,cu,mS,ue,fZ⟩
   rw[<- EZ,cV]at fZ;exact⟨D9,D8,gE,rfl,cu,ue,by rw[ZL hi,bh,bE];exact fZ⟩
 rintro σ G ⟨u2,u3,ws,rfl,sG,hG,pw⟩;rw[<- cv,cV]at pw;exact⟨_,rfl,q l ws G sG hl hG pw⟩
theorem ZK{f1:aa}{q_:aD}(U1:Fun K "all_statements" "all_statements" ki f1 q_)(b1:Binds K q_ ["body"] [])(m1:mg "all_statements" = some (.ref f1))(nR:Fn P w K mg base 1 "bodies_of" ["statement"] spBodies):∀n,Fn P w K mg base (n+2) "all_statements" ["body"] (spAll n)
 | 0=>Fn.mk' U1 b1 m1 (jgn U1)
 | n+1=>Fn.mk' U1 b1 m1 (jhk U1 nR (ZK U1 b1 m1 nR n))
end
end LW
namespace L2
open PySem PySem.Spec PyProof.Rows
structure Fly(h0:au)(H:Hp)(cls:ad)(e:aa)(h:au):Prop where
 he:H e=none
 ne:h0.get? e=none
 tr:∃oe vs T oT ts a0,h.get? e=some oe/\oe.cls=cls/\oe.data=.fields vs/\vs[0]?=some a0/\vs[1]?=some (.ref T)/\T≠e/\h.get? T=some oT/\oT.data=.fields ts/\ts[3]?=some .none/\H T=none/\h0.get? T=none
structure Left(fs:List aa)(h0:au)(H:Hp)(h h':au):Prop where
 keep:∀b o,h.get? b=some o->b ∉ fs->(H b≠none\/∃u,h0.get? b=some u)->h'.get? b=some o
 slot:∀b o,h.get? b=some o->b∈fs->∃sl,h'.get? b=some { cls:=o.cls,dict:=o.dict,data:=o.data,slots:=sl }
theorem Ks{h base:au}:∀{l:List Env},h.FunFrames base l->∀b∈frs l,∃o,h.get? b=some o/\∀vs:Array ad,o.data≠.fields vs
 | [],_,b,hb=>by cases hb
 | env :: l,hf,b,hb=>by
  obtain⟨_,⟨L,o,e1,_,e3,e4⟩,hr⟩:=hf;unfold frs at hb;rw[cX,e1]at hb;rcases aN.mp hb with rfl | hb
  .exact⟨o,e3,e4⟩
  .exact Ks hr b hb
theorem kR{h base B:au}:∀{l:List Env},h.FunFrames base l->(∀b∈frs l,B.get? b=none)->h.FunFrames B l
 | [],_,_=>trivial
 | env :: l,hf,hB=>by
  obtain⟨k,⟨L,o,e1,_,e3,e4⟩,hr⟩:=hf;have hm:L∈frs (env :: l):=by unfold frs;rw[cX,e1];exact bt
  refine⟨k,⟨L,o,e1,hB L hm,e3,e4⟩,kR hr fun b hb=>hB b ?_⟩;unfold frs at hb |-;rw[cX,e1];exact bu _ hb
variable {M:gY}{A:aM}{s:af}{base h0 h':au}{e:aa}{H:Hp}{Q:Unit->af->Prop}
section
variable {E:ad->af->Prop}{env:Env}{outer:List Env}{L:aa}{cls:ad}
theorem jag{B:au}{l:List Env}{hs:List aa}{a0:ad}(he:H e=none)(ne:h0.get? e=none)(hB:B=iE s.heap hs)(hl:∀b∈hs,H b=none/\(b∈frs l\/h0.get? b=none))(bH:h'.FunFrames base l)(hH:∀b,s.heap.get? b=none->H b=none/\h0.get? b=none)(tw:h'.TracedW B e cls a0):Fly h0 H cls e h':=by
 obtain⟨oe,vs,T,oT,ts,t1,⟨t2,t3⟩,t4,t5,t6,t7,t8,t9,dN⟩:=tw;have hT:H T=none/\h0.get? T=none:=by
  rcases b_:s.heap.get? T with _ | o
  .exact hH T b_
  .by_cases hm:T∈hs
   .refine⟨(hl T hm).1,?_⟩
    rcases (hl T hm).2 with hf | hf
    .obtain⟨o',e1,e2⟩:=Ks bH T hf
     rw[t8]at e1
     cases e1
     exact absurd t9 (e2 ts)
    .exact hf
   .rw[hB,W.hideAll_get hs b_ hm]at t6
    cases t6
 exact⟨he,ne,oe,vs,T,oT,ts,a0,t1,t2,t4,t3,t5,t7,t8,t9,dN,hT.1,hT.2⟩
theorem K5{B:au}{l:List Env}{hs:List aa}(hB:B=iE s.heap hs)(hl:∀b∈hs,b ∉ frs l->H b=none/\h0.get? b=none)(st:B.StaysIn h')(bH:s.heap.FunFrames base l)
  (ks:∀b o,s.heap.get? b=some o->(∀vs:Array ad,o.data≠.fields vs)->∃sl,h'.get? b=some { cls:=o.cls,dict:=o.dict,data:=o.data,slots:=sl }):Left (frs l) h0 H s.heap h':=by
 refine⟨fun b o hb hf ho=>?_,fun b o hb hf=>?_⟩
 .by_cases hm:b∈hs
  .obtain⟨h1,h2⟩:=hl b hm hf
   rcases ho with ho | ⟨u,hu⟩
   .exact absurd h1 ho
   .rw[h2]at hu;cases hu
  .exact st b o (by rw[hB];exact W.hideAll_get hs hb hm)
 .obtain⟨o',e1,e2⟩:=Ks bH b hf
  rw[hb]at e1
  cases e1
  exact ks b o hb e2
theorem jbV(hA:A.frames=some (env :: outer))(bH:s.heap.FunFrames base (env :: outer))(hL:env.frame=some L)(hF:Fly h0 H cls e s.heap)(l_:∀b∈frs (env :: outer),H b=none)(hH:∀b,s.heap.get? b=none->H b=none/\h0.get? b=none)
  (hQ:∀h',Left (frs (env :: outer)) h0 H s.heap h'->Fly h0 H cls e h'->h'.FunFrames base (env :: outer)->Q () { s with heap:=h' }) (hbs:∀b o,base.get? b=some o->b ∉ frs (env :: outer)/\∃u,h0.get? b=some u):ah M A (leaving env (.ref e)) Q E s:=by
 obtain⟨oe,vs,T,oT,ts,a0,t1,t2,t3,t4,t5,t6,t7,t8,t9,dN,eX⟩:=hF.tr
 have fm:∀b∈e :: T :: frs (env :: outer),(iE s.heap (e :: T :: frs (env :: outer))).get? b=none:=fun b hb=>Dm _ hb
 refine wpAny_leaving_nextW (base:=iE s.heap (e :: T :: frs (env :: outer))) (cls:=cls) (a0:=a0) hA (kR bH fun b hb=>fm b (bu _ (bu _ hb))) hL ⟨oe,vs,T,oT,ts,t1,⟨t2,t4⟩,t3,t5,fm T (bu _ bt),t6,t7,t8,t9⟩ (fun b o hb=>Dl _ hb) (fm e bt) ?_
 rintro h' ⟨l1,l2,l3,l4⟩
 have gj:h'.FunFrames base (env :: outer):=kR l2 fun b hb=>by
  rcases hh:base.get? b with _ | o
  .rfl
  .exact absurd hb (hbs b o hh).1
 refine hQ h' (K5 rfl (fun b hb hf=>?_) l1 bH l4) (jag (s:=s) (l:=env :: outer) hF.he hF.ne rfl (fun b hb=>?_) gj hH l3) gj
 .rcases aN.mp hb with rfl | hb
  .exact⟨hF.he,hF.ne⟩
  .rcases aN.mp hb with rfl | hb
   .exact⟨dN,eX⟩
   .exact absurd hb hf
 .rcases aN.mp hb with rfl | hb
  .exact⟨hF.he,.inr hF.ne⟩
  .rcases aN.mp hb with rfl | hb
   .exact⟨dN,.inr eX⟩
   .exact⟨l_ b hb,.inl hb⟩
theorem jaZ{oe:Obj}{vs:Array ad}{a0:ad}(hA:A.frames=some (env :: outer))(bH:s.heap.FunFrames base (env :: outer))(hL:env.frame=some L)(he:H e=none)(ne:h0.get? e=none)(ho:s.heap.get? e=some oe)(hc:oe.cls=cls)(hd:oe.data=.fields vs)(h1:vs[1]?=some .none)(ha:vs[0]?=some a0)(l_:∀b∈frs (env :: outer),H b=none)(hH:∀b,s.heap.get? b=none->H b=none/\h0.get? b=none)
  (hQ:∀h',Left (frs (env :: outer)) h0 H s.heap h'->Fly h0 H cls e h'->h'.FunFrames base (env :: outer)->Q () { s with heap:=h' }) (hbs:∀b o,base.get? b=some o->b ∉ frs (env :: outer)/\∃u,h0.get? b=some u):ah M A (leaving env (.ref e)) Q E s:=by
 subst hc
 have fm:∀b∈e :: frs (env :: outer),(iE s.heap (e :: frs (env :: outer))).get? b=none:=fun b hb=>Dm _ hb
 refine wpAny_leaving_firstW (base:=iE s.heap (e :: frs (env :: outer))) hA (kR bH fun b hb=>fm b (bu _ hb)) hL ho (fun b o hb=>Dl _ hb) (fm e bt) hd h1 ha ?_
 rintro h' ⟨l1,l2,l3,l4⟩
 have gj:h'.FunFrames base (env :: outer):=kR l2 fun b hb=>by
  rcases hh:base.get? b with _ | o
  .rfl
  .exact absurd hb (hbs b o hh).1
 refine hQ h' (K5 rfl (fun b hb hf=>?_) l1 bH l4) (jag (s:=s) (l:=env :: outer) he ne rfl (fun b hb=>?_) gj hH l3) gj
 .rcases aN.mp hb with rfl | hb
  .exact⟨he,ne⟩
  .exact absurd hb hf
 .rcases aN.mp hb with rfl | hb
  .exact⟨he,.inr ne⟩
  .exact⟨l_ b hb,.inl hb⟩
end
variable {P:az}{w:ax}{h:au}{o:HO}
theorem ObjOk.ex{a:aa}(x:ObjOk P w H h a o):∃u,h.get? a=some u:=by
 cases o with
 | lst xs=>obtain⟨_,_,_,_,e⟩:=x;exact⟨_,e⟩
 | tup xs=>obtain⟨_,_,_,⟨u,e,_⟩⟩:=x;exact⟨_,e⟩
 | dK kvs=>obtain⟨_,_,_,_,o,_,_,e,_⟩:=x;exact⟨_,e⟩
 | dT kvs=>obtain⟨_,_,_,_,o,_,_,e,_⟩:=x;exact⟨_,e⟩
 | set S n=>obtain⟨o,_,_,_,e,_⟩:=x;exact⟨_,e⟩
 | ins C dx fs=>obtain⟨_,_,_,e,_⟩:=x;exact⟨_,e⟩
 | own y=>exact x
 | xd fs=>obtain⟨_,⟨_,_,_,e,_⟩,_⟩:=x;exact⟨_,e⟩
 | rng lo hi=>obtain⟨_,_,_,e⟩:=x;exact⟨_,e⟩
 | frz o u=>exact⟨_,x.1⟩
 | tbl ps=>exact⟨_,x⟩
 | met f y=>exact⟨_,x⟩
 | ext φ=>exact x.2.1
def CX1(P:az)(w:ax):CXT:=fun outer H s E e s'=>∃ea cls H',e=.ref ea/\s'.os=s.os/\iK s'.gens/\Un (frs outer) [] H H' s.heap s'.heap/\HOk P w H' s'.heap/\Fly s.heap H' cls ea s'.heap/\E cls none H'
variable {X:Cx}{ac:List (aa×Obj)}{E:XK}{H':Hp}
section
variable {σ:St}{cls:ad}
structure XW(X:Cx)(E:XK):Prop where
 env:X.stack=X.env :: X.outer
 fr:X.env.frame=some X.env.locals
 ex:X.ex=[]
 xe:X.xe=fun e s'=>ah (am X.prog X.w) X.A (leaving X.env e) (fun _ fU=>CX1 X.prog X.w X.outer X.H₀ X.s₀ E e fU) (fun e' fU=>CX1 X.prog X.w X.outer X.H₀ X.s₀ E e' fU) s'
theorem XW.left(W:XW X E)(I:Inv X ac σ H s)(l:Left (frs (X.env :: X.outer)) X.s₀.heap H s.heap h')(f:Fly X.s₀.heap H cls e h')(hE:E cls none H):CX1 X.prog X.w X.outer X.H₀ X.s₀ E (.ref e) { s with heap:=h' }:=by
 have hb:=I.base;rw[W.ex]at hb;have nL:∀b o,X.s₀.heap.get? b=some o->b ∉ frs X.outer->b ∉ frs (X.env :: X.outer):=fun b o e hn hm=>by
  unfold frs at hm;rw[cX,W.fr]at hm;rcases aN.mp hm with rfl | hm
  .exact absurd (aL e) (Nat.not_lt.mpr I.ok.above)
  .exact hn hm
 have MA:∀b,b∈frs X.outer->b∈frs (X.env :: X.outer):=fun b hm=>by
  unfold frs at hm |-;rw[cX,W.fr];exact bu _ hm
 have stk:=I.stkFree;rw[W.env]at stk;refine⟨e,cls,H,rfl,I.os,I.bare,⟨fun b o h1 h2 h3 h4=>?_,fun b o h1 h2 h3 h4=>?_,fun b o h1 h2 h3=>hb.free b o h1 h2 h3,fun b o h1 h2=>?_,hb.tups,hb.frzs,hb.tbls,fun b o xs q h1 h3 h4=>l.keep b o (hb.stay b o xs q h1 h3 h4) (nL b o h1 h3) (.inr ⟨o,h1⟩)⟩,fun a o ho=>?_,f,hE⟩
 .exact l.keep b o (hb.keep b o h1 h2 h3 h4) (nL b o h1 h3) (.inr ⟨o,h1⟩)
 .obtain⟨sl,h5⟩:=hb.slot b o h1 h2 h3 h4
  obtain⟨fS,h6⟩:=l.slot b _ h5 (MA b h3);exact⟨fS,h6⟩
 .obtain⟨o',h5⟩:=hb.there b o h1 h2
  by_cases hm:b∈frs (X.env :: X.outer)
  .obtain⟨fS,h6⟩:=l.slot b _ h5 hm
   exact⟨_,h6⟩
  .exact⟨o',l.keep b o' h5 hm (.inr ⟨o,h1⟩)⟩
 .refine (I.hok a o ho).stay (fun b u ma q=>?_) (fun _ q=>q) fun _ _ q=>q
  have aW:H b≠none:=by
   rcases ma with rfl | ma
   .rw[ho];simp
   .rw[ma];simp
  exact l.keep b u q (fun hm=>aW (stk b hm)) (.inl aW)
theorem XW.hH(W:XW X E)(I:Inv X ac σ H s):∀b,s.heap.get? b=none->H b=none/\X.s₀.heap.get? b=none:=fun b hb=>by
 refine⟨?_,?_⟩
 .rcases hh:H b with _ | o
  .rfl
  .obtain⟨u,hu⟩:=(I.hok b o hh).ex
   rw[hu]at hb;cases hb
 .rcases hh:X.s₀.heap.get? b with _ | o
  .rfl
  .have nv:=I.base
   rw[W.ex]at nv;obtain⟨o',h5⟩:=nv.there b o hh (by simp);rw[h5]at hb;cases hb
theorem XW.hbs(W:XW X E)(I:Inv X ac σ H s):∀b o,X.base.get? b=some o->b ∉ frs (X.env :: X.outer)/\∃u,X.s₀.heap.get? b=some u:=fun b o hb=>by
 refine⟨fun hm=>?_,⟨o,(I.ok.bs b o hb).1⟩⟩;have hs:=I.stack;rw[W.env]at hs;have:∀{l:List Env},s.heap.FunFrames X.base l->b∈frs l->False:=by
  intro l;induction l with
  | nil=>intro _ h;cases h
  | cons env l ih=>
   intro hf hm;obtain⟨_,⟨L,o',e1,e2,_,_⟩,hr⟩:=hf;unfold frs at hm;rw[cX,e1]at hm;rcases aN.mp hm with rfl | hm
   .rw[e2]at hb;cases hb
   .exact ih hr hm
 exact this hs hm
theorem XW.next(W:XW X E)(I:Inv X ac σ H s)(F:Fly X.s₀.heap H cls e s.heap)(hE:E cls none H):X.xe (.ref e) s:=by
 have stk:=I.stkFree;have hs:=I.stack;have hf:=I.ok.frames;rw[W.env]at stk hs hf;rw[W.xe];exact jbV hf hs W.fr F stk (W.hH I) (fun h' l f _=>W.left I l f hE) (W.hbs I)
theorem XW.first(W:XW X E)(I:Inv X ac σ H s){oe:Obj}{vs:Array ad}{a0:ad}(he:H e=none)(ne:X.s₀.heap.get? e=none)(ho:s.heap.get? e=some oe)(hc:oe.cls=cls)(hd:oe.data=.fields vs)(h1:vs[1]?=some .none)(ha:vs[0]?=some a0)(hE:E cls none H):X.xe (.ref e) s:=by
 have stk:=I.stkFree;have hs:=I.stack;have hf:=I.ok.frames;rw[W.env]at stk hs hf;rw[W.xe];exact jaZ hf hs W.fr he ne ho hc hd h1 ha stk (W.hH I) (fun h' l f _=>W.left I l f hE) (W.hbs I)
theorem Inv.raised{s':af}{ev:ad}(I:Inv X ac σ H s)(h:CX1 X.prog X.w X.stack H s E ev s'):∃ea cls H',ev=.ref ea/\Inv X ac σ H' s'/\Fly s.heap H' cls ea s'.heap/\E cls none H':=by
 obtain⟨ea,cls,H',rfl,os,bare,un,hok,Bu,hE⟩:=h;obtain⟨hh,g,d,t,o8⟩:=s';obtain rfl:o8=s.os:=os;exact⟨ea,cls,H',rfl,I.call (h':=hh) (g':=g) (d':=d) (t':=t) (ch:=[]) un hok bare (fun b z=>absurd z (by simp)),Bu,hE⟩
theorem Fly.back{s':af}(W:XW X E)(I:Inv X ac σ H s)(F:Fly s.heap H' cls e s'.heap):Fly X.s₀.heap H' cls e s'.heap:=by
 obtain⟨oe,vs,T,oT,ts,a0,t1,t2,t3,t4,t5,t6,t7,t8,t9,dN,eX⟩:=F.tr;exact⟨F.he,(W.hH I e F.ne).2,oe,vs,T,oT,ts,a0,t1,t2,t3,t4,t5,t6,t7,t8,t9,dN,(W.hH I T eX).2⟩
theorem XW.passes(W:XW X E):JB (CX1 X.prog X.w) X E:=fun ac σ H s ev s' I h=>by
 obtain⟨ea,cls,H',rfl,I',F,hE⟩:=I.raised h;exact W.next I' (Fly.back W I F) hE
end
structure FnX(P:az)(w:ax)(K:av)(mg:Str->Option ad)(base:au)(k:Nat)(x:Str)(ps:List Str)(sp:Sp):Prop where
 ex:∃f fd,FnOk P w K mg base (CX1 P w) k f fd ps sp/\Binds K fd ps []/\bQ K (.ref f)=true/\mg x=some (.ref f)
variable {K:av}{x:Str}{ps:List Str}{sp:Sp}{f:aa}{fd:aD}
theorem FnX.mk'{mg:Str->Option ad}{k:Nat}{st:aA}(F:Fun K x x st f fd)(b:Binds K fd ps [])(m:mg x=some (.ref f))(G:FnOk P w K mg base (CX1 P w) k f fd ps sp):FnX P w K mg base k x ps sp:=⟨f,fd,G,b,F.kp,m⟩
theorem Fun.okX{mg:Str->Option ad}{aX:Str}{st:aA}{N:List Str}{k:Nat}(F:Fun K x aX st f fd)(S:FnScope N ps (ji st))(len:∀vs H Q E,sp vs H Q E->vs.length=ps.length)
  (im:∀(ay:ad) (A:aM) (outer:List Env) (s:af) (H:Hp) (vs:List V) (Q:VK) (E:XK),Room k (A.deeper (envOfC aX (ji st) s.heap.objs.size f ay))->XW (j5 (CX1 P w) P w K mg base N aX (ji st) f ay A outer s H E) E->sp vs H Q E->
   ∃t,QSs (j5 (CX1 P w) P w K mg base N aX (ji st) f ay A outer s H E) (qy st) t/\t { nx:=fun _ H'=>Q .non H',rt:=Q } (zr N vs) H):FnOk P w K mg base (CX1 P w) (k+1) f fd ps sp:=by
 obtain⟨oc,od,kV,cn,pm,an,ay,ct,fu,rfl,lk,cR⟩:=F.ex
 refine jfe lk cR S len fun A outer s H vs Q E hr cQ=>?_
 obtain⟨t,h,q⟩:=im ay A outer s H vs Q E hr ⟨rfl,rfl,rfl,rfl⟩ cQ
 exact⟨t,h.h,q⟩
theorem yD{C:aa}{bmB:List ad}{mZ:String}(X:K.In h)(e:dE K C bmB mZ=true):∃bm N nm q bs hdct sn sub ab col dd k0 k1 k2 k3 k5 mN,
  h.get? C=some (Di nm q C N bs bm hdct sn sub ab col dd k0 k1 k2 k3 k5 mZ)/\h.Ns N mN/\mN (bx "__init__")=none/\OwnTail h bmB bm:=by
 unfold dE at e
 split at e
 .rename_i uj cd sl hl
  split at e
  .rename_i C' bm a0 a1 a2 a3 n a5 hm hs
   simp only[cm,beq_iff_eq,Bool.not_eq_true']at e
   obtain⟨⟨⟨⟨⟨e1,e2⟩,e3⟩,e4⟩,e5⟩,e6⟩:=e
   subst e1 e2
   have b_:sl=#[a0,a1,a2,a3,some (.builtin n),a5]:=by
    apply Lr.mp;rw[hs]
   obtain⟨c1,c2,c3,c4,c5,c6,c7,c8,c9,c10,c11⟩:=cd
   dsimp only at hm e3 e4 e5 e6
   subst hm b_ e3
   exact⟨bm,c4,_,_,_,_,_,_,_,_,_,_,_,_,_,_,h.nsMap c4,X _ _ hl,au.Ns.of_isNs (W.isNs_of_in X e5),W.nsMap_none_of_in X e5 e6,W.tail_of_in X e4⟩
  .cases e
 .cases e
theorem YY{bmB:List ad}(k:∀b o,h.get? b=some o->h'.get? b=some o):∀{l:List ad},OwnTail h bmB l->OwnTail h' bmB l:=by
 intro l t;induction t with
 | base=>exact .base
 | own h1 h2 h3 _ ih=>exact .own (k _ _ h1) (h2.keeps k) h3 ih
def valB:List ad:=[.type "ValueError",.type "Exception",.type "BaseException",.type "object"]
def jgX(C:aa)(E:XK)(t:TA):TS:=fun _ σ H=>t σ H fun vs H1=>vs.length<=1000/\E (.ref C) none H1
section
variable {E:ad->af->Prop}{env:Env}{outer:List Env}{L:aa}{cls:ad}
theorem jdB(hA:A.frames=some (env :: outer))(bH:s.heap.FunFrames base (env :: outer))(hL:env.frame=some L)(hF:Fly h0 H cls e s.heap)(l_:∀b∈frs (env :: outer),H b=none)(hH:∀b,s.heap.get? b=none->H b=none/\h0.get? b=none)
  (hQ:∀h',Left (frs (env :: outer)) h0 H s.heap h'->Fly h0 H cls e h'->h'.FunFrames base (env :: outer)->Q () { s with heap:=h' }) (hbs:∀b o,base.get? b=some o->b ∉ frs (env :: outer)/\∃u,h0.get? b=some u) :
  ah M A (rQ (.ref e) env) (fun _ s2=>ah M A (setFlight (.ref e) none) Q E s2) E s:=by
 obtain⟨oe,vs,T,oT,ts,a0,t1,t2,t3,t4,t5,t6,t7,t8,t9,dN,eX⟩:=hF.tr
 have fm:∀b∈e :: T :: frs (env :: outer),(iE s.heap (e :: T :: frs (env :: outer))).get? b=none:=fun b hb=>Dm _ hb
 refine wpAny_noteFrame_onW (base:=iE s.heap (e :: T :: frs (env :: outer))) (cls:=cls) (a0:=a0) hA (kR bH fun b hb=>fm b (bu _ (bu _ hb))) hL ⟨oe,vs,T,oT,ts,t1,⟨t2,t4⟩,t3,t5,fm T (bu _ bt),t6,t7,t8,t9⟩ (fun b o hb=>Dl _ hb) (fm e bt) ?_
 rintro h1 ⟨k1,k2,k3,k4⟩
 refine PB k1 k2 k3 fun h' l1 l2 l3 l5=>?_
 have l4:∀b o,s.heap.get? b=some o->(∀vs:Array ad,o.data≠.fields vs)->∃sl,h'.get? b=some { cls:=o.cls,dict:=o.dict,data:=o.data,slots:=sl }:=fun b o hb hn=>by
  obtain⟨sl,q⟩:=k4 b o hb hn;exact⟨sl,l5 b _ q hn⟩
 have gj:h'.FunFrames base (env :: outer):=kR l2 fun b hb=>by
  rcases hh:base.get? b with _ | o
  .rfl
  .exact absurd hb (hbs b o hh).1
 refine hQ h' (K5 rfl (fun b hb hf=>?_) l1 bH l4) (jag (s:=s) (l:=env :: outer) hF.he hF.ne rfl (fun b hb=>?_) gj hH l3) gj
 .rcases aN.mp hb with rfl | hb
  .exact⟨hF.he,hF.ne⟩
  .rcases aN.mp hb with rfl | hb
   .exact⟨dN,eX⟩
   .exact absurd hb hf
 .rcases aN.mp hb with rfl | hb
  .exact⟨hF.he,.inr hF.ne⟩
  .rcases aN.mp hb with rfl | hb
   .exact⟨dN,.inr eX⟩
   .exact⟨l_ b hb,.inl hb⟩
theorem Yy(bH:s.heap.FunFrames base (env :: outer))(hF:Fly h0 H cls e s.heap)(l_:∀b∈frs (env :: outer),H b=none)(hH:∀b,s.heap.get? b=none->H b=none/\h0.get? b=none)
  (hQ:∀h',Left (frs (env :: outer)) h0 H s.heap h'->Fly h0 H cls e h'->h'.FunFrames base (env :: outer)->Q () { s with heap:=h' }) (hbs:∀b o,base.get? b=some o->b ∉ frs (env :: outer)/\∃u,h0.get? b=some u) :
  ah M A (setFlight (.ref e) none) Q E s:=by
 obtain⟨oe,vs,T,oT,ts,a0,t1,t2,t3,t4,t5,t6,t7,t8,t9,dN,eX⟩:=hF.tr
 have fm:∀b∈e :: T :: frs (env :: outer),(iE s.heap (e :: T :: frs (env :: outer))).get? b=none:=fun b hb=>Dm _ hb
 refine PB (base:=iE s.heap (e :: T :: frs (env :: outer))) (l:=env :: outer) (cls:=cls) (a0:=a0) (fl:=.none) (fun b o hb=>Dl _ hb) (kR bH fun b hb=>fm b (bu _ (bu _ hb))) ⟨oe,vs,T,oT,ts,t1,⟨t2,t4⟩,t3,t5,fm T (bu _ bt),t6,t7,t8,t9⟩ fun h' l1 l2 l3 l5=>?_
 have l4:∀b o,s.heap.get? b=some o->(∀vs:Array ad,o.data≠.fields vs)->∃sl,h'.get? b=some { cls:=o.cls,dict:=o.dict,data:=o.data,slots:=sl }:=fun b o hb hn=>⟨o.slots,l5 b _ hb hn⟩
 have gj:h'.FunFrames base (env :: outer):=kR l2 fun b hb=>by
  rcases hh:base.get? b with _ | o
  .rfl
  .exact absurd hb (hbs b o hh).1
 refine hQ h' (K5 rfl (fun b hb hf=>?_) l1 bH l4) (jag (s:=s) (l:=env :: outer) hF.he hF.ne rfl (fun b hb=>?_) gj hH l3) gj
 .rcases aN.mp hb with rfl | hb
  .exact⟨hF.he,hF.ne⟩
  .rcases aN.mp hb with rfl | hb
   .exact⟨dN,eX⟩
   .exact absurd hb hf
 .rcases aN.mp hb with rfl | hb
  .exact⟨hF.he,.inr hF.ne⟩
  .rcases aN.mp hb with rfl | hb
   .exact⟨dN,.inr eX⟩
   .exact⟨l_ b hb,.inl hb⟩
end
variable {h1:au}
theorem Un.left{fs:List aa}{h2:au}{P:az}{w:ax}(u:Un fs [] H H' h h1)(l:Left fs h H' h1 h2):Un fs [] H H' h h2 where
 keep:=fun b o h1 h2 h3 h4=>l.keep b o (u.keep b o h1 h2 h3 h4) h3 (.inr ⟨o,h1⟩)
 slot:=fun b o h1 h2 h3 h4=>by
  obtain⟨sl,h5⟩:=u.slot b o h1 h2 h3 h4;obtain⟨fS,h6⟩:=l.slot b _ h5 h3;exact⟨fS,h6⟩
 free:=u.free
 there:=fun b o h1 h2=>by
  obtain⟨o',h5⟩:=u.there b o h1 h2;by_cases hm:b∈fs
  .obtain⟨fS,h6⟩:=l.slot b _ h5 hm
   exact⟨_,h6⟩
  .exact⟨o',l.keep b o' h5 hm (.inr ⟨o,h1⟩)⟩
 tups:=u.tups
 frzs:=u.frzs
 tbls:=u.tbls
 stay:=fun b o xs q h1 h3 h4=>l.keep b o (u.stay b o xs q h1 h3 h4) h3 (.inr ⟨o,h1⟩)
theorem HOk.left{fs:List aa}{h2:au}(k:HOk P w H h1)(ff:∀b∈fs,H b=none)(l:Left fs h0 H h1 h2):HOk P w H h2:=fun a o ho=>by
 refine (k a o ho).stay (fun b u ma q=>?_) (fun _ q=>q) fun _ _ q=>q
 have aW:H b≠none:=by
  rcases ma with rfl | ma
  .rw[ho];simp
  .rw[ma];simp
 exact l.keep b u q (fun hm=>aW (ff b hm)) (.inl aW)
def yn(cls:ad)(e:aa):HO:=.ext fun h=>∃oe vs,h.get? e=some oe/\oe.cls=cls/\oe.data=.fields vs
theorem Un.track{fs:List aa}(u:Un fs [] H H' h h1)(he:H' e=none)(hn:h.get? e=none):Un fs [] H (upd H' e o) h h1 where
 keep:=u.keep
 slot:=u.slot
 free:=fun b ob h1 h2 h3=>by
  rw[jp fun z=>by rw[z,hn]at h1;cases h1];exact u.free b ob h1 h2 h3
 there:=u.there
 tups:=fun b xs q=>by
  have:=u.tups b xs q;rw[jp fun z=>by rw[z,he]at this;cases this];exact this
 frzs:=fun b ob xs q=>by
  have:=u.frzs b ob xs q;rw[jp fun z=>by rw[z,he]at this;cases this];exact this
 tbls:=fun b ps q=>by
  obtain⟨m,this⟩:=u.tbls b ps q;exact⟨m,by rw[jp fun z=>by rw[z,he]at this;cases this];exact this⟩
 stay:=u.stay
theorem HOk.track(k:HOk P w H h)(he:H e=none)(ho:ObjOk P w (upd H e o) h e o):HOk P w (upd H e o) h:=fun a u hu=>by
 by_cases z:a=e
 .subst z
  rw[jb]at hu
  cases hu
  exact ho
 .rw[jp z]at hu
  refine (k a u hu).stay (fun b v _ q=>q) (fun b q=>?_) fun b xs q=>?_
  .rw[jp fun z=>by rw[z,he]at q;cases q];exact q
  .rw[jp fun z=>by rw[z,he]at q;cases q];exact q
theorem jcD{cls:ad}(F:Fly h0 H cls e h):ObjOk P w (upd H e (yn cls e)) h e (yn cls e):=by
 obtain⟨oe,vs,T,oT,ts,a0,t1,t2,t3,_⟩:=F.tr;exact⟨⟨oe,vs,t1,t2,t3⟩,⟨oe,t1⟩,fun h1 h2 ⟨o,v,q1,q2,q3⟩ k=>⟨o,v,k o q1,q2,q3⟩⟩
abbrev Cx.hush(X:Cx)(e:aa):Cx:={ X with A:=X.A.mark (some (.ref e)),calm:=false,xe:=fun _ _=>False }
section
variable {σ:St}
theorem Inv.hush(I:Inv X ac σ H s)(e:aa):Inv (X.hush e) ac σ H s:=
 ⟨⟨I.ok.mod,I.ok.kind,I.ok.glob,I.ok.blt,I.ok.above,I.ok.inj,I.ok.has,I.ok.cab,fun z=>(by cases z),I.ok.frames,I.ok.stk,I.ok.exf,I.ok.bs,I.ok.bsz,I.ok.noex,I.ok.exfs,I.ok.funs,I.ok.frf⟩,I.os,I.bare,I.base,I.loc,I.cell,I.free,I.freeC,I.pin,I.hok,I.len⟩
theorem Inv.unhush(ok:X.Ok)(I:Inv (X.hush e) ac σ H s):Inv X ac σ H s:=
 ⟨ok,I.os,I.bare,I.base,I.loc,I.cell,I.free,I.freeC,I.pin,I.hok,I.len⟩
theorem zV{E:ad->af->Prop}{i:Nat}{v:V}{pos:Pos}(I:Inv X ac σ H s)(hN:X.N.Nodup)(hi:X.N[i]?=some x)(hx:X.env.scope.names.lookup x=some .local)
  (h:∀s',Inv X ac (σ.set i none) H s'->Q () s'):ah M A (do nZ X.env x .none;P8 X.env x pos) Q E s:=by
 have Ba:(X.env.scope.kind == .class || (X.env.scope.kind == .module && X.env.locals != X.env.globals))=false:=by rw[I.ok.kind];rfl
 refine ae (Dc (qr (v:=.non) (u:=.none) I hN hi (.inl hx) rfl (fun s1 I1=>?_) (.inr hx)))
 unfold P8
 refine wpAny_onRaise ?_
 obtain⟨m,hn,hl⟩:=id I1.loc
 have pQ:i < σ.length:=by rw[I.len];exact (aY.mp hi).1
 obtain⟨u,_,q⟩:=hl i x .non hi (DX pQ) (.inl hx)
 have hm:∃v,m x=some v:=by
  rcases q with⟨_,q⟩ | ⟨q,_⟩
  .exact⟨_,q⟩
  .have hk:X.env.kindOf x=some .local:=hx
   rcases q with q | q <;> (rw[hk]at q;cases q)
 obtain⟨v,hm⟩:=hm
 refine wpAny_unbindName_local hx hn hm Ba fun h' u iV hs=>?_
 obtain⟨oL,_,_,gL,_⟩:=id hn
 have cne:=I1.cne
 refine h _ ⟨I1.ok,I1.os,I1.bare,⟨fun b o e n hb hx=>?_,fun b o e n hb hx=>?_,I1.base.free,fun b o e hx=>?_,I1.base.tups,I1.base.frzs,I1.base.tbls,fun b o xs q e hb hx=>(hs.2 b (aT (cj (aL e) I1.ok.above))).trans (I1.base.stay b o xs q e hb hx)⟩,⟨_,iV,fun j y v' e1 e2 e3=>?_⟩,fun y c e=>?_,I1.free,I1.freeC,fun p hp=>?_,fun b ob e=>?_,by simpa using I.len⟩
 .exact (hs.2 b (aT (cj (aL e) I1.ok.above))).trans (I1.base.keep b o e n hb hx)
 .obtain⟨sl,e1⟩:=I1.base.slot b o e n hb hx
  exact⟨sl,(hs.2 b (aT (cj (aL e) I1.ok.above))).trans e1⟩
 .obtain⟨o',e1⟩:=I1.base.there b o e hx
  exact⟨o',(hs.2 b (aT (cj (aL e) I1.ok.above))).trans e1⟩
 .by_cases hj:j=i
  .subst hj
   rw[DX pQ]at e2
   cases e2
  .rw[DY (br hj)]at e2
   have gS:(σ.set i (some V.non))[j]?=some (some v'):=by rw[DY (br hj)];exact e2
   obtain⟨u',r',q⟩:=hl j y v' e1 gS e3
   refine⟨u',r',?_⟩
   rcases q with⟨k,e⟩ | ⟨k,c,e,z⟩
   .refine .inl ⟨k,?_⟩
    have:y≠x:=fun e=>hj (Yr hN e1 (e ▸ hi))
    simp[this,e]
   .exact .inr ⟨k,c,e,z.sameBut hs (cne y c e)⟩
 .obtain⟨w',z⟩:=I1.cell y c e
  exact⟨w',z.sameBut hs (cne y c e)⟩
 .obtain⟨e,n,ne,nf,d⟩:=I1.pin p hp
  exact⟨(hs.2 p.1 ne).trans e,n,ne,nf,d⟩
 .refine (I1.hok b ob e).stay (fun c w' hc q=>(hs.2 c ?_).trans q) (fun _ q=>q) fun _ _ q=>q
  rintro rfl
  rcases hc with rfl | hc
  .rw[I1.free]at e;cases e
  .rw[I1.free]at hc;cases hc
end
theorem jfW{CX:CXT}{k:Nat}{cJ:List V}{ds:List ad}{σ:St}{Q:VK}{us:List ad}{vs:List V}(F:FnOk X.prog X.w X.K X.mg X.base CX k f fd ps sp)(hr:Room k X.A)(hb:Binds X.K fd ps ds)(hd:Vals cJ ds)
  (I:Inv X ac σ H s) (r:Vals vs us) (h:sp (vs++cJ) H Q E):ah (am X.prog X.w) X.A (call (.ref f) us) (EP X ac σ Q) (fun e s'=>CX X.stack H s E e s') s:=by
 have r2:Vals (vs++cJ) (us++ds):=r.append hd
 have hl:(us++ds).length=ps.length:=by rw[<- r2.length];exact F.len _ _ _ _ h
 refine Db (lj (F.run X.A X.stack s H ⟨us,[]⟩ (us++ds) (vs++cJ) Q E hr I.env0 (hb s us I.kIn hl) r2 h) fun r s' hq=>?_)
 cases r with
 | error e=>exact hq
 | ok fl=>
  cases fl with
  | ret u=>exact I.after hq
  | next=>exact ez hq
  | brk=>exact ez hq
  | cont=>exact ez hq
def Ends.gone(D:Ends)(i:Nat):Ends:={ nx:=fun σ H=>D.nx (σ.set i none) H,rt:=D.rt,bk:=fun σ H=>D.bk (σ.set i none) H,ct:=fun σ H=>D.ct (σ.set i none) H }
end L2
namespace PySem.W
open PySem PySem.Spec PySem.Calls PyProof.Rows Builtin Builtin.ObjectAttr Builtin.Getset_descriptor
section
variable {prog:az}{w:ax}{A:aM}{E:ad->af->Prop}{h:au}{g:Array Dy}{d:Drawn}{t:Nat}{os:OsState}{a C:aa}{o:Obj}{K:Frag}
theorem jgJ{M:gY}(hx:h.get? a=some o)(hc:o.cls=.ref C):Looks M h (typeOf (.ref a)) (.ref C):=hc ▸ (Looks.ld hx).andThen .now
structure XCls(K:Frag)(C:aa):Prop where
 cl:(clsIn K C).isSome=true
 ga:findIn K (.ref C) "__getattribute__" = some (some (.builtin "BaseException.__getattribute__"))
 gt:findIn K (.ref C) "__getattr__" = some none
 cc:findIn K (.ref C) "__class__" = some (some (.builtin "object.__class__"))
 ob:mroIn K C (.type "object")=some true
 be:mroIn K C (.type "BaseException")=some true
theorem jgS{R:ly->af->Prop}(Z:XCls K C)(X:K.In h)(hx:h.get? a=some o)(hc:o.cls=.ref C)(hq:R (.ok (.ret (.ref C))) ⟨h,g,d,t,os⟩):
  cD (am prog w) A (.call (.builtin "getset_descriptor.__get__") ⟨[.builtin "object.__class__",.ref a,.ref C],[]⟩) R ⟨h,g,d,t,os⟩:=by
 have L0:=jgJ (M:=am prog w) hx hc
 have L1:=looks_mroIn (M:=am prog w) X Z.ob
 refine Hw KF.slot_gs.plain KF.entry_gs (KF.slot_gs.check _ _ _ _ _ _ _ _ HW (KF.args_gs _ _ _) ?_)
 unfold Builtin.«getset_descriptor.__get__» descrGet
 rw[dga_obj]
 refine ae (aq ?_)
 unfold descrGetter descrCheckInstance descrNameAndClass Ho
 simp only[KF.owner_class]
 repeat lk
 refine⟨RR _ (by decide +kernel),lm KF.entry_class ?_⟩
 unfold Builtin.«object.__class__» shownTypeOf
 repeat lk
 exact hq
theorem jd3{tk:Tok}{Q:Fin->af->Prop}(Z:XCls K C)(X:K.In h)(hx:h.get? a=some o)(hc:o.cls=.ref C)(hq:Q (.done (.ret (.ref C))) ⟨h,g,d,t,os⟩):
  ah (am prog w) A (Builtin.«object.__getattribute__» ⟨[.ref a,.str "__class__" tk],[]⟩) Q E ⟨h,g,d,t,os⟩:=by
 have hT5:(⟨h,g,d,t,os⟩:af).TypeIs (.builtin "object.__class__") "getset_descriptor":=HW
 have f5:=HW
 have f6:=F.slot_gs_get.lookup
 have f7:=F.slot_gs_set.lookup
 have L:=looks_findIn (M:=am prog w) X Z.cc
 repeat (any_goals (first | assumption | (with_reducible refine GR hx ?_;rw[hc]) | with_reducible refine L.at ?_ | wp_step))
 refine jgS Z X hx hc ?_
 repeat (any_goals (first | assumption | wp_step))
theorem jd4{M:gY}{ER:ad}{Q:Unit->af->Prop}(Z:XCls K C)(X:K.In h)(hx:h.get? a=some o)(hc:o.cls=.ref C)(hq:Q () ⟨h,g,d,t,os⟩):ah M A (Hx "BaseException.__getattribute__" ⟨[.ref a,ER],[]⟩) Q E ⟨h,g,d,t,os⟩:=by
 have hk:builtinKind "BaseException.__getattribute__" = some .slot:=by decide +kernel
 have Nb:splitId "BaseException.__getattribute__" = some ("BaseException","__getattribute__"):=by decide +kernel
 have L:=looks_mroIn (M:=M) X Z.be;have ha:=F.args_bexc_ga (.ref a) ER;simp only[Hx,hk,Nb];refine ae ?_
 .unfold Ho
  repeat (first | (with_reducible refine GR hx ?_;rw[hc]) | with_reducible refine L.at ?_ | wp_step)
  exact hq
theorem jfJ{tk:Tok}{R:ly->af->Prop}(Z:XCls K C)(X:K.In h)(hx:h.get? a=some o)(hc:o.cls=.ref C)(hq:R (.ok (.ret (.ref C))) ⟨h,g,d,t,os⟩):
  cD (am prog w) A (.call (.builtin "BaseException.__getattribute__") ⟨[.ref a,.str "__class__" tk],[]⟩) R ⟨h,g,d,t,os⟩:=
 Hw RN.ga.plain F.entry_bexc_ga (jd4 Z X hx hc (jd3 Z X hx hc hq))
theorem jhH{tk:Tok}{fill rb:Bool}{Q:ad->af->Prop}(Z:XCls K C)(X:K.In h)(hx:h.get? a=some o)(hc:o.cls=.ref C)(hq:Q (.ref C) ⟨h,g,d,t,os⟩):
  ah (am prog w) A (getAttrBy (.ref a) (.str "__class__" tk) fill rb) Q E ⟨h,g,d,t,os⟩:=by
 have f3:=RN.ga.bind (.ref a)
 have E8:(rb && onTheHeap (Value.builtin "BaseException.__getattribute__"))=false:=by cases rb <;> rfl
 have pk:(Value.builtin "BaseException.__getattribute__" == Value.builtin "object.__getattribute__")=false:=by decide +kernel
 have E7:(onTheHeap (Value.ref C) && Value.builtin "BaseException.__getattribute__" == Value.builtin "object.__getattribute__")=false:=by rw[pk];rfl
 have L1:=looks_findIn (M:=am prog w) X Z.ga
 have L2:=looks_findIn (M:=am prog w) X Z.gt
 repeat (any_goals (first | assumption | (with_reducible refine GR hx ?_;rw[hc]) | with_reducible refine L1.at ?_ | with_reducible refine L2.at ?_ | wp_step))
 refine jfJ Z X hx hc ?_
 repeat (any_goals (first | assumption | wp_step))
theorem jfK{s:af}{Q:Option ad->af->Prop}(Z:XCls K C)(X:K.In s.heap)(hx:s.heap.get? a=some o)(hc:o.cls=.ref C)(hq:Q (some (.ref C)) { s with toks:=s.toks+1 }):
  ah (am prog w) A (getAttr? (.ref a) "__class__") Q E s:=by
 obtain⟨hh,g,d,t,os⟩:=s
 unfold getAttr? getAttrBy?
 refine ae (wpAny_mkText (ae (vF (jhH Z X hx hc ?_))))
 exact aq hq
theorem kitx_exc(Z:XCls K C):KitX K (.ref a) (.ref C) (fun h=>∃o,h.get? a=some o/\o.cls=.ref C) where
 ty:=fun _ _ _ ⟨o,hx,hc⟩=>jgJ hx hc
 it:=fun _ _ X _=>by
  have ik:=Z.cl;unfold clsIn at ik;split at ik
  .rename_i c' d' O2 fS ho
   intro A' Q' E' s' k q;unfold isType loadHead;exact ae (wpAny_loadPart (k _ _ (X _ _ ho)) (aq q))
  .cases ik
 ne:=fun h tp dd its n sl X ng=>by
  have ik:=Z.cl;refine Bool.eq_false_iff.mpr fun q=>?_
  have e:C=tp:=Value.ref.inj (beq_iff_eq.mp q);subst e;unfold clsIn at ik;split at ik
  .rename_i c' d' O2 fS ho
   have z:=(X _ _ ho).symm.trans ng
   cases z
  .cases ik
 ca:=fun X ⟨o,hx,hc⟩ k=>jfK Z X hx hc k
end
end PySem.W
namespace L2
open PySem PySem.Spec PyProof.Rows
variable {X:Cx}{C:aa}
theorem jd2{ac:List (aa×Obj)}{σ:St}{H:Hp}{s:af}{A:aM}{E:ad->af->Prop}{Q:ad->af->Prop}{c:ad}{b:Bool}{a:aa}(I:Inv X ac σ H s)(ha:H a=some (yn (.ref C) a))(Z:PySem.W.XCls X.K C)(e:dD X.K (.ref C) c=some b)(h:∀tk,Q (.bool b) { s with toks:=tk }):
  ah (am X.prog X.w) A (call (.builtin "isinstance") [.ref a,c]) Q E s:=by
 obtain⟨⟨oe,vs,t1,t2,t3⟩,_⟩:=(show ObjOk X.prog X.w H s.heap a (yn (.ref C) a) from I.hok a _ ha)
 exact W.kia_one (W.kitx_exc Z) I.kIn ⟨oe,t1,t2⟩ e (fun z=>nomatch z) h
abbrev TJ:=St->Hp->Str->(Str->Hp->Prop)->Prop
structure QJ(X:Cx)(es:List aj)(t:TJ):Prop where
 h:∀(ac:List (aa×Obj)) (s:af) (σ:St) (H:Hp) (out:Str) (Q:Str->Hp->Prop),Inv X ac σ H s->t σ H out Q->Joins (am X.prog X.w) X.A X.xe (evalEach es X.env) out (fun o s'=>∃H',Inv X ac σ H' s'/\Q o H') s
def jiP:TJ:=fun _ H out Q=>Q out H
def jik(te:TE)(t:TJ):TJ:=fun σ H out Q=>te σ H fun x H1=>∃y,x=.str y/\(out++y).length<=aF/\t σ H1 (out++y) Q
variable {e:aj}{es:List aj}{te:TE}{pos:Pos}
section
theorem jer:QJ X [] jiP:=⟨fun ac s σ H out Q I h=>Joins_nil ⟨H,I,h⟩⟩
theorem yx{t:TJ}(he:QE X e te)(ht:QJ X es t):QJ X (e :: es) (jik te t):=⟨fun ac s σ H out Q I h=>by
 refine Joins_cons (thn (he.h ac s σ H _ I h) fun v s1 hM=>?_);obtain⟨x,H1,I1,r,y,e1,hl,q⟩:=hM;subst e1;obtain⟨tk,rfl⟩:=r;exact⟨y,tk,rfl,hl,ht.h ac s1 σ H1 _ Q I1 q⟩⟩
def jiF(te:TE):TE:=fun σ H Q=>te σ H fun x H1=>∃y,x=.str y/\y.length<=aF/\Q (.str y) H1
theorem jfI(he:QE X e te):QE X (.FormattedValue e (-1) none pos) (jiF te):=⟨fun ac s σ H Q I h=>by
 refine P5 (thn (he.h ac s σ H _ I h) fun v s1 hM=>?_);obtain⟨x,H1,I1,r,y,e1,hl,q⟩:=hM;subst e1;obtain⟨tk,rfl⟩:=r;exact wpAny_formatField_str ⟨.str y,H1,I1,⟨_,rfl⟩,q⟩ ⟨.str y,H1,I1.tok _,⟨_,rfl⟩,q⟩ hl⟩
def jhX(te:TE):TE:=fun σ H Q=>te σ H fun x H1=>∃i:Int,x=.int i/\i.natAbs < 2 ^ 100/\Q (.str (bx (nS i))) H1
theorem jat(he:QE X e te):QE X (.FormattedValue e (-1) none pos) (jhX te):=⟨fun ac s σ H Q I h=>by
 refine P5 (thn (he.h ac s σ H _ I h) fun v s1 hM=>?_);obtain⟨x,H1,I1,r,i,e1,hl,q⟩:=hM;subst e1;obtain⟨tk,rfl⟩:=r;refine wpAny_formatField_int ?_ ⟨.str _,H1,I1.tok _,⟨_,rfl⟩,q⟩;by_cases h0:i.natAbs=0
 .rw[h0];decide
 .exact cj ((IZ h0).mpr hl) (by decide)⟩
def jhW(t:TJ):TE:=fun σ H Q=>t σ H eR fun o H1=>o.length<=aF/\Q (.str o) H1
theorem jas{v1 v2:aj}{qV:List aj}{t:TJ}(h:QJ X (v1 :: v2 :: qV) t):QE X (.JoinedStr (v1 :: v2 :: qV) pos) (jhW t):=⟨fun ac s σ H Q I hw=>by
 refine wpAny_JoinedStr ?_;have hh:=h.h ac s σ H eR _ I hw;have mono:∀(l:List aj) (aP:Str) (s:af) (Q Q':Str->af->Prop),(∀o s,Q o s->Q' o s)->Joins (am X.prog X.w) X.A X.xe (evalEach l X.env) aP Q s->Joins (am X.prog X.w) X.A X.xe (evalEach l X.env) aP Q' s:=by
  intro l;induction l with
  | nil=>intro aP s Q Q' hq h;exact hq _ _ h
  | cons e r ih=>
   intro aP s Q Q' hq h;refine Joins_cons (thn (show ah _ _ (eval e X.env) _ _ _ from h) fun v s1 ⟨y,tk,e1,hl,q⟩=>⟨y,tk,e1,hl,ih _ _ _ _ hq q⟩)
 refine mono _ _ _ _ _ (fun o s' ⟨H',I',hl,q⟩=>⟨hl,.str o,H',I'.tok _,⟨_,rfl⟩,q⟩) hh⟩
end
variable {E:XK}
theorem XW.own(W:XW X E):Ds (am X.prog X.w) X.A X.env X.xe:=by
 rw[W.xe];exact Ds.leaving
variable {k':Nat}{x:Str}{ps:List Str}{sp:Sp}{t:TA}
theorem zK{k:Nat}{p pos:Pos}(F:FnX X.prog X.w X.K X.mg X.base k x ps sp)(W:XW X E)(hr:Room k' X.A)(ha:QA X (e :: es) t)(hk:k<=k':=by first | decide | omega)(hg:Gl X x:=by rfl)
  (hd:(x == ("__debug__" : Str))=false:=by decide) (hp:(e :: es).all qf=true:=by rfl):QE X (.Call (.Name x p) (e :: es) [] pos) (jaA sp [] E t):=⟨by
 obtain⟨f,fd,G,b,kp,m⟩:=F.ex
 rw[g7,cm]at hp
 exact jcp G (hr.mono hk) hg m kp b .nil W.passes ha.h hd (qM hp.1 es X.env) (yR pos X.env es hp.2)⟩
theorem Y6{np cC:Pos}(W:XW X E)(hc:X.calm=true)(hg:Gl X x)(hm:X.mg x=some (.ref C))(hx:PySem.W.excIn X.K C valB "ValueError.__new__" = true)(ha:QA X (e :: es) t)(hd:(x == ("__debug__" : Str))=false:=by decide)(hp:(e :: es).all qf=true:=by rfl):
  QS X (.Raise (some (.Call (.Name x np) (e :: es) [] cC)) none pos) (jgX C E t):=⟨by
 intro ac s σ H D I h
 rw[g7,cm]at hp
 have he:=qM hp.1 es X.env
 have cy:=yR cC X.env es hp.2
 obtain⟨bm,N,nm,q,bs,hdct,sn,sub,ab,col,dd,k0,k1,k2,k3,k5,mN,o1,o2,o3,o4⟩:=yD I.mod.kin hx
 have i0:bm.contains (.type "BaseException")=true:=Ih o4 sf.hasBase
 refine wpAny_Raise_call_subU (nm:=nm) (q:=q) (C:=C) (N:=N) (bs:=bs) (bm:=bm) (bmB:=valB) (hdct:=hdct) (sn:=sn) (sub:=sub) (ab:=ab) (col:=col) (dd:=dd) (k0:=k0) (k1:=k1) (k2:=k2) (k3:=k3) (k5:=k5) (mN:=mN) sf (show valB.contains (.type "ValueError")=true from sf.hasB) sf i0 (I.ok.hd hc) ?_ o3 (zS I hg hm ⟨rfl,?_⟩ hd)
 .rw[he];exact cy
 .have ub:=ha.h cC ac s σ H _ I h
  rw[he]at ub |-
  refine Ix (thn ub fun us s2 hM=>?_)
  obtain⟨vs,H2,I2,r,hlen,hE⟩:=hM
  refine⟨rfl,?_,I2.bk _ _ o1,o2.keeps I2.bk,YY I2.bk o4,fun h' ea me=>?_⟩
  .show us.length<=aF
   rw[<- r.length]
   exact cP (jS hlen)
  .obtain⟨tt,m1,m2,m3⟩:=me.there
   obtain⟨n1,n2⟩:=W.hH I2 ea me.new
   have I3:Inv X ac σ H2 { s2 with heap:=h' }:=I2.kept (t':=s2.toks) me.keeps
   exact W.first I3 (cls:=.ref C) n1 n2 m1 rfl rfl rfl rfl hE⟩
theorem jak:qX X (.builtin "isinstance") (fun xs H Q=>∃a C D b,xs=[.ref a,.ref D]/\H a=some (yn (.ref C) a)/\PySem.W.XCls X.K C/\dD X.K (.ref C) (.ref D)=some b/\Q (.bl b) H):=by
 intro ac s σ H xs us Q I r h;obtain⟨a,C,D,b,rfl,ha,Z,e,q⟩:=h;obtain⟨u,v,rfl,ru,rv⟩:=jhI r
 cases ru
 cases rv
 exact jd2 I ha Z e fun tk=>⟨.bl b,H,I.tok _,rfl,q⟩
variable {p:Pos}
theorem kJ{k:Nat}(h1:Fn X.prog X.w X.K X.mg X.base k x ps sp)(h2:Room k' X.A)(h3:QA X (e :: es) t)(h4:k<=k':=by omega)(h5:Gl X x:=by rfl)(h6:(x == bx "__debug__")=false:=by decide)(h7:List.all (e :: es) qf=true:=by rfl):QE X (Expr.Call (Expr.Name x p) (e :: es) [] pos) (jaA sp [] E0 t):=
 ⟨@jgO _ _ _ _ _ _ _ _ _ _ _ h1 h2 h3.h h4 h5 h6 h7⟩
theorem jfH{k:Nat}(h1:MkFn X.prog X.w X.K X.mg X.base k x C ps sp)(h2:Room k' X.A)(h3:QA X (e :: es) t)(h4:k+1<=k':=by omega)(h5:Gl X x:=by rfl)(h6:(x == bx "__debug__")=false:=by decide)(h7:List.all (e :: es) qf=true:=by rfl):QE X (Expr.Call (Expr.Name x p) (e :: es) [] pos) (Ze C sp [] E0 t):=
 ⟨@jgN _ _ _ _ _ _ _ _ _ _ _ _ h1 h2 h3.h h4 h5 h6 h7⟩
open PySem PySem.Spec PyProof.Rows PySem.W
abbrev kL(P:az)(w:ax)(v:aa)(σ:List Str):HO:=.ext fun h=>SetAtS P w h v (ledOf w) σ
variable {P:az}{w:ax}{K:av}
theorem YQ(hc:X.calm=true)(h1:X.prog=P:=by rfl)(h2:X.w=w:=by rfl)(h3:X.K=K:=by rfl):qX X (.type "set") (fun xs H Q=>∃(p:aa) (ns:List Str),xs=[.ref p]/\SqL K H p (ns.map V.str)/\ns.length<=1000/\∀v,H v=none->Q (.ref v) (upd H v (kL P w v (dedupS ns)))):=by subst h1 h2 h3;exact Y5 hc
theorem KU(hc:X.calm=true)(h1:X.prog=P:=by rfl)(h2:X.w=w:=by rfl)(h3:X.K=K:=by rfl):qX X (.type "set") (fun xs H Q=>∃(p:aa) (ns:List Str),xs=[.ref p]/\SqT K H p (ns.map V.str)/\ns.length<=1000/\∀v,H v=none->Q (.ref v) (upd H v (kL P w v (dedupS ns)))):=by subst h1 h2 h3;exact YO hc
theorem J8(hc:X.calm=true)(h1:X.prog=P:=by rfl)(h2:X.w=w:=by rfl):qX X (.builtin "sorted") (fun xs H Q=>∃(p:aa) (τ:List Str),xs=[.ref p]/\H p=some (kL P w p τ)/\τ.length < 64/\∀(l:aa) (ns:List Str),H l=none->ns.Perm τ->sortedS ns=true->Q (.ref l) (upd H l (.lst (ns.map V.str)))):=by subst h1 h2;exact Kz hc
theorem jcq(h1:X.prog=P:=by rfl)(h2:X.w=w:=by rfl):OpR X (eM .BitOr) (fun x y H Q=>∃(a b:aa) (σ1 σ2:List Str),x=.ref a/\y=.ref b/\H a=some (kL P w a σ1)/\H b=some (kL P w b σ2)/\σ1.Nodup/\σ2.Nodup/\σ1.length+σ2.length<=15/\∀v σ',H v=none->σ'.Nodup->(∀z,z∈σ'↔z∈σ1\/z∈σ2)->Q (.ref v) (upd H v (kL P w v σ'))):=by subst h1 h2;exact jha
theorem jcR{z:Str}{j:Nat}{p1:Pos}(hc:vM X.K X.env.code=true)(h1:X.prog=P:=by rfl)(h2:X.w=w:=by rfl):QE X (.Set [.Constant (.str z) j p1] 0 pos) (fun _ H Q=>∀v,H v=none->Q (.ref v) (upd H v (kL P w v [z]))):=by subst h1 h2;exact jdW hc
theorem Jp(h:X.K=K:=by rfl):OpR X (dZ .NotIn) (rIn K true):=by subst h;exact Z6
theorem yZ(x:Str):∀ys:List Str,inV (.str x) (ys.map V.str)=decide (x∈ys)
 | []=>by simp[inV]
 | y :: ys=>by
  have ih:=yZ x ys;unfold inV at ih |-;rw[bE,sJ,ih];have e:eqV (.str y) (.str x)=decide (x=y):=by
   show (y == x)=_;by_cases h:x=y
   .subst h;simp
   .rw[Ts h];simpa using fun z=>h z.symm
  rw[e];simp[aN]
theorem Ku:∀ys:List Str,(ys.map V.str).all JX=true
 | []=>rfl
 | y :: ys=>by rw[bE,g7,Ku ys];rfl
theorem lt_trans{a b c:List Nat}(h1:ltCps a b=true)(h2:ltCps b c=true):ltCps a c=true:=by
 induction a generalizing b c with
 | nil=>cases c with
  | nil=>cases b <;> simp[ltCps]at h1 h2
  | cons _ _=>rfl
 | cons x a ih=>
  cases b with
  | nil=>simp[ltCps]at h1
  | cons y b=>cases c with
   | nil=>simp[ltCps]at h2
   | cons z c=>
    simp only[ltCps,mR,cm,decide_eq_true_eq,beq_iff_eq]at h1 h2 |-;rcases h1 with h1 | ⟨h1,fH⟩
    .rcases h2 with h2 | ⟨h2,fq⟩
     .left;omega
     .left;omega
    .rcases h2 with h2 | ⟨h2,fq⟩
     .left;omega
     .right;exact⟨by omega,ih fH fq⟩
abbrev ltT(a b:Str):Prop:=ltCps a.cps.toList b.cps.toList=true
theorem jhm(a:List Nat):ltCps a a=false:=by
 induction a with
 | nil=>rfl
 | cons x a ih=>simp only[ltCps,g0,decide_false,Th,ih,Lp]
theorem je6:∀{a b:List Nat},ltCps a b=false->a≠b->ltCps b a=true
 | [],[],_,h=>absurd rfl h
 | [],_ :: _,h,_=>by simp[ltCps]at h
 | _ :: _,[],_,_=>rfl
 | x :: a,y :: b,h,aW=>by
  simp only[ltCps,Bool.or_eq_false_iff,Bool.and_eq_false_iff,decide_eq_false_iff_not]at h;simp only[ltCps,mR,cm,decide_eq_true_eq,beq_iff_eq];by_cases e:x=y
  .subst e
   right;refine⟨rfl,je6 ?_ fun z=>aW (by rw[z])⟩;rcases h.2 with g | g
   .exact absurd g (by simp)
   .exact g
  .left;omega
theorem jfS{a b:Str}(h:a.cps.toList=b.cps.toList):a=b:=by
 cases a;cases b
 congr 1;exact Array.ext' h
theorem Zk:∀(p:Str) (l:List Str),risingS p l=true->(p :: l).Nodup->(p :: l).Pairwise ltT
 | p,[],_,_=>by simp
 | p,x :: r,h,nd=>by
  have h':(!ltCps x.cps.toList p.cps.toList && risingS x r)=true:=h;rw[cm]at h';obtain⟨n1,n2⟩:=cW.mp nd;have ih:=Zk x r h'.2 n2;have Fq:ltT p x:=je6 (by simpa using h'.1) fun z=>n1 (by rw[<- jfS z];exact bt)
  refine wb.mpr ⟨fun y hy=>?_,ih⟩;rcases aN.mp hy with rfl | hy
  .exact Fq
  .exact lt_trans Fq ((wb.mp ih).1 y hy)
theorem jc0{l:List Str}(h:sortedS l=true)(nd:l.Nodup):l.Pairwise ltT:=by
 cases l with
 | nil=>exact .nil
 | cons p r=>exact Zk p r h nd
theorem Zp:∀{l l':List Str},l.Pairwise ltT->l'.Pairwise ltT->(∀x,x∈l↔x∈l')->l=l'
 | [],[],_,_,_=>rfl
 | [],y :: _,_,_,h=>by have:=(h y).mpr bt;cases this
 | x :: _,[],_,_,h=>by have:=(h x).mp bt;cases this
 | x :: l,y :: l',h1,h2,h=>by
  obtain⟨a1,a2⟩:=wb.mp h1;obtain⟨b1,b2⟩:=wb.mp h2;have An:∀z:Str,¬ltT z z:=fun z hz=>by have:=jhm z.cps.toList;unfold ltT at hz;rw[this]at hz;cases hz
  have e:x=y:=by
   rcases aN.mp ((h x).mp bt) with e | hx
   .exact e
   rcases aN.mp ((h y).mpr bt) with e | hy
   .exact e.symm
   .exact absurd (lt_trans (b1 x hx) (a1 y hy)) (An y)
  subst e;congr 1;refine Zp a2 b2 fun z=>⟨fun hz=>?_,fun hz=>?_⟩
  .rcases aN.mp ((h z).mp (bu _ hz)) with rfl | g
   .exact absurd (a1 _ hz) (An _)
   .exact g
  .rcases aN.mp ((h z).mpr (bu _ hz)) with rfl | g
   .exact absurd (b1 _ hz) (An _)
   .exact g
end L2
namespace LW
open PySem L2
abbrev zk:aA:=top 77
structure Pc where
 f:Str
 ps:List Str
 rs:List Str
 nd:List Cl
 gv:List Cl
 lv:Nat
 bd:List (StN lv)
def Pc.toD(p:Pc):D:=.tup [.str "proc",.str p.f,.tup (p.ps.map D.str),.tup (p.rs.map D.str),.tup (p.nd.map Cl.toD),.tup (p.gv.map Cl.toD),.tup (p.bd.map (stD p.lv))]
def Pc.named(p:Pc):List Str:=(p.nd++p.gv).flatMap Cl.ns++(kN p.lv p.bd).flatMap Nd.ns
def zU(rs:List Str)(x:Str):Bool:=!decide (x=("" : Str)) && !decide (x∈rs)
def Pc.others(p:Pc):List Str:=p.named.filter (zU p.rs)
structure PcOk(p:Pc):Prop where
 nd:p.nd.length<=20
 gv:p.gv.length<=20
 bd:(kN p.lv p.bd).length<=100
 nm:p.named.length<=420
 few:(dedupS p.others).length+(dedupS p.ps).length<=14
 ps:p.ps.length<=100
 sm:∀N∈kN p.lv p.bd,N.few
variable {H:Hp}{p:Pc}{v:V}
theorem Yo(h:Held H p.toD v):∃a ap ar an ag ab vn vg vb,v=.ref a/\H a=some (.tup [.str "proc",.str p.f,.ref ap,.ref ar,.ref an,.ref ag,.ref ab])/\H ap=some (.tup (p.ps.map V.str))/\H ar=some (.tup (p.rs.map V.str))/\H an=some (.tup vn)/\HeldL H (p.nd.map Cl.toD) vn/\H ag=some (.tup vg)/\HeldL H (p.gv.map Cl.toD) vg/\H ab=some (.tup vb)/\HeldL H (p.bd.map (stD p.lv)) vb:=by
 obtain⟨a,xs,rfl,ha,h1⟩:=js h;obtain⟨v1,r1,rfl,e1,h2⟩:=jg h1;obtain⟨v2,r2,rfl,e2,h3⟩:=jg h2;obtain⟨v3,r3,rfl,e3,h4⟩:=jg h3;obtain⟨v4,r4,rfl,e4,h5⟩:=jg h4;obtain⟨v5,r5,rfl,e5,h6⟩:=jg h5;obtain⟨v6,r6,rfl,e6,h7⟩:=jg h6;obtain⟨v7,r7,rfl,e7,h8⟩:=jg h7
 cases jv h8
 cases jA e1
 cases jA e2
 obtain⟨ap,xp,rfl,hp,cN⟩:=js e3;obtain⟨ar,xr,rfl,hr,dG⟩:=js e4;obtain⟨an,vn,rfl,hn,iV⟩:=js e5;obtain⟨ag,vg,rfl,hg,N9⟩:=js e6;obtain⟨ab,vb,rfl,hb,aJ⟩:=js e7
 cases qg cN
 cases qg dG
 exact⟨a,ap,ar,an,ag,ab,vn,vg,vb,rfl,ha,hp,hr,hn,iV,hg,N9,hb,aJ⟩
theorem jgE(l:List Cl):(l.flatMap Cl.ns).length<=3 * l.length:=by
 induction l with
 | nil=>exact bA _
 | cons c r ih=>rw[oA,aO,bo];have:=c.ns_len;omega
theorem jbO:∀{l m:List Str},l.Nodup->(∀x∈l,x∈m)->l.length<=m.length
 | [],_,_,_=>bA _
 | x :: l,m,nd,h=>by
  obtain⟨n1,n2⟩:=cW.mp nd;have hx:=h x bt;have:=jbO (m:=m.erase x) n2 fun y hy=>(SS (show y≠x from fun z=>n1 (by rw[<- z];exact hy))).mpr (h y (bu _ hy))
  rw[SZ hx]at this;have:0 < m.length:=SY hx;rw[bo];omega
inductive spNumbersOf(n:Nat)(vs:List V)(H:Hp)(Q:VK)(E:XK):Prop
 | mk (v:V) (p:Pc) (_:vs=[v]) (_:p.lv=n) (_:Held H p.toD v) (_:PcOk p) (_:∀(l:aa) (ns:List Str) (H':Hp),Same H H'->H l=none->H' l=some (.lst (ns.map V.str))->ns.Pairwise ltT->ns.length<=15->(∀x,x∈ns↔x∈p.others\/x∈p.ps\/x = "out")->Q (.ref l) H')
variable {P:az}{w:ax}{K:av}{mg:Str->Option ad}{base:au}{n:Nat}{f:aa}{fd:aD}
section
theorem Z8(F:Fun K "numbers_of" "numbers_of" zk f fd)(B:Free0 mg)(nQ:Fn P w K mg base 3 "claims_numbers" ["claims"] Kk)(rA:Fn P w K mg base (n+2) "all_statements" ["body"] (spAll n))(Cr:Fn P w K mg base 4 "numbers_named" ["statement"] spNamedN):FnOk P w K mg base CX0 (n+4+1) f fd ["proc"] (spNumbersOf n):=by
 have sc:FnScope ["proc","params","rows","needs","gives","body","named","statement","others"] ["proc"] (ji zk):=fQ;refine F.okC sc (fun vs H Q E h=>?_) (fun ay A outer s H vs Q E cR hr h=>?_)
 .obtain⟨v,p,rfl,_⟩:=h
  rfl
 obtain⟨v,p,rfl,rfl,hv,hp,q⟩:=h;refine⟨_,(ja (kX (kC zZ (zpv 0) (kF jl) qp) (jX rfl (jm (jj (i:=1) sc.nd rfl oQ) (jm (jj (i:=2) sc.nd rfl oQ) (jm (jj (i:=3) sc.nd rfl oQ) (jm (jj (i:=4) sc.nd rfl oQ) (jm (jj (i:=5) sc.nd rfl oQ) jJ)))))))
   (ja (jt (i:=6) sc.nd rfl oQ (kJ nQ hr (jd (jG yX (zpv 3) (zpv 4)) jc)))
   (ja (jW cb rfl (jR (kJ rA hr (jd (zpv 5) jc))) (jj (i:=7) sc.nd rfl oQ) (jf (j7 (ql dL r_ rZ zB (zpv 6) (jd (kJ Cr hr (jd (zpv 7) jc)) jc)))))
   (ja (kZ (i:=8) sc.nd rfl oQ ["x"] [2] rfl (j9 (sc:=ji zk) (N:=["proc","params","rows","needs","gives","body","named","statement","others"]) rfl rfl (by decide +kernel)) (jR (zpv 6)) (fun s H ex=>⟨(jj (i:=0) (show bg (["x","rows"]:List Str) by decide +kernel) rfl oQ),(zC (ZN (jw jif (zpv 0) jy (jF _)) (K8 (jw (Jp (K:=K)) (zpv 0) (zpv 1) rfl))).pt),(zpv 0)⟩))
   (jf (jr (qa (J8 (P:=P) (w:=w) rfl) (by rfl) B.sorted_ ZF (jd (jG (jcq (P:=P) (w:=w)) (jG (jcq (P:=P) (w:=w)) (yO (YQ (P:=P) (w:=w) (K:=K) rfl) (by rfl) B.set_ jft (jd (zpv 8) jc)) (yO (KU (P:=P) (w:=w) (K:=K) rfl) (by rfl) B.set_ jft (jd (zpv 1) jc))) (jcR (P:=P) (w:=w) cR)) jc)))))))),?_⟩
 refine jV (σ':=[some v,none,none,none,none,none,none,none,none]) rfl ?_
 try dsimp only[j5]
 refine YD ?_;intro _ _ _ _;obtain⟨a,ap,ar,an,ag,ab,vn,vg,vb,rfl,ha,t_,i4,ua,hn,pY,hg,bI,hb⟩:=Yo hv;refine⟨_,rfl,_,rfl,a,_,rfl,SqT.of ha,(fun h=>absurd h.1 (by show ¬(HT.sIx 7 0 (some 2)=0);decide)),fun t ht=>?_⟩;have s1:=je ht (.tup (qo [.str "proc",.str p.f,.ref ap,.ref ar,.ref an,.ref ag,.ref ab] (some 2) none));have e1:upd H t (.tup (qo [.str "proc",.str p.f,.ref ap,.ref ar,.ref an,.ref ag,.ref ab] (some 2) none)) t=some (.tup [.ref ap,.ref ar,.ref an,.ref ag,.ref ab]):=jb;generalize upd H t (.tup (qo [.str "proc",.str p.f,.ref ap,.ref ar,.ref an,.ref ag,.ref ab] (some 2) none))=H1 at *;refine⟨t,_,rfl,SqT.of e1,rfl,_,_,rfl,_,_,rfl,_,_,rfl,_,_,rfl,_,_,rfl,rfl,?_⟩;refine jV (σ':=[some (.ref a),some (.ref ap),some (.ref ar),some (.ref an),some (.ref ag),some (.ref ab),none,none,none]) rfl ?_;refine⟨_,rfl,_,rfl,an,ag,_,_,rfl,rfl,s1 _ _ ua,s1 _ _ pY,?_,fun t2 H2 s2 fe=>?_⟩
 .have l1:=hn.length;have l2:=hg.length
  rw[aC]at l1 l2;have:=hp.nd;have:=hp.gv;exact km (by omega)
 have bv:=s1.trans s2;refine⟨t2,_,p.nd++p.gv,rfl,fe,by rw[bh];exact j0 (hn.mono bv) (hg.mono bv),by rw[aO];have:=hp.nd;have:=hp.gv;omega,fun l H3 s3 n3 e3=>?_⟩;have cG:=bv.trans s3;refine gQ ?_;refine⟨_,rfl,ab,vb,p.bd,rfl,cG _ _ bI,hb.mono cG,by have:=hp.bd;omega,fun l2 vb H4 s4 n4 e4 hb=>?_⟩;have Bx:=s4 _ _ e3;have s_:=cG.trans s4;have hl:H l=none:=bv.free n3;have L8:l2≠l:=fun z=>by rw[z]at n4;rw[e3]at n4;cases n4
 have i3:=hb.length;rw[aC]at i3;have hb40:=hp.bd;have hn20:=hp.nd;have N7:=hp.gv;have Oi:=jgE (p.nd++p.gv);rw[aO]at Oi;refine⟨l2,rfl,⟨_,SqL.of e4⟩,?_⟩;refine kn (xs:=vb) (fun i σ G=>∃u7,σ=[some (.ref a),some (.ref ap),some (.ref ar),some (.ref an),some (.ref ag),some (.ref ab),some (.ref l),u7,none]/\Same H G/\TK H4 G/\G l2=some (.lst vb)/\G l=some (.lst (((p.nd++p.gv).flatMap Cl.ns++((kN p.lv p.bd).take i).flatMap Nd.ns).map V.str))) ⟨none,rfl,s_,(fun _ _ e=>e),e4,by rw[Bx];simp⟩ ?_ ?_ ?_
 .rintro i σ G _ ⟨u7,rfl,sG,mT,bS,_⟩
  exact SqL.of bS
 .rintro i x σ G hx ⟨u7,rfl,sG,mT,bS,hG⟩
  have hi:i < (kN p.lv p.bd).length:=by have:=(aY.mp hx).1;omega
  obtain⟨x',aZ,dS⟩:=hb.get (show ((kN p.lv p.bd).map Nd.toD)[i]?=some (kN p.lv p.bd)[i].toD by rw[bU,aI hi];rfl);rw[hx]at aZ
  cases aZ
  have Fx:=hp.nm;have ii:=zz Nd.ns (kN p.lv p.bd) (i+1);have gq:(kN p.lv p.bd).take (i+1)=(kN p.lv p.bd).take i++[(kN p.lv p.bd)[i]]:=by rw[cE,aI hi];rfl
  rw[gq,oB,aO,oA,S6,dl]at ii;unfold Pc.named at Fx;rw[aO]at Fx;refine y7 ?_;intro _;refine gQ ?_;refine⟨_,rfl,.inl ⟨rfl,_,SqL.of hG⟩,_,rfl,x,(kN p.lv p.bd)[i],rfl,mT.held dS,hp.sm _ (gD hi),fun l3 G2 s5 n5 e5=>?_⟩;have Ge:=s5 _ _ hG;refine⟨l,l3,_,_,rfl,rfl,Ge,e5,aU (by rw[aC,aC,aO];omega) (km (aB 1000)),?_⟩;refine⟨_,rfl,fun b o e=>?_,fun b o e=>(TK.upd Ge (fun _ z=>by cases z)) _ _ (s5 _ _ (mT _ _ e)),?_,?_⟩
  .rw[jp (jh e hl)];exact s5 _ _ (sG _ _ e)
  .rw[jp L8];exact s5 _ _ bS
  .rw[jb,gq]
   simp only[oB,oA,S6,dl,bh,em]
 rintro σ G ⟨u7,rfl,sG,mT,bS,hG⟩;have et:(kN p.lv p.bd).take vb.length=kN p.lv p.bd:=by rw[<- i3,cV]
 rw[et]at hG;have eN:(p.nd++p.gv).flatMap Cl.ns++(kN p.lv p.bd).flatMap Nd.ns=p.named:=rfl;rw[eN]at hG;have dX:p.named.length<=420:=hp.nm;refine⟨_,rfl,l,rfl,⟨_,SqL.of hG⟩,fun pp dB=>?_⟩;have s6:=je dB (.lst []);refine kU (xs:=p.named.map V.str) (fun i σ' G'=>∃u,σ'=[u,some (.ref ar)]/\Same G G'/\G' pp=some (.lst (((p.named.take i).filter (zU p.rs)).map V.str))) ⟨none,rfl,s6,jb⟩ ?_ ?_ ?_
 .rintro i σ' G' _ ⟨u,rfl,cu,_⟩
  exact SqL.of (cu _ _ hG)
 .rintro i x σ' G' hx ⟨u,rfl,cu,Bm⟩
  have hi:i < p.named.length:=by
   have:=(aY.mp hx).1;rw[aC]at this;exact this
  rw[bU,aI hi]at hx
  cases hx
  have ii:((p.named.take i).filter (zU p.rs)).length<=420:=by
   have:=oz (zU p.rs) (p.named.take i);rw[cM]at this;omega
  have et:(p.named.take (i+1)).filter (zU p.rs)=(p.named.take i).filter (zU p.rs)++(if zU p.rs p.named[i]=true then [p.named[i]] else []):=by
   rw[cE,aI hi,Ll];congr 1;show S8 _ [p.named[i]]=_;rw[wj];rfl
  unfold kO;have eS:∀x:Str,decide (V.str x=V.str ("" : Str))=decide (x=("" : Str)):=fun x=>by
   by_cases h:x=("" : Str)
   .rw[Tr h,Tr (Tw V.str h)]
   .rw[Ts h,Ts (fun z=>h (by injection z))]
  refine⟨_,rfl,rfl,_,rfl,jZ (fun d1=>?_) (fun d1=>?_)⟩
  .rw[eS]at d1
   refine⟨_,rfl,_,rfl,ar,p.rs.map V.str,rfl,.inr (SqT.of (cu _ _ (sG _ _ i4))),rfl,Ku _,_,rfl,jZ (fun d2=>?_) (fun d2=>?_)⟩
   .have gr:(!inV (.str p.named[i]) (p.rs.map V.str))=true:=d2
    rw[yZ]at gr;have ek:zU p.rs p.named[i]=true:=by unfold zU;rw[d1,gr];rfl
    refine⟨_,rfl,_,Bm,jS (by rw[aC];omega),_,rfl,fun z o e=>?_,?_⟩
    .rw[jp (jh e dB)];exact cu _ _ e
    .rw[jb,et,Tu ek,bh];rfl
   .have gr:¬(!inV (.str p.named[i]) (p.rs.map V.str))=true:=d2
    rw[yZ]at gr;have ek:¬zU p.rs p.named[i]=true:=by unfold zU;rw[d1];exact gr
    exact⟨_,rfl,cu,by rw[et,Tt ek,dl];exact Bm⟩
  .rw[eS]at d1
   have ek:¬zU p.rs p.named[i]=true:=fun z=>d1 (by unfold zU at z;rw[cm]at z;exact z.1)
   exact yj ⟨_,rfl,cu,by rw[et,Tt ek,dl];exact Bm⟩
 rintro σ' G6 ⟨u,rfl,LM,Bo⟩;rw[aC,cV]at Bo;have eO:(p.named.filter (zU p.rs))=p.others:=rfl;rw[eO]at Bo;have iU:p.others.length<=420:=aU (oz _ _) dX;obtain⟨d1,_,d2⟩:=Ky p.others;obtain⟨d3,_,d4⟩:=Ky p.ps;have pS:=hp.few;have ni:=hp.ps;have En:Same H G6:=sG.trans LM;refine gQ ?_;refine⟨_,rfl,pp,p.others,rfl,SqL.of Bo,by omega,fun v1 M1=>?_⟩;have s7:=je M1 (kL P w v1 (dedupS p.others));have e7:upd G6 v1 (kL P w v1 (dedupS p.others)) v1=some (kL P w v1 (dedupS p.others)):=jb;generalize upd G6 v1 (kL P w v1 (dedupS p.others))=G7 at *;refine⟨_,rfl,ap,p.ps,rfl,SqT.of (s7 _ _ (En _ _ t_)),by omega,fun v2 hZ=>?_⟩;have s8:=je hZ (kL P w v2 (dedupS p.ps));have e8:upd G7 v2 (kL P w v2 (dedupS p.ps)) v2=some (kL P w v2 (dedupS p.ps)):=jb;generalize upd G7 v2 (kL P w v2 (dedupS p.ps))=G8 at *;refine⟨v1,v2,_,_,rfl,rfl,s8 _ _ e7,e8,d1,d3,by omega,fun v3 τ3 M0 ES m3=>?_⟩;have s9:=je M0 (kL P w v3 τ3);have e9:upd G8 v3 (kL P w v3 τ3) v3=some (kL P w v3 τ3):=jb;generalize upd G8 v3 (kL P w v3 τ3)=G9 at *;intro v4 MZ;have dP:=je MZ (kL P w v4 ["out"]);have Bz:upd G9 v4 (kL P w v4 ["out"]) v4=some (kL P w v4 ["out"]):=jb;generalize upd G9 v4 (kL P w v4 ["out"])=G10 at *;have l3:τ3.length<=14:=by
  have:=jbO (m:=dedupS p.others++dedupS p.ps) ES (fun x hx=>bB.mpr ((m3 x).mp hx));rw[aO]at this;omega
 refine⟨v3,v4,_,_,rfl,rfl,dP _ _ e9,Bz,ES,by simp,by show τ3.length+1<=15;omega,fun v5 τ5 MY n5 m5=>?_⟩;have bp:=je MY (kL P w v5 τ5);have By:upd G10 v5 (kL P w v5 τ5) v5=some (kL P w v5 τ5):=jb;generalize upd G10 v5 (kL P w v5 τ5)=G11 at *;have l5:τ5.length<=15:=by
  have:=jbO (m:=τ3++([("out" : Str)]:List Str)) n5 (fun x hx=>bB.mpr ((m5 x).mp hx));rw[aO]at this;exact aU this (by show τ3.length+1<=15;omega)
 refine⟨v5,τ5,rfl,By,by omega,fun l9 ns FJ AC Nc=>?_⟩;have sT:Same H G11:=En.trans (s7.trans (s8.trans (s9.trans (dP.trans bp))));refine q l9 ns _ (sT.trans (je FJ _)) (sT.free FJ) jb (jc0 Nc (AC.nodup_iff.mpr n5)) (by rw[AC.length_eq];exact l5) fun x=>?_
 rw[AC.mem_iff,m5,m3,d2,d4,bf,or_assoc]
end
abbrev qO:aA:=top 92
abbrev yT:aA:=top 93
abbrev zE:aA:=top 91
abbrev qS:aA:=top 94
def K4(x:Str):D:=.tup [.str "set",.str x,.tup [.str "is",.str ""],.int 0]
def kM(C:Cl):D:=.tup [.str "know",C.toD]
def Pc.wayD(p:Pc)(ns:List Str):List D:=(ns.filter fun x=>!decide (x∈p.ps)).map K4++p.nd.map kM
structure NumsOf(p:Pc)(ns:List Str):Prop where
 up:ns.Pairwise ltT
 few:ns.length<=15
 mem:∀x,x∈ns↔x∈p.others\/x∈p.ps\/x = "out"
def jaB:Sp:=fun vs H Q _=>∃x:Str,vs=[.str x]/\∀u H',Same H H'->Held H' (K4 x) u->Q u H'
inductive spKnown(vs:List V)(H:Hp)(Q:VK)(E:XK):Prop
 | mk (a:aa) (us:List V) (Cs:List Cl) (_:vs=[.ref a]) (_:H a=some (.tup us)) (_:HeldL H (Cs.map Cl.toD) us) (_:Cs.length<=100) (_:∀l ks H',Same H H'->H l=none->H' l=some (.lst ks)->HeldL H' (Cs.map kM) ks->Q (.ref l) H')
inductive spKnownL(vs:List V)(H:Hp)(Q:VK)(E:XK):Prop
 | mk (a:aa) (us:List V) (Cs:List Cl) (_:vs=[.ref a]) (_:H a=some (.lst us)) (_:HeldL H (Cs.map Cl.toD) us) (_:Cs.length<=100) (_:∀l ks H',Same H H'->H l=none->H' l=some (.lst ks)->HeldL H' (Cs.map kM) ks->Q (.ref l) H')
inductive spFirst(n:Nat)(vs:List V)(H:Hp)(Q:VK)(E:XK):Prop
 | mk (v:V) (p:Pc) (_:vs=[v]) (_:p.lv=n) (_:Held H p.toD v) (_:PcOk p) (_:∀(l:aa) (us:List V) (ns:List Str) (H':Hp),NumsOf p ns->Same H H'->H l=none->H' l=some (.lst us)->HeldL H' (p.wayD ns) us->Q (.ref l) H')
theorem Zu{t:aa}{d e:D}{x y:V}(h:H t=some (.tup [x,y]))(h1:Held H d x)(h2:Held H e y):Held H (.tup [d,e]) (.ref t):=by
 unfold Held;exact⟨t,_,rfl,h,jo h1 (jo h2 jx)⟩
section
theorem jdf(F:Fun K "set_to_nought" "set_to_nought" qO f fd):FnOk P w K mg base CX0 1 f fd ["x"] jaB:=by
 have sc:FnScope ["x"] ["x"] (ji qO):=fQ;refine F.okZ sc (fun ay A outer s H vs Q E hr h=>?_);obtain⟨x,rfl,q⟩:=h;refine⟨_,(jf (jr (zpd (jU (jq jY (jq (ya 0) (jq (jU (jq jY (jq jY jP))) (jq Kn jP)))))))),?_⟩
 try dsimp only[j5]
 exact⟨K4 x,⟨_,rfl,aw rfl,_,_,rfl,rfl,_,_,rfl,⟨_,rfl,j4⟩,_,_,rfl,⟨_,rfl,aw rfl,_,_,rfl,rfl,_,_,rfl,rfl,rfl⟩,_,_,rfl,rfl,rfl⟩,fun v H' s h=>q v H' s h⟩
theorem jeX(F:Fun K "known" "known" yT f fd):FnOk P w K mg base CX0 1 f fd ["claims"] spKnown:=by
 have sc:FnScope ["claims"] ["claims"] (ji yT):=fQ;refine F.okZ sc (fun ay A outer s H vs Q E hr h=>?_);obtain⟨a,us,Cs,rfl,ha,gl,hlen,q⟩:=h;refine⟨_,(jf (jr (k9 ["claim"] [] rfl (j9 (sc:=ji yT) (N:=["claims"]) rfl rfl (by decide +kernel)) (zJ (zpv 0)) (fun s H ex=>⟨(jj (i:=0) (show bg (["claim"]:List Str) by decide +kernel) rfl oQ),kf,(jM (jd jy (jd (zpv 0) jc)))⟩)))),?_⟩;refine jV (σ':=[some (.ref a)]) rfl ?_
 try dsimp only[j5]
 have cv:=gl.length;rw[aC]at cv;refine⟨_,rfl,a,rfl,⟨_,SqT.of ha⟩,fun l hl=>?_⟩;refine jfr (xs:=us) (fun i σ' G=>∃u ks,σ'=[u]/\Same H G/\G l=some (.lst ks)/\HeldL G ((Cs.take i).map kM) ks) ⟨none,[],rfl,je hl _,jb,jx⟩ ?_ ?_ ?_
 .rintro i σ' G _ ⟨u,ks,rfl,sG,_⟩
  exact SqT.of (sG _ _ ha)
 .rintro i x σ' G hx ⟨u,ks,rfl,sG,hG,hk⟩
  have hi:i < Cs.length:=by have:=(aY.mp hx).1;omega
  obtain⟨x',aZ,dS⟩:=gl.get (show (Cs.map Cl.toD)[i]?=some Cs[i].toD by rw[bU,aI hi];rfl);rw[hx]at aZ
  cases aZ
  have iW:=hk.length;rw[aC,cM]at iW;unfold kO Jo;refine kY ?_;refine⟨_,rfl,sm rfl,fun t ht=>?_⟩;have s2:=je ht (.tup [V.str "know",x]);have e2:upd G t (.tup [V.str "know",x]) t=some (.tup [V.str "know",x]):=jb;generalize upd G t (.tup [V.str "know",x])=G2 at *;have bS:=s2 _ _ hG;have tk:TK G2 (upd G2 l (.lst (ks++[.ref t]))):=TK.upd bS (fun _ z=>by cases z);refine⟨ks,bS,jS (by omega),_,_,rfl,fun b o e=>?_,jb,?_⟩
  .rw[jp (jh e hl)];exact s2 _ _ (sG _ _ e)
  .rw[show Cs.take (i+1)=Cs.take i++[Cs[i]] by rw[cE,aI hi];rfl,bh]
   exact j0 (tk.heldL (hk.mono s2)) (jo (tk.held (Zu (d:=.str "know") (e:=Cs[i].toD) e2 j4 (dS.mono (sG.trans s2)))) jx)
 rintro σ' G ⟨u,ks,rfl,sG,hG,hk⟩;rw[show Cs.take us.length=Cs by rw[<- cv,cV]]at hk;exact q l ks G sG hl hG hk
theorem jdj(F:Fun K "known" "known" yT f fd):FnOk P w K mg base CX0 1 f fd ["claims"] spKnownL:=by
 have sc:FnScope ["claims"] ["claims"] (ji yT):=fQ;refine F.okZ sc (fun ay A outer s H vs Q E hr h=>?_);obtain⟨a,us,Cs,rfl,ha,gl,hlen,q⟩:=h;refine⟨_,(jf (jr (k9 ["claim"] [] rfl (j9 (sc:=ji yT) (N:=["claims"]) rfl rfl (by decide +kernel)) (jR (zpv 0)) (fun s H ex=>⟨(jj (i:=0) (show bg (["claim"]:List Str) by decide +kernel) rfl oQ),kf,(jM (jd jy (jd (zpv 0) jc)))⟩)))),?_⟩;refine jV (σ':=[some (.ref a)]) rfl ?_
 try dsimp only[j5]
 have cv:=gl.length;rw[aC]at cv;refine⟨_,rfl,a,rfl,⟨_,SqL.of ha⟩,fun l hl=>?_⟩;refine kU (xs:=us) (fun i σ' G=>∃u ks,σ'=[u]/\Same H G/\G l=some (.lst ks)/\HeldL G ((Cs.take i).map kM) ks) ⟨none,[],rfl,je hl _,jb,jx⟩ ?_ ?_ ?_
 .rintro i σ' G _ ⟨u,ks,rfl,sG,_⟩
  exact SqL.of (sG _ _ ha)
 .rintro i x σ' G hx ⟨u,ks,rfl,sG,hG,hk⟩
  have hi:i < Cs.length:=by have:=(aY.mp hx).1;omega
  obtain⟨x',aZ,dS⟩:=gl.get (show (Cs.map Cl.toD)[i]?=some Cs[i].toD by rw[bU,aI hi];rfl);rw[hx]at aZ
  cases aZ
  have iW:=hk.length;rw[aC,cM]at iW;unfold kO Jo;refine kY ?_;refine⟨_,rfl,sm rfl,fun t ht=>?_⟩;have s2:=je ht (.tup [V.str "know",x]);have e2:upd G t (.tup [V.str "know",x]) t=some (.tup [V.str "know",x]):=jb;generalize upd G t (.tup [V.str "know",x])=G2 at *;have bS:=s2 _ _ hG;have tk:TK G2 (upd G2 l (.lst (ks++[.ref t]))):=TK.upd bS (fun _ z=>by cases z);refine⟨ks,bS,jS (by omega),_,_,rfl,fun b o e=>?_,jb,?_⟩
  .rw[jp (jh e hl)];exact s2 _ _ (sG _ _ e)
  .rw[show Cs.take (i+1)=Cs.take i++[Cs[i]] by rw[cE,aI hi];rfl,bh]
   exact j0 (tk.heldL (hk.mono s2)) (jo (tk.held (Zu (d:=.str "know") (e:=Cs[i].toD) e2 j4 (dS.mono (sG.trans s2)))) jx)
 rintro σ' G ⟨u,ks,rfl,sG,hG,hk⟩;rw[show Cs.take us.length=Cs by rw[<- cv,cV]]at hk;exact q l ks G sG hl hG hk
theorem jeY(F:Fun K "first_way" "first_way" zE f fd)(Cq:Fn P w K mg base (n+4+1) "numbers_of" ["proc"] (spNumbersOf n))(Cg:Fn P w K mg base 1 "set_to_nought" ["x"] jaB)(ix:Fn P w K mg base 1 "known" ["claims"] spKnown):FnOk P w K mg base CX0 (n+5+1) f fd ["proc"] (spFirst n):=by
 have sc:FnScope ["proc","params","needs"] ["proc"] (ji zE):=fQ;refine F.okZ sc (fun ay A outer s H vs Q E hr h=>?_);obtain⟨v,p,rfl,rfl,hv,hp,q⟩:=h;refine⟨_,(ja (kX (jM (jd (jz jE (zpv 0) jl (fun _ _=>rfl)) (jd (jz jE (zpv 0) jl (fun _ _=>rfl)) jc))) (jX rfl (jm (jj (i:=1) sc.nd rfl oQ) (jm (jj (i:=2) sc.nd rfl oQ) jJ))))
   (jf (jr (jG kW (k9 ["x"] [1] rfl (j9 (sc:=ji zE) (N:=["proc","params","needs"]) rfl rfl (by decide +kernel)) (jR (kJ Cq hr (jd (zpv 0) jc))) (fun s H ex=>⟨(jj (i:=0) (show bg (["x","params"]:List Str) by decide +kernel) rfl oQ),(zC (jw (Jp (K:=K)) (zpv 0) (zpv 1) rfl)),(kJ Cg hr (jd (zpv 0) jc))⟩)) (kJ ix hr (jd (zpv 2) jc)))))),?_⟩
 refine jV (σ':=[some v,none,none]) rfl ?_
 try dsimp only[j5]
 obtain⟨a,ap,ar,an,ag,ab,vn,vg,vb,rfl,ha,t_,i4,ua,hn,pY,hg,bI,hb⟩:=Yo hv;refine⟨_,rfl,a,_,_,_,rfl,rfl,SqT.of ha,rfl,_,rfl,a,_,_,_,rfl,rfl,SqT.of ha,rfl,sm rfl,fun t ht=>?_⟩;have s1:=je ht (.tup [.ref ap,.ref an]);have e1:upd H t (.tup [.ref ap,.ref an]) t=some (.tup [.ref ap,.ref an]):=jb;generalize upd H t (.tup [.ref ap,.ref an])=H1 at *;refine⟨t,_,rfl,SqT.of e1,rfl,_,_,rfl,_,_,rfl,rfl,?_⟩;refine jV (σ':=[some (.ref a),some (.ref ap),some (.ref an)]) rfl ?_;refine⟨_,rfl,.ref a,p,rfl,rfl,hv.mono s1,hp,fun l ns H2 s2 n2 e2 up few mem=>?_⟩;have bv:=s1.trans s2;refine⟨l,rfl,⟨_,SqL.of e2⟩,fun pp dB=>?_⟩;refine kU (xs:=ns.map V.str) (fun i σ' G=>∃u ks,σ'=[u,some (.ref ap)]/\Same H2 G/\G pp=some (.lst ks)/\HeldL G (((ns.take i).filter fun x=>!decide (x∈p.ps)).map K4) ks) ⟨none,[],rfl,je dB _,jb,jx⟩ ?_ ?_ ?_
 .rintro i σ' G _ ⟨u,ks,rfl,sG,_⟩
  exact SqL.of (sG _ _ e2)
 .rintro i x σ' G hx ⟨u,ks,rfl,sG,hG,hk⟩
  have hi:i < ns.length:=by
   have:=(aY.mp hx).1;rw[aC]at this;exact this
  rw[bU,aI hi]at hx
  cases hx
  have et:(ns.take (i+1)).filter (fun x=>!decide (x∈p.ps))=(ns.take i).filter (fun x=>!decide (x∈p.ps))++(if (!decide (ns[i]∈p.ps))=true then [ns[i]] else []):=by
   rw[cE,aI hi,Ll];congr 1;show S8 _ [ns[i]]=_;rw[wj];rfl
  have iW:=hk.length;rw[aC]at iW;have ii:=oz (fun x=>!decide (x∈p.ps)) (ns.take i);rw[cM]at ii;unfold kO;refine⟨_,rfl,_,rfl,ap,p.ps.map V.str,rfl,.inr (SqT.of (sG _ _ (bv _ _ t_))),rfl,Ku _,_,rfl,jZ (fun d2=>?_) (fun d2=>?_)⟩
  .have gr:(!inV (.str ns[i]) (p.ps.map V.str))=true:=d2
   rw[yZ]at gr;refine⟨_,rfl,_,rfl,fun z G2 s3 hz=>?_⟩;have bS:=s3 _ _ hG;have tk:TK G2 (upd G2 pp (.lst (ks++[z]))):=TK.upd bS (fun _ z=>by cases z);refine⟨ks,bS,jS (by omega),_,_,rfl,fun b o e=>?_,jb,?_⟩
   .rw[jp (jh e dB)];exact s3 _ _ (sG _ _ e)
   .rw[et,Tu gr,bh]
    exact j0 (tk.heldL (hk.mono s3)) (jo (tk.held hz) jx)
  .have gr:¬(!inV (.str ns[i]) (p.ps.map V.str))=true:=d2
   rw[yZ]at gr;exact⟨_,ks,rfl,sG,hG,by rw[et,Tt gr,dl];exact hk⟩
 rintro σ' G ⟨u,ks,rfl,sG,hG,hk⟩;rw[aC,cV]at hk;have s0:=bv.trans sG;refine⟨_,rfl,an,vn,p.nd,rfl,s0 _ _ ua,hn.mono s0,by have:=hp.nd;omega,fun l2 tu H4 s4 n4 e4 nq=>?_⟩;have iW:=hk.length;have NU:=nq.length;rw[aC]at iW NU;have ii:=oz (fun x=>!decide (x∈p.ps)) ns;refine⟨pp,l2,ks,tu,rfl,rfl,s4 _ _ hG,e4,aU (by have:=hp.nd;omega) (km (aB 1000)),fun l3 cg=>?_⟩;have s5:=je cg (.lst (ks++tu));exact q l3 _ ns _ ⟨up,few,mem⟩ (s0.trans (s4.trans s5)) (s0.free (s4.free cg)) jb (j0 (hk.mono (s4.trans s5)) (nq.mono s5))
end
abbrev qt:aA:=JU (top 87) 0
abbrev jcg:aA:=top 95
structure ClsW(K:av)(C:aa):Prop where
 c:Cls K C
 n1:NoAttr K C "f"
 n2:NoAttr K C "procs"
 n3:NoAttr K C "met"
def jgT(f:Str)(vp:V)(ml:aa):List (Str×V):=[("f",.str f),("procs",vp),("met",.ref ml)]
structure Du where
 f:Str
 kind:Str
 path:List Int
 k:Int
 way:List D
 goal:Cl
def DuAt(G:Hp)(d:Du)(v:V)(wl:aa):Prop:=∃t pt us gv,v=.ref t/\G t=some (.tup [.str d.f,.str d.kind,.ref pt,.int d.k,.ref wl,gv])/\G pt=some (.tup (d.path.map V.int))/\G wl=some (.lst us)/\HeldL G d.way us/\Held G d.goal.toD gv
def DutsAt(G:Hp):List Du->List V->List aa->Prop
 | [],[],[]=>True
 | d :: ds,v :: vs,wl :: aE=>DuAt G d v wl/\DutsAt G ds vs aE
 | _,_,_=>False
variable {G G':Hp}{ml:aa}{xs:List V}
theorem yA(k:∀b o,b≠ml->G b=some o->G' b=some o)(h:G ml=some (.lst xs)):TK G G':=fun b ys e=>k b _ (fun z=>by rw[z,h]at e;cases e) e
theorem DuAt.keep(k:∀b o,b≠ml->G b=some o->G' b=some o)(h:G ml=some (.lst xs)){d:Du}{wl:aa}(hd:DuAt G d v wl)(hn:wl≠ml):DuAt G' d v wl:=by
 obtain⟨t,pt,us,gv,rfl,h1,h2,h3,h4,h5⟩:=hd;have tk:=yA k h;exact⟨t,pt,us,gv,rfl,tk _ _ h1,tk _ _ h2,k _ _ hn h3,tk.heldL h4,tk.held h5⟩
theorem DutsAt.keep{G G':Hp}{ml:aa}{xs:List V}(k:∀b o,b≠ml->G b=some o->G' b=some o)(h:G ml=some (.lst xs)):∀{ds:List Du} {vs:List V} {aE:List aa},DutsAt G ds vs aE->ml ∉ aE->DutsAt G' ds vs aE
 | [],[],[],_,_=>trivial
 | d :: ds,v :: vs,wl :: aE,hd,hn=>⟨hd.1.keep k h (fun z=>hn (by rw[z];exact bt)),DutsAt.keep k h hd.2 (fun z=>hn (bu _ z))⟩
 | [],[],_ :: _,hd,_=>hd.elim
 | [],_ :: _,_,hd,_=>hd.elim
 | _ :: _,[],_,hd,_=>hd.elim
 | _ :: _,_ :: _,[],hd,_=>hd.elim
theorem DutsAt.app{G:Hp}:∀{ds bN:List Du} {vs eA:List V} {aE D7:List aa},DutsAt G ds vs aE->DutsAt G bN eA D7->DutsAt G (ds++bN) (vs++eA) (aE++D7)
 | [],_,[],_,[],_,_,h=>h
 | d :: ds,_,v :: vs,_,wl :: aE,_,hd,h=>⟨hd.1,DutsAt.app hd.2 h⟩
 | [],_,[],_,_ :: _,_,hd,_=>hd.elim
 | [],_,_ :: _,_,_,_,hd,_=>hd.elim
 | _ :: _,_,[],_,_,_,hd,_=>hd.elim
 | _ :: _,_,_ :: _,_,[],_,hd,_=>hd.elim
theorem DutsAt.len{G:Hp}:∀{ds:List Du} {vs:List V} {aE:List aa},DutsAt G ds vs aE->vs.length=ds.length
 | [],[],[],_=>rfl
 | d :: ds,v :: vs,wl :: aE,hd=>by rw[bo,bo,DutsAt.len hd.2]
 | [],[],_ :: _,hd=>hd.elim
 | [],_ :: _,_,hd=>hd.elim
 | _ :: _,[],_,hd=>hd.elim
 | _ :: _,_ :: _,[],hd=>hd.elim
theorem qI{G:Hp}:∀{ds:List Du} {vs:List V} {aE:List aa},DutsAt G ds vs aE->∀x∈aE,G x≠none
 | [],[],[],_,x,hx=>by cases hx
 | d :: ds,v :: vs,wl :: aE,hd,x,hx=>by
  rcases aN.mp hx with rfl | hx
  .obtain⟨_,_,us,_,_,_,_,h,_⟩:=hd.1
   rw[h];simp
  .exact qI hd.2 x hx
 | [],[],_ :: _,hd,_,_=>hd.elim
 | [],_ :: _,_,hd,_,_=>hd.elim
 | _ :: _,[],_,hd,_,_=>hd.elim
 | _ :: _,_ :: _,[],hd,_,_=>hd.elim
def jad(f kind:Str)(path:List Int)(way:List D)(Cs:List Cl):List Du:=Cs.zipIdx.map fun c=>⟨f,kind,path,c.2,way,c.1⟩
theorem jdw(f kind:Str)(path:List Int)(way:List D){Cs:List Cl}{i:Nat}(hi:i < Cs.length):jad f kind path way (Cs.take (i+1))=jad f kind path way (Cs.take i)++[⟨f,kind,path,i,way,Cs[i]⟩]:=by
 unfold jad;rw[show Cs.take (i+1)=Cs.take i++[Cs[i]] by rw[cE,aI hi];rfl,List.zipIdx_append,bh,cM,ow (cP hi)];simp
theorem je4(f kind:Str)(path:List Int)(way:List D)(Cs:List Cl):(jad f kind path way Cs).length=Cs.length:=by unfold jad;rw[aC,List.length_zipIdx]
inductive spWalk(CW:aa)(vs:List V)(H:Hp)(Q:VK)(E:XK):Prop
 | mk (wo dx:aa) (f:Str) (vp:V) (_:vs=[.ref wo,.str f,vp]) (_:H wo=some (.ins CW dx [])) (_:∀ml H',(∀b o,b≠wo->H b=some o->H' b=some o)->H ml=none->H' wo=some (.ins CW dx (jgT f vp ml))->H' ml=some (.lst [])->Q .non H')
def WayL(G:Hp)(ml:aa):List (List D)->List aa->Prop
 | [],[]=>True
 | w :: ws,a :: as=>(a≠ml/\∃us,G a=some (.lst us)/\HeldL G w us)/\WayL G ml ws as
 | _,_=>False
theorem WayL.keep{G G':Hp}{ml:aa}{xs:List V}(k:∀b o,b≠ml->G b=some o->G' b=some o)(h:G ml=some (.lst xs)):∀{ws:List (List D)} {as:List aa},WayL G ml ws as->WayL G' ml ws as
 | [],[],_=>trivial
 | w :: ws,a :: as,hd=>by
  obtain⟨⟨n,us,e,hh⟩,hr⟩:=hd;exact⟨⟨n,us,k _ _ n e,(yA k h).heldL hh⟩,WayL.keep k h hr⟩
 | [],_ :: _,hd=>hd.elim
 | _ :: _,[],hd=>hd.elim
theorem WayL.mono{G G':Hp}{ml:aa}(s:Same G G'):∀{ws:List (List D)} {as:List aa},WayL G ml ws as->WayL G' ml ws as
 | [],[],_=>trivial
 | w :: ws,a :: as,hd=>by
  obtain⟨⟨n,us,e,hh⟩,hr⟩:=hd;exact⟨⟨n,us,s _ _ e,hh.mono s⟩,WayL.mono s hr⟩
 | [],_ :: _,hd=>hd.elim
 | _ :: _,[],hd=>hd.elim
theorem WayL.len{G:Hp}{ml:aa}:∀{ws:List (List D)} {as:List aa},WayL G ml ws as->as.length=ws.length
 | [],[],_=>rfl
 | w :: ws,a :: as,hd=>by rw[bo,bo,WayL.len hd.2]
 | [],_ :: _,hd=>hd.elim
 | _ :: _,[],hd=>hd.elim
theorem WayL.get{G:Hp}{ml:aa}:∀{ws:List (List D)} {as:List aa} {i:Nat} {w:List D} {a:aa},WayL G ml ws as->ws[i]?=some w->as[i]?=some a->a≠ml/\∃us,G a=some (.lst us)/\HeldL G w us
 | [],[],_,_,_,_,h,_=>by simp at h
 | w :: ws,a :: as,0,_,_,hd,h,h'=>by simp at h h';subst h h';exact hd.1
 | w :: ws,a :: as,i+1,_,_,hd,h,h'=>WayL.get hd.2 (by simpa using h) (by simpa using h')
 | [],_ :: _,_,_,_,hd,_,_=>hd.elim
 | _ :: _,[],_,_,_,hd,_,_=>hd.elim
theorem WayL.app{G:Hp}{ml:aa}:∀{ws gE:List (List D)} {as GC:List aa},WayL G ml ws as->WayL G ml gE GC->WayL G ml (ws++gE) (as++GC)
 | [],_,[],_,_,h=>h
 | w :: ws,_,a :: as,_,hd,h=>⟨hd.1,WayL.app hd.2 h⟩
 | [],_,_ :: _,_,hd,_=>hd.elim
 | _ :: _,_,[],_,hd,_=>hd.elim
def zG(f kind:Str)(path:List Int)(ao:List (List D))(Cs:List Cl):List Du:=ao.flatMap fun way=>jad f kind path way Cs
theorem Jh(f kind:Str)(path:List Int)(Cs:List Cl):∀ao:List (List D),(zG f kind path ao Cs).length=ao.length * Cs.length
 | []=>by unfold zG;simp
 | w :: ws=>by
  have:=Jh f kind path Cs ws;unfold zG at this |-;rw[oA,aO,je4,this,bo,SF];omega
theorem jbQ(f kind:Str)(path:List Int)(Cs:List Cl){ao:List (List D)}{i:Nat}(hi:i < ao.length):zG f kind path (ao.take (i+1)) Cs=zG f kind path (ao.take i) Cs++jad f kind path ao[i] Cs:=by
 unfold zG;rw[show ao.take (i+1)=ao.take i++[ao[i]] by rw[cE,aI hi];rfl,oB];simp
inductive spMeetT(CW:aa)(vs:List V)(H:Hp)(Q:VK)(E:XK):Prop
 | mk (wo dx ml pt wy ca:aa) (b8:List aa) (f kind:Str) (vp:V) (ms cs:List V) (path:List Int) (ao:List (List D)) (Cs:List Cl) (_:vs=[.ref wo,.str kind,.ref pt,.ref wy,.ref ca]) (_:H wo=some (.ins CW dx (jgT f vp ml))) (_:H ml=some (.lst ms)) (_:H pt=some (.tup (path.map V.int))) (_:H wy=some (.lst (b8.map V.ref))) (_:WayL H ml ao b8) (_:H ca=some (.tup cs)) (_:HeldL H (Cs.map Cl.toD) cs) (_:wy≠ml) (_:ca≠ml) (_:ao.length<=40) (_:ms.length+ao.length * Cs.length<=9000) (_:∀bq aE H',(∀b o,b≠ml->H b=some o->H' b=some o)->H' ml=some (.lst (ms++bq))->DutsAt H' (zG f kind path ao Cs) bq aE->aE.Nodup->(∀x∈aE,H x=none)->Q .non H')
variable {CW:aa}
section
theorem jf6(T:ClsW K CW)(F:Fun K "__init__" "Walk.__init__" qt f fd):FnOk P w K mg base CX0 1 f fd ["self","f","procs"] (spWalk CW):=by
 have sc:FnScope ["self","f","procs"] ["self","f","procs"] (ji qt):=fQ;refine F.okZ sc (fun ay A outer s H vs Q E hr h=>?_);obtain⟨wo,dx,f,vp,rfl,hwo,q⟩:=h;refine⟨_,(ja (kb (zpv 0) (zpv 1) rfl)
   (ja (kb (zpv 0) (zpv 2) rfl)
   (jf (kb (zpv 0) (jK jc) rfl)))),?_⟩
 try dsimp only[j5]
 refine zI ?_;intro _ _;refine⟨_,rfl,_,rfl,wo,CW,dx,[],rfl,hwo,T.c,T.n1,by show 0 < 1000;decide,?_⟩;refine⟨_,rfl,_,rfl,wo,CW,dx,_,rfl,jb,T.c,T.n2,by show 1 < 1000;decide,?_⟩;refine⟨sm rfl,fun ml hml=>?_⟩;have nm:ml≠wo:=fun z=>by rw[z,jb]at hml;cases hml
 refine⟨_,rfl,wo,CW,dx,_,rfl,(by rw[jp (br nm)];exact jb),T.c,T.n3,by show 2 < 1000;decide,?_⟩;rw[jp nm,jp nm]at hml;refine q ml _ (fun b o hb e=>?_) hml jb ?_
 .rw[jp hb,jp (jh e hml),jp hb,jp hb];exact e
 .rw[jp nm];exact jb
theorem jeV(T:ClsW K CW)(F:Fun K "meet" "meet" jcg f fd)(B:Free0 mg)(bJ:mg "enumerate" = none):FnOk P w K mg base CX0 1 f fd ["walk","kind","path","ways","claims"] (spMeetT CW):=by
 have sc:FnScope ["walk","kind","path","ways","claims","way","k","claim"] ["walk","kind","path","ways","claims"] (ji jcg):=fQ;refine F.okZ sc (fun ay A outer s H vs Q E hr h=>?_);obtain⟨wo,dx,ml,pt,wy,ca,b8,f,kind,vp,ms,cs,path,ao,Cs,rfl,hwo,hml,dA,hwy,hW,FY,gl,nwy,EQ,NT,hlen,q⟩:=h;refine⟨_,(jf (jW cb rfl (jR (zpv 3)) (jj (i:=5) sc.nd rfl oQ) (jf (jW cb rfl (Ke (by rfl) bJ (jd (zpv 4) jc)) (jX rfl (jm (jj (i:=6) sc.nd rfl oQ) (jm (jj (i:=7) sc.nd rfl oQ) jJ))) (jf (j7 (ql dL iJ iI kE (jL (zpv 0) rfl) (jd (jM (jd (jL (zpv 0) rfl) (jd (zpv 1) (jd (zpv 2) (jd (zpv 6) (jd (yO J9 (by rfl) B.list_ jal (jd (zpv 5) jc)) (jd (zpv 7) jc))))))) jc)))))))),?_⟩;refine jV (σ':=[some (.ref wo),some (.str kind),some (.ref pt),some (.ref wy),some (.ref ca),none,none,none]) rfl ?_
 try dsimp only[j5]
 have EO:=gl.length;rw[aC]at EO;have xV:=hW.len;have nwo:wo≠ml:=fun z=>by rw[z,hml]at hwo;cases hwo
 have xh:pt≠ml:=fun z=>by rw[z,hml]at dA;cases dA
 have Eb:∀{G:Hp},(∀b o,b≠ml->H b=some o->G b=some o)->TK H G:=fun k=>yA k hml
 refine⟨_,rfl,wy,rfl,⟨_,SqL.of hwy⟩,?_⟩;refine kn (xs:=b8.map V.ref) (fun i σ G=>∃u5 u6 u7 bq aE,σ=[some (.ref wo),some (.str kind),some (.ref pt),some (.ref wy),some (.ref ca),u5,u6,u7]/\(∀b o,b≠ml->H b=some o->G b=some o)/\G ml=some (.lst (ms++bq))/\DutsAt G (zG f kind path (ao.take i) Cs) bq aE/\aE.Nodup/\∀x∈aE,H x=none) ⟨none,none,none,[],[],rfl,fun _ _ _ e=>e,by rw[dl];exact hml,by rw[v9];trivial,fO,fun _ z=>by cases z⟩ ?_ ?_ ?_
 .rintro i σ G _ ⟨u5,u6,u7,bq,aE,rfl,kG,_⟩
  exact SqL.of (kG _ _ nwy hwy)
 .rintro i x σ G hx ⟨u5,u6,u7,xO,Ly,rfl,kG,hG,Bp,bX,cz⟩
  have pR:i < b8.length:=by have:=(aY.mp hx).1;rw[aC]at this;exact this
  have hi:i < ao.length:=by omega
  rw[bU,aI pR]at hx
  cases hx
  obtain⟨Ez,us,iQ,gJ⟩:=hW.get (aI hi) (aI pR);have EY:=Bp.len;rw[Jh,cM,ow (cP hi)]at EY;have Bc:xO.length+Cs.length<=ao.length * Cs.length:=by
   rw[EY,<- SF];exact IX _ hi
  rw[jbQ f kind path Cs hi];generalize b8[i]=wl at *;generalize ao[i]=way at *;generalize zG f kind path (ao.take i) Cs=ds0 at *;refine y7 ?_;intro _;refine gQ ?_;refine⟨_,rfl,ca,rfl,⟨_,SqT.of (kG _ _ EQ FY)⟩,?_⟩;refine Kt (xs:=cs) (fun j σ G=>∃u6 u7 bq aE,σ=[some (.ref wo),some (.str kind),some (.ref pt),some (.ref wy),some (.ref ca),some (.ref wl),u6,u7]/\(∀b o,b≠ml->H b=some o->G b=some o)/\G ml=some (.lst (ms++bq))/\bq.length=xO.length+j/\DutsAt G (ds0++jad f kind path way (Cs.take j)) bq aE/\aE.Nodup/\∀x∈aE,H x=none) ⟨u6,u7,xO,Ly,rfl,kG,hG,rfl,by rw[v9,show jad f kind path way []=[] from rfl,dl];exact Bp,bX,cz⟩ ?_ ?_ ?_
  .rintro j σ G _ ⟨u6,u7,bq,aE,rfl,kG,_⟩
   exact SqT.of (kG _ _ EQ FY)
  .clear hG Bp bX cz kG
   rintro j y σ G t hy ⟨u6,u7,bq,aE,rfl,kG,hG,Mq,hD,bX,cz⟩ ht;have hj:j < Cs.length:=by have:=(aY.mp hy).1;omega
   obtain⟨y',dQ,pj⟩:=gl.get (show (Cs.map Cl.toD)[j]?=some Cs[j].toD by rw[bU,aI hj];rfl);rw[hy]at dQ
   cases dQ
   have s1:=je ht (.tup [V.int j,y]);have e1:upd G t (.tup [V.int j,y]) t=some (.tup [V.int j,y]):=jb;generalize upd G t (.tup [V.int j,y])=G1 at *;refine⟨t,_,rfl,SqT.of e1,rfl,_,_,rfl,_,_,rfl,rfl,?_⟩;refine jV (σ':=[some (.ref wo),some (.str kind),some (.ref pt),some (.ref wy),some (.ref ca),some (.ref wl),some (.int j),some y]) rfl ?_;have k1:∀b o,b≠ml->H b=some o->G1 b=some o:=fun b o hb e=>s1 _ _ (kG b o hb e)
   have Gf:=s1 _ _ hG;refine⟨_,rfl,wo,CW,dx,_,_,rfl,k1 _ _ nwo hwo,T.c,T.n3,rfl,.inl ⟨rfl,_,SqL.of Gf⟩,?_⟩;refine⟨_,rfl,wo,CW,dx,_,_,rfl,k1 _ _ nwo hwo,T.c,T.n1,rfl,_,rfl,_,rfl,_,rfl,_,rfl,wl,us,rfl,.inl (SqL.of (k1 _ _ Ez iQ)),fun nl dX=>?_⟩;have s2:=je dX (.lst us);have e2:upd G1 nl (.lst us) nl=some (.lst us):=jb;generalize upd G1 nl (.lst us)=G2 at *;refine⟨_,rfl,sm rfl,fun t2 fe=>?_⟩;have s3:=je fe (.tup [V.str f,.str kind,.ref pt,.int j,.ref nl,y]);have e3:upd G2 t2 (.tup [V.str f,.str kind,.ref pt,.int j,.ref nl,y]) t2=some (.tup [V.str f,.str kind,.ref pt,.int j,.ref nl,y]):=jb;generalize upd G2 t2 (.tup [V.str f,.str kind,.ref pt,.int j,.ref nl,y])=G3 at *;have cG:=s1.trans (s2.trans s3);have gP:=cG _ _ hG;have k3:∀b o,b≠ml->H b=some o->G3 b=some o:=fun b o hb e=>cG _ _ (kG b o hb e)
   have EE:nl≠ml:=fun z=>by rw[z,Gf]at dX;cases dX
   have OO:∀b,b≠ml->G1 b=none->H b=none:=fun b hb hz=>by
    rcases hh:H b with _ | o
    .rfl
    .rw[k1 b o hb hh]at hz;cases hz
   refine⟨ml,_,_,rfl,rfl,gP,jbz (by rw[aO];omega),?_⟩;have k4:∀b o,b≠ml->G3 b=some o->upd G3 ml (.lst (ms++bq++[.ref t2])) b=some o:=fun b o hb e=>by rw[jp hb];exact e
   have pL:ml ∉ aE:=fun z=>by have:=cz _ z;rw[hml]at this;cases this
   refine⟨_,_,bq++[.ref t2],aE++[nl],rfl,fun b o hb e=>k4 b o hb (k3 b o hb e),by rw[jb,em],by rw[aO,Mq];rfl,?_,?_,?_⟩
   .rw[jdw f kind path way hj,<- em]
    refine DutsAt.app (DutsAt.keep (fun b o hb e=>k4 b o hb (cG _ _ e)) hG hD pL) ⟨?_,trivial⟩;refine DuAt.keep k4 gP ?_ EE;exact⟨t2,pt,us,y,rfl,e3,k3 _ _ xh dA,s3 _ _ e2,(Eb k3).heldL gJ,(Eb k3).held pj⟩
   .refine g5.mpr ⟨bX,by simp,fun a ha b hb=>?_⟩
    rw[bf.mp hb];rintro rfl;have:G1 a≠none:=qI (DutsAt.keep (G:=G) (G':=G1) (ml:=ml) (fun b o _ e=>s1 b o e) hG hD pL) a ha;exact this dX
   .intro x hx
    rcases bB.mp hx with hx | hx
    .exact cz x hx
    .rw[bf.mp hx]
     exact OO nl EE dX
  .rintro σ G ⟨u6,u7,bq,aE,rfl,kG,hG,_,hD,bX,cz⟩
   rw[<- EO,cV]at hD;exact⟨_,_,_,bq,aE,rfl,kG,hG,hD,bX,cz⟩
 .rintro σ G ⟨u5,u6,u7,bq,aE,rfl,kG,hG,hD,bX,cz⟩
  rw[aC,xV,cV]at hD;exact q bq aE G kG hG hD bX cz
end
abbrev kT:aA:=top 97
abbrev qA:aA:=top 96
def Sm.walk(f:Str)(pr:Str->Pc)(path:List Int)(ao:List (List D)):Sm->List Du×List (List D)
 | .claim C=>(zG f "claim" path ao [C],ao)
 | S=>([],ao.map (·++[S.toD]))
def ProcsAt(G:Hp)(dp:aa)(gs:List Str)(pr:Str->Pc):Prop:=∃kvs,G dp=some (.dK kvs)/\∀g∈gs,∃v,qm kvs (Sum.inr g)=some v/\Held G (pr g).toD v
variable {dp:aa}{gs:List Str}{pr:Str->Pc}
theorem ProcsAt.keep(k:∀b o,b≠ml->G b=some o->G' b=some o)(h:G ml=some (.lst xs))(hp:ProcsAt G dp gs pr):ProcsAt G' dp gs pr:=by
 obtain⟨kvs,e,hh⟩:=hp;refine⟨kvs,k _ _ (fun z=>by rw[z,h]at e;cases e) e,fun g hg=>?_⟩;obtain⟨v,e1,e2⟩:=hh g hg;exact⟨v,e1,(yA k h).held e2⟩
theorem ProcsAt.mono(s:Same G G')(hp:ProcsAt G dp gs pr):ProcsAt G' dp gs pr:=by
 obtain⟨kvs,e,hh⟩:=hp;refine⟨kvs,s _ _ e,fun g hg=>?_⟩;obtain⟨v,e1,e2⟩:=hh g hg;exact⟨v,e1,e2.mono s⟩
def Sm.fit(gs:List Str)(pr:Str->Pc):Sm->Prop
 | .call _ _ _ _=>False
 | _=>True
structure WkAt(CW:aa)(H:Hp)(wo dx ml dp:aa)(f:Str)(gs:List Str)(pr:Str->Pc)(ms:List V)(wy:aa)(ao:List (List D)):Prop where
 hwo:H wo=some (.ins CW dx (jgT f (.ref dp) ml))
 hml:H ml=some (.lst ms)
 hp:ProcsAt H dp gs pr
 hwy:∃b8,H wy=some (.lst (b8.map V.ref))/\WayL H ml ao b8
 nwy:wy≠ml
variable {wo dx wy:aa}{ms:List V}
theorem WkAt.mono{H':Hp}{f:Str}{ao:List (List D)}(W:WkAt CW H wo dx ml dp f gs pr ms wy ao)(s:Same H H'):WkAt CW H' wo dx ml dp f gs pr ms wy ao:=by
 obtain⟨b8,e,h⟩:=W.hwy;exact⟨s _ _ W.hwo,s _ _ W.hml,W.hp.mono s,⟨b8,s _ _ e,h.mono s⟩,W.nwy⟩
theorem WkAt.nwo{f:Str}{ao:List (List D)}(W:WkAt CW H wo dx ml dp f gs pr ms wy ao):wo≠ml:=fun z=>by have:=W.hwo;rw[z,W.hml]at this;cases this
theorem WkAt.keep{H':Hp}{f:Str}{bq:List V}{ao:List (List D)}(W:WkAt CW H wo dx ml dp f gs pr ms wy ao)(k:∀b o,b≠ml->H b=some o->H' b=some o)(h:H' ml=some (.lst bq)):WkAt CW H' wo dx ml dp f gs pr bq wy ao:=by
 obtain⟨b8,e,hw⟩:=W.hwy;exact⟨k _ _ W.nwo W.hwo,h,W.hp.keep k W.hml,⟨b8,k _ _ W.nwy e,hw.keep k W.hml⟩,W.nwy⟩
inductive spBehind(vs:List V)(H:Hp)(Q:VK)(E:XK):Prop
 | mk (wy ml rw:aa) (b8:List aa) (ms rs:List V) (ao:List (List D)) (rows:List D) (_:vs=[.ref wy,.ref rw]) (_:H wy=some (.lst (b8.map V.ref))) (_:H ml=some (.lst ms)) (_:WayL H ml ao b8) (_:H rw=some (.lst rs)) (_:HeldL H rows rs) (_:ao.length<=40) (_:(∀w∈ao,w.length+rows.length<=900)) (_:∀l as H',Same H H'->H l=none->H' l=some (.lst (as.map V.ref))->WayL H' ml (ao.map (·++rows)) as->Q (.ref l) H')
theorem Yw(z:Str):z.length=z.cps.toList.length:=by simp[Str.length]
theorem jfy(x y:Str):(x++y).cps.toList=x.cps.toList++y.cps.toList:=by
 show (x.cps++y.cps).toList=_;simp
theorem jcM(x y:Str):(x++y).length=x.length+y.length:=by rw[Yw,Yw,Yw,jfy,aO]
theorem DutsAt.keepL{G G':Hp}(k:∀b xs,G b=some (.lst xs)->G' b=some (.lst xs))(tk:TK G G'):∀{ds:List Du} {vs:List V} {aE:List aa},DutsAt G ds vs aE->DutsAt G' ds vs aE
 | [],[],[],_=>trivial
 | d :: ds,v :: vs,wl :: aE,hd=>by
  obtain⟨⟨t,pt,us,gv,rfl,h1,h2,h3,h4,h5⟩,h⟩:=hd;exact⟨⟨t,pt,us,gv,rfl,tk _ _ h1,tk _ _ h2,k _ _ h3,tk.heldL h4,tk.held h5⟩,DutsAt.keepL k tk h⟩
 | [],[],_ :: _,hd=>hd.elim
 | [],_ :: _,_,hd=>hd.elim
 | _ :: _,[],_,hd=>hd.elim
 | _ :: _,_ :: _,[],hd=>hd.elim
theorem DutsAt.mono(s:Same G G'){ds:List Du}{vs:List V}{aE:List aa}(h:DutsAt G ds vs aE):DutsAt G' ds vs aE:=DutsAt.keepL (fun b xs e=>s _ _ e) (fun b ys e=>s _ _ e) h
theorem jab{a b:aa}{ys:List V}(h1:G a=some (.tup ys))(h2:G b=some (.lst xs)):a≠b:=fun z=>by rw[z,h2]at h1;cases h1
theorem Jj{d:D}(h:Held H d v):HeldL H [d] [v]:=jo h jx
section
theorem jdt(F:Fun K "behind_each" "behind_each" qS f fd):FnOk P w K mg base CX0 1 f fd ["ways","rows"] spBehind:=by
 have sc:FnScope ["ways","rows"] ["ways","rows"] (ji qS):=fQ;refine F.okZ sc (fun ay A outer s H vs Q E hr h=>?_);obtain⟨wy,ml,rw,b8,ms,rs,ao,rows,rfl,hwy,hml,hW,Nh,Fj,NT,hlen,q⟩:=h;have xV:=hW.len;refine⟨_,(jf (jr (k9 ["way"] [1] rfl (j9 (sc:=ji qS) (N:=["ways","rows"]) rfl rfl (by decide +kernel)) (jR (zpv 0)) (fun s H ex=>⟨(jj (i:=0) (show bg (["way","rows"]:List Str) by decide +kernel) rfl oQ),kf,(jG kW (zpv 0) (zpv 1))⟩)))),?_⟩;refine jV (σ':=[some (.ref wy),some (.ref rw)]) rfl ?_
 try dsimp only[j5]
 refine⟨_,rfl,wy,rfl,⟨_,SqL.of hwy⟩,fun l hl=>?_⟩;refine kU (xs:=b8.map V.ref) (fun i σ' G=>∃u as,σ'=[u,some (.ref rw)]/\Same H G/\G l=some (.lst (as.map V.ref))/\as.length=i/\l ∉ as/\WayL G ml ((ao.take i).map (·++rows)) as) ⟨none,[],rfl,je hl _,jb,rfl,eV,by rw[v9];trivial⟩ ?_ ?_ ?_
 .rintro i σ' G _ ⟨u,as,rfl,sG,_⟩
  exact SqL.of (sG _ _ hwy)
 .rintro i x σ' G hx ⟨u,as,rfl,sG,hG,xX,nl,hA⟩
  have pR:i < b8.length:=by have:=(aY.mp hx).1;rw[aC]at this;exact this
  have hi:i < ao.length:=by omega
  rw[bU,aI pR]at hx
  cases hx
  obtain⟨Ez,us,iQ,gJ⟩:=hW.get (aI hi) (aI pR);have hb:=hlen _ (gD hi);have e1:=gJ.length;have e2:=Fj.length;unfold kO Jo;refine kY ?_;refine⟨_,rfl,_,rfl,_,rw,us,rs,rfl,rfl,sG _ _ iQ,sG _ _ Nh,aU (by omega) (km (by decide:900<=1000)),fun l2 dq=>?_⟩;have s2:=je dq (.lst (us++rs));have e3:upd G l2 (.lst (us++rs)) l2=some (.lst (us++rs)):=jb;have n2:l2≠l:=fun z=>by rw[z,hG]at dq;cases dq
  have n3:l2≠ml:=fun z=>by rw[z,sG _ _ hml]at dq;cases dq
  generalize upd G l2 (.lst (us++rs))=G2 at *;have bS:=s2 _ _ hG;have k5:∀b o,b≠l->G2 b=some o->upd G2 l (.lst (as.map V.ref++[.ref l2])) b=some o:=fun b o hb e=>by rw[jp hb];exact e
  have oO:=yA k5 bS;refine⟨_,bS,jS (by rw[aC];omega),_,as++[l2],rfl,fun b o e=>k5 b o (jh e hl) (s2 _ _ (sG _ _ e)),by rw[jb,bh];rfl,by rw[aO,xX];rfl,?_,?_⟩
  .intro z
   rcases bB.mp z with z | z
   .exact nl z
   .exact n2 (bf.mp z).symm
  .rw[show ao.take (i+1)=ao.take i++[ao[i]] by rw[cE,aI hi];rfl,bh]
   refine WayL.app ?_ ⟨⟨n3,us++rs,k5 _ _ n2 e3,?_⟩,trivial⟩
   .have Br:=hA.mono s2
    generalize upd G2 l (.lst (as.map V.ref++[.ref l2]))=G3 at *;clear bS hG hA e3 xX;generalize (ao.take i).map (·++rows)=ws at *;induction ws generalizing as with
    | nil=>cases as with
     | nil=>trivial
     | cons _ _=>exact Br.elim
    | cons w ws ih=>cases as with
     | nil=>exact Br.elim
     | cons a as=>
      obtain⟨⟨m1,sQ,m2,m3⟩,m4⟩:=Br;exact⟨⟨m1,sQ,k5 _ _ (fun z=>nl (by rw[z];exact bt)) m2,oO.heldL m3⟩,ih as (fun z=>nl (bu _ z)) m4⟩
   .exact oO.heldL (j0 (gJ.mono (sG.trans s2)) (Fj.mono (sG.trans s2)))
 rintro σ' G ⟨u,as,rfl,sG,hG,xX,nl,hA⟩;rw[aC,xV,cV]at hA;exact q l as G sG hl hG hA
end
abbrev Wk:=List Du×List (List D)
def goO{α:Type}(wk:List Int->List (List D)->α->Option Wk)(ar:List Int):Nat->List (List D)->List α->Option Wk
 | _,ao,[]=>some ([],ao)
 | k,ao,s :: r=>match wk (ar++[(k:Int)]) ao s with
  | none=>none
  | some r1=>if r1.2.length<=16 then (match goO wk ar (k+1) r1.2 r with
   | none=>none
   | some r2=>some (r1.1++r2.1,r2.2)) else none
def Fo.walk{α:Type}(wk:List Int->List (List D)->α->Option Wk)(f:Str)(pr:Str->Pc)(path:List Int)(ao:List (List D)):Fo α->Option Wk
 | .leaf S=>some (S.walk f pr path ao)
 | .ite a b c x y=>match goO wk (path++[0]) 0 (ao.map (·++[kM (.least a b c)])) x with
  | none=>none
  | some r1=>(match goO wk (path++[1]) 0 (ao.map (·++[kM (.least b a (1 - c))])) y with
   | none=>none
   | some r2=>some (r1.1++r2.1,r1.2++r2.2))
 | .whl a b c ks x=>match goO wk (path++[0]) 0 [ks.map kM++[kM (.least a b c)]] x with
  | none=>none
  | some r1=>some (zG f "enter" path ao ks++(r1.1++zG f "keep" path r1.2 ks),[ks.map kM++[kM (.least b a (1 - c))]])
def qC(f:Str)(pr:Str->Pc):(n:Nat)->List Int->List (List D)->StN n->Option Wk
 | 0=>fun _ _ _=>none
 | n+1=>fun path ao s=>Fo.walk (qC f pr n) f pr path ao s
abbrev goN(f:Str)(pr:Str->Pc)(n:Nat)(ar:List Int)(ao:List (List D))(l:List (StN n)):Option Wk:=goO (qC f pr n) ar 0 ao l
def Sm.cost:Sm->Nat
 | .claim _=>16
 | .call _ _ _ _=>320
 | _=>0
def Sm.len:Sm->Nat
 | .claim _=>0
 | .call _ _ _ _=>23
 | _=>1
def Fo.cost{α:Type}(g:α->Nat):Fo α->Nat
 | .leaf S=>S.cost
 | .ite _ _ _ x y=>(x.map g).sum+(y.map g).sum
 | .whl _ _ _ ks x=>32 * ks.length+(x.map g).sum
def Fo.len{α:Type}(g:α->Nat):Fo α->Nat
 | .leaf S=>S.len
 | .ite _ _ _ x y=>1+(x.map g).sum+(y.map g).sum
 | .whl _ _ _ ks x=>ks.length+1+(x.map g).sum
def Fo.ok{α:Type}(g:α->Prop)(gs:List Str)(pr:Str->Pc):Fo α->Prop
 | .leaf S=>S.fit gs pr/\S.few
 | .ite _ _ _ x y=>x.length<=100/\y.length<=100/\(∀s∈x,g s)/\∀s∈y,g s
 | .whl _ _ _ _ _=>False
def ym:(n:Nat)->StN n->Nat
 | 0=>fun _=>0
 | n+1=>fun s=>Fo.cost (ym n) s
def yY:(n:Nat)->StN n->Nat
 | 0=>fun _=>0
 | n+1=>fun s=>Fo.len (yY n) s
def okN(gs:List Str)(pr:Str->Pc):(n:Nat)->StN n->Prop
 | 0=>fun _=>False
 | n+1=>fun s=>Fo.ok (okN gs pr n) gs pr s
structure Bnd(r:Wk)(cost len most:Nat)(ao:List (List D)):Prop where
 c:r.1.length<=cost
 w:r.2.length<=most
 l:∀m,(∀v∈ao,v.length+len<=m)->len<=m->∀v∈r.2,v.length<=m
variable {path:List Int}
theorem je8{f:Str}{ao:List (List D)}{S:Sm}(hf:S.fit gs pr)(hw:S.few)(fG:ao.length<=16):Bnd (S.walk f pr path ao) S.cost S.len 32 ao:=by
 cases S with
 | claim C=>
  refine⟨?_,aU fG (by decide),fun m h _ v hv=>h v hv⟩;show (zG f "claim" path ao [C]).length<=16;rw[Jh];show ao.length * 1<=16;omega
 | call x g as rows=>exact hf.elim
 | set x t c=>
  refine⟨bA _,?_,fun m h _ v hv=>?_⟩
  .show (ao.map (·++[(Sm.set x t c).toD])).length<=32
   rw[aC];omega
  .obtain⟨w1,h1,rfl⟩:=ck.mp (show v∈ao.map (·++[(Sm.set x t c).toD]) from hv)
   rw[aO];exact h w1 h1
 | put r x d t c=>
  refine⟨bA _,?_,fun m h _ v hv=>?_⟩
  .show (ao.map (·++[(Sm.put r x d t c).toD])).length<=32
   rw[aC];omega
  .obtain⟨w1,h1,rfl⟩:=ck.mp (show v∈ao.map (·++[(Sm.put r x d t c).toD]) from hv)
   rw[aO];exact h w1 h1
 | any x=>
  refine⟨bA _,?_,fun m h _ v hv=>?_⟩
  .show (ao.map (·++[(Sm.any x).toD])).length<=32
   rw[aC];omega
  .obtain⟨w1,h1,rfl⟩:=ck.mp (show v∈ao.map (·++[(Sm.any x).toD]) from hv)
   rw[aO];exact h w1 h1
theorem jbX{α:Type}{wk:List Int->List (List D)->α->Option Wk}{c ln:α->Nat}{ok:α->Prop}(E9:∀s path ao r,ok s->ao.length<=16->wk path ao s=some r->Bnd r (c s) (ln s) 32 ao):∀(l:List α) (k:Nat) (ar:List Int) (ao:List (List D)) (r:Wk),(∀s∈l,ok s)->ao.length<=16->goO wk ar k ao l=some r->Bnd r (l.map c).sum (l.map ln).sum 16 ao
 | [],k,ar,ao,r,_,fG,h=>by
  unfold goO at h
  cases h
  exact⟨bA _,fG,fun m h _ v hv=>h v hv⟩
 | s :: l,k,ar,ao,r,hok,fG,h=>by
  unfold goO at h;split at h
  .cases h
  .rename_i r1 e1
   have b1:=E9 s _ _ r1 (hok s bt) fG e1;split at h
   .rename_i OK
    split at h
    .cases h
    .rename_i r2 e2
     cases h
     have b2:=jbX E9 l _ _ _ r2 (fun t ht=>hok t (bu _ ht)) OK e2;refine⟨?_,b2.w,fun m hm hl v hv=>?_⟩
     .show (r1.1++r2.1).length<=_
      rw[aO,bE,DR];have:=b1.c;have:=b2.c;omega
     .rw[bE,DR]at hm hl
      refine b2.l m (fun u hu=>?_) (by omega) v hv;have:=b1.l (m - (l.map ln).sum) (fun t ht=>by have:=hm t ht;omega) (by omega) u hu;omega
   .cases h
theorem jaw{f:Str}{gs:List Str}{pr:Str->Pc}:∀(n:Nat) (s:StN n) (path:List Int) (ao:List (List D)) (r:Wk),okN gs pr n s->ao.length<=16->qC f pr n path ao s=some r->Bnd r (ym n s) (yY n s) 32 ao
 | 0,s,_,_,_,h,_,_=>h.elim
 | n+1,s,path,ao,r,hok,fG,h=>by
  have ih:=jbX (c:=ym n) (ln:=yY n) (ok:=okN gs pr n) (wk:=qC f pr n) fun s path ao r=>jaw n s path ao r
  have hm:∀d:D,(ao.map (·++[d])).length<=16:=fun d=>by rw[aC];exact fG
  match s,hok,h with
  | .leaf S,hok,h=>
   cases h
   exact je8 hok.1 hok.2 fG
  | .ite a b c x y,hok,h=>
   obtain⟨_,_,hx,hy⟩:=hok;unfold qC Fo.walk at h;dsimp only at h;split at h
   .cases h
   .rename_i r1 e1
    split at h
    .cases h
    .rename_i r2 e2
     cases h
     have b1:=ih x _ _ _ r1 hx (hm _) e1;have b2:=ih y _ _ _ r2 hy (hm _) e2;refine⟨?_,?_,fun m hm hl v hv=>?_⟩
     .show (r1.1++r2.1).length<=(x.map (ym n)).sum+(y.map (ym n)).sum
      rw[aO];exact SJ b1.c b2.c
     .show (r1.2++r2.2).length<=32
      rw[aO];exact SJ b1.w b2.w
     .have hm:∀v∈ao,v.length+(1+(x.map (yY n)).sum+(y.map (yY n)).sum)<=m:=hm
      have hl:1+(x.map (yY n)).sum+(y.map (yY n)).sum<=m:=hl;rcases bB.mp (show v∈r1.2++r2.2 from hv) with hv | hv
      .refine b1.l m (fun u hu=>?_) (by omega) v hv
       obtain⟨u',db,rfl⟩:=ck.mp hu;have:=hm u' db;rw[aO];show u'.length+1+_<=m;omega
      .refine b2.l m (fun u hu=>?_) (by omega) v hv
       obtain⟨u',db,rfl⟩:=ck.mp hu;have:=hm u' db;rw[aO];show u'.length+1+_<=m;omega
  | .whl a b c ks x,hok,h=>exact (show False from hok).elim
theorem JV{f:Str}{l:List (StN n)}{k:Nat}{ar:List Int}{ao:List (List D)}{r:Wk}(hok:∀s∈l,okN gs pr n s)(fG:ao.length<=16)(h:goO (qC f pr n) ar k ao l=some r):Bnd r (l.map (ym n)).sum (l.map (yY n)).sum 16 ao:=
 jbX (fun s path ao r=>jaw n s path ao r) l k ar ao r hok fG h
theorem ja6{α:Type}{wk:List Int->List (List D)->α->Option Wk}{ar:List Int}(s:α):∀(l:List α) (k:Nat) (ao:List (List D)),goO wk ar k ao (l++[s])=(match goO wk ar k ao l with
  | none=>none
  | some r1=>match wk (ar++[((k+l.length:Nat):Int)]) r1.2 s with
   | none=>none
   | some r2=>if r2.2.length<=16 then some (r1.1++r2.1,r2.2) else none)
 | [],k,ao=>by
  rw[lB];unfold goO;dsimp only;rw[mM,J_]
  cases wk (ar++[(k:Int)]) ao s with
  | none=>rfl
  | some r=>
   dsimp only;split
   .unfold goO
    simp
   .rfl
 | t :: l,k,ao=>by
  rw[bW,goO,goO]
  cases wk (ar++[(k:Int)]) ao t with
  | none=>rfl
  | some r=>
   dsimp only;split
   .rw[ja6 s l (k+1) r.2,bo,show k+1+l.length=k+(l.length+1) by omega]
    cases goO wk ar (k+1) r.2 l with
    | none=>rfl
    | some r2=>
     dsimp only
     cases wk (ar++[((k+(l.length+1):Nat):Int)]) r2.2 s with
     | none=>rfl
     | some r3=>
      dsimp only;by_cases h3:r3.2.length<=16
      .rw[Tu h3,Tu h3]
       simp
      .rw[Tt h3,Tt h3]
   .rfl
theorem ja7{α:Type}{wk:List Int->List (List D)->α->Option Wk}{ar:List Int}:∀(l r:List α) (k:Nat) (ao:List (List D)),goO wk ar k ao l=none->goO wk ar k ao (l++r)=none
 | [],r,k,ao,h=>by cases h
 | t :: l,r,k,ao,h=>by
  rw[bW];rw[goO]at h |-
  cases e:wk (ar++[(k:Int)]) ao t with
  | none=>rfl
  | some r1=>
   rw[e]at h;dsimp only at h |-;split
   .rename_i fG
    rw[Tu fG]at h
    cases e2:goO wk ar (k+1) r1.2 l with
    | none=>rw[ja7 l r (k+1) r1.2 e2]
    | some r2=>rw[e2]at h;cases h
   .rfl
abbrev KZ:aA:=top 4
abbrev yS:aA:=top 98
inductive spTurned(vs:List V)(H:Hp)(Q:VK)(E:XK):Prop
 | mk (v:V) (a b:Tm) (c:Int) (_:vs=[v]) (_:Held H (Cl.least a b c).toD v) (_:∀u H',Same H H'->Held H' (Cl.least b a (1 - c)).toD u->Q u H')
structure PreW(f:Str)(ms:List V)(path:List Int)(ao:List (List D))(d cost len:Nat):Prop where
 fl:f.length<=100
 w16:ao.length<=16
 hms:ms.length+cost<=9000
 hlen:∀w∈ao,w.length+len<=800
 len0:len<=760
 hpath:path.length+d<=90
def jfB(CW CT:aa)(H:Hp)(wo dx ml dp:aa)(f:Str)(gs:List Str)(pr:Str->Pc)(ms:List V)(r:Option Wk)(Q:VK)(E:XK):Prop:=
 (∀r' bq aE dM H',r=some r'->(∀b o,b≠ml->H b=some o->H' b=some o)->WkAt CW H' wo dx ml dp f gs pr (ms++bq) dM r'.2->DutsAt H' r'.1 bq aE->aE.Nodup->(∀x∈aE,H x=none)->Q (.ref dM) H')/\
 (r=none->∀H',(∀b o,b≠ml->H b=some o->H' b=some o)->E (.ref CT) none H')
inductive spStat(CW CT:aa)(n:Nat)(vs:List V)(H:Hp)(Q:VK)(E:XK):Prop
 | mk (wo dx ml dp pt wy:aa) (sv:V) (f:Str) (gs:List Str) (pr:Str->Pc) (ms:List V) (path:List Int) (ao:List (List D)) (S:StN (n+1)) (_:vs=[.ref wo,sv,.ref wy,.ref pt]) (_:WkAt CW H wo dx ml dp f gs pr ms wy ao) (_:H pt=some (.tup (path.map V.int))) (_:Held H (stD (n+1) S) sv) (_:okN gs pr (n+1) S) (_:PreW f ms path ao (2 * n+1) (ym (n+1) S) (yY (n+1) S)) (_:jfB CW CT H wo dx ml dp f gs pr ms (qC f pr (n+1) path ao S) Q E)
inductive spBody(CW CT:aa)(n:Nat)(vs:List V)(H:Hp)(Q:VK)(E:XK):Prop
 | mk (wo dx ml dp ar wy ba:aa) (f:Str) (gs:List Str) (pr:Str->Pc) (ms bs:List V) (path:List Int) (ao:List (List D)) (bd:List (StN n)) (_:vs=[.ref wo,.ref ba,.ref wy,.ref ar]) (_:WkAt CW H wo dx ml dp f gs pr ms wy ao) (_:H ar=some (.tup (path.map V.int))) (_:H ba=some (.tup bs)) (_:HeldL H (bd.map (stD n)) bs) (_:(∀S∈bd,okN gs pr n S)) (_:bd.length<=100) (_:PreW f ms path ao (2 * n) (bd.map (ym n)).sum (bd.map (yY n)).sum) (_:jfB CW CT H wo dx ml dp f gs pr ms (goN f pr n path ao bd) Q E)
variable {CT:aa}
section
theorem jdb(F:Fun K "turned" "turned" KZ f fd):FnOk P w K mg base CX0 1 f fd ["least"] spTurned:=by
 have sc:FnScope ["least","a","b","c"] ["least"] (ji KZ):=fQ;refine F.okZ sc (fun ay A outer s H vs Q E hr h=>?_);obtain⟨v,a,b,c,rfl,hv,q⟩:=h;refine⟨_,(ja (kX (kC zZ (zpv 0) (kF jl) qp) (jX rfl (jm (jj (i:=1) sc.nd rfl oQ) (jm (jj (i:=2) sc.nd rfl oQ) (jm (jj (i:=3) sc.nd rfl oQ) jJ)))))
   (jf (jr (zpd (jU (jq jY (jq (ya 2) (jq (ya 1) (jq (Ya (jG Z4 jl (zpv 3))) jP))))))))),?_⟩
 refine jV (σ':=[some v,none,none,none]) rfl ?_
 try dsimp only[j5]
 obtain⟨t,va,vb,rfl,ht,ha,hb⟩:=Ji hv;refine⟨_,rfl,_,rfl,t,_,rfl,SqT.of ht,(fun h=>absurd h.1 (by show ¬(HT.sIx 4 0 (some 1)=0);decide)),fun t' df=>?_⟩;have s1:=je df (.tup (qo [.str "least",va,vb,.int c] (some 1) none));have e1:upd H t' (.tup (qo [.str "least",va,vb,.int c] (some 1) none)) t'=some (.tup [va,vb,.int c]):=jb;generalize upd H t' (.tup (qo [.str "least",va,vb,.int c] (some 1) none))=H1 at *;refine⟨t',_,rfl,SqT.of e1,rfl,_,_,rfl,_,_,rfl,_,_,rfl,rfl,?_⟩;refine jV (σ':=[some (.ref t),some va,some vb,some (.int c)]) rfl ?_;refine⟨(Cl.least b a (1 - c)).toD,⟨_,rfl,aw rfl,_,_,rfl,rfl,_,_,rfl,⟨_,rfl,(hb.mono s1)⟩,_,_,rfl,⟨_,rfl,(ha.mono s1)⟩,_,_,rfl,(fun G sG Q q=>?_),rfl⟩,fun v H' s h=>q v H' (s1.trans s) h⟩;exact⟨_,rfl,1,c,rfl,rfl,q _ _ (fun _ _ e=>e) (by unfold Held;rfl)⟩
theorem jeZ{td:Tok}(F:Fun K "walk_body" "walk_body" qA f fd)(B:Free0 mg)(bJ:mg "enumerate" = none)(gT:mg "MOST_WAYS" = some (.int 16 td)):FnOk P w K mg base (CX1 P w) 7 f fd ["walk","body","ways","around"] (spBody CW CT 0):=by
 have sc:FnScope ["walk","body","ways","around","k","statement"] ["walk","body","ways","around"] (ji qA):=fQ;refine F.okX sc (fun vs H Q E h=>?_) (fun ay A outer s H vs Q E hr W h=>?_)
 .obtain⟨wo,dx,ml,dp,ar,wy,ba,f,gs,pr,ms,bs,path,ao,bd,rfl,_⟩:=h
  rfl
 obtain⟨wo,dx,ml,dp,ar,wy,ba,f,gs,pr,ms,bs,path,ao,bd,rfl,U,i4,ny,tZ,hok,hl,hp,q⟩:=h
 cases jh2 (l:=bd)
 cases jv tZ
 refine⟨_,(ja (jW W.own rfl (Ke (by rfl) bJ (jd (zpv 1) jc)) (jX rfl (jm (jj (i:=4) sc.nd rfl oQ) (jm (jj (i:=5) sc.nd rfl oQ) jJ))) (ja (jt (i:=2) sc.nd rfl oQ yd)
   (jf (jQ (jw Yq (qa ko (by rfl) B.len_ yJ (jd (zpv 2) jc)) (qq (v:=.int 16) (by rfl) gT ⟨_,rfl⟩) (jF _)) (jf jB) jC))))
   (jf (jr (zpv 2)))),?_⟩
 refine jV (σ':=[some (.ref wo),some (.ref ba),some (.ref wy),some (.ref ar),none,none]) rfl ?_
 try dsimp only[j5]
 refine⟨_,rfl,ba,rfl,⟨_,SqT.of ny⟩,?_⟩;refine Kt (xs:=[]) (fun i σ G=>∃u4 u5,σ=[some (.ref wo),some (.ref ba),some (.ref wy),some (.ref ar),u4,u5]/\G=H) ⟨none,none,rfl,rfl⟩ ?_ ?_ ?_
 .rintro i σ G _ ⟨u4,u5,rfl,rfl⟩
  exact SqT.of ny
 .rintro i y σ G t hy _ _
  simp at hy
 rintro σ G ⟨u4,u5,rfl,rfl⟩;exact⟨_,rfl,q.1 ([],ao) [] [] wy G rfl (fun _ _ _ e=>e) (by rw[dl];exact U) trivial fO fun _ z=>by cases z⟩
theorem jgm{td:Tok}(F:Fun K "walk_body" "walk_body" qA f fd)(T:ClsW K CW)(B:Free0 mg)(bJ:mg "enumerate" = none)(gT:mg "MOST_WAYS" = some (.int 16 td))(mt:mg "TooMany" = some (.ref CT))(mj:dE K CT valB "ValueError.__new__" = true)(Ps:FnX P w K mg base (3 * n+9) "walk_statement" ["walk","statement","ways","path"] (spStat CW CT n)):FnOk P w K mg base (CX1 P w) (3 * n+9+1) f fd ["walk","body","ways","around"] (spBody CW CT (n+1)):=by
 have sc:FnScope ["walk","body","ways","around","k","statement"] ["walk","body","ways","around"] (ji qA):=fQ;refine F.okX sc (fun vs H Q E h=>?_) (fun ay A outer s H vs Q E hr W h=>?_)
 .obtain⟨wo,dx,ml,dp,ar,wy,ba,f,gs,pr,ms,bs,path,ao,bd,rfl,_⟩:=h
  rfl
 obtain⟨wo,dx,ml,dp,ar,wy,ba,f,gs,pr,ms,bs,path,ao,bd,rfl,U,i4,ny,tZ,hok,hl100,hp,q⟩:=h;refine⟨_,(ja (jW W.own rfl (Ke (by rfl) bJ (jd (zpv 1) jc)) (jX rfl (jm (jj (i:=4) sc.nd rfl oQ) (jm (jj (i:=5) sc.nd rfl oQ) jJ))) (ja (jt (i:=2) sc.nd rfl oQ (zK Ps W hr (jd (zpv 0) (jd (zpv 5) (jd (zpv 2) (jd (jG yX (zpv 3) (jM (jd (zpv 4) jc))) jc))))))
   (jf (jQ (jw Yq (qa ko (by rfl) B.len_ yJ (jd (zpv 2) jc)) (qq (v:=.int 16) (by rfl) gT ⟨_,rfl⟩) (jF _)) (jf (Y6 W rfl (by rfl) mt mj (jd (jas (yx jy (yx (jat (qq (v:=.int 16) (by rfl) gT ⟨_,rfl⟩)) (yx jy (yx (jfI (jL (zpv 0) rfl)) jer))))) jc))) jC))))
   (jf (jr (zpv 2)))),?_⟩
 refine jV (σ':=[some (.ref wo),some (.ref ba),some (.ref wy),some (.ref ar),none,none]) rfl ?_
 try dsimp only[j5]
 have i3:=tZ.length;rw[aC]at i3;have Mf:=jab i4 U.hml;have Me:=jab ny U.hml;refine⟨_,rfl,ba,rfl,⟨_,SqT.of ny⟩,?_⟩;refine Kt (xs:=bs) (fun i σ G=>∃u4 u5 bq aE dM r,goN f pr (n+1) path ao (bd.take i)=some r/\σ=[some (.ref wo),some (.ref ba),some (.ref dM),some (.ref ar),u4,u5]/\(∀b o,b≠ml->H b=some o->G b=some o)/\WkAt CW G wo dx ml dp f gs pr (ms++bq) dM r.2/\DutsAt G r.1 bq aE/\aE.Nodup/\∀x∈aE,H x=none) ⟨none,none,[],[],wy,([],ao),rfl,rfl,fun _ _ _ e=>e,by rw[dl];exact U,trivial,fO,fun _ z=>by cases z⟩ ?_ ?_ ?_
 .rintro i σ G _ ⟨u4,u5,bq,aE,dM,r,er,rfl,kG,_⟩
  exact SqT.of (kG _ _ Me ny)
 .rintro i y σ G t hy ⟨u4,u5,bq,aE,dM,r,er,rfl,kG,U',hD,bX,cz⟩ ht
  have hi:i < bd.length:=by have:=(aY.mp hy).1;omega
  obtain⟨y',dQ,pj⟩:=tZ.get (show (bd.map (stD (n+1)))[i]?=some (stD (n+1) bd[i]) by rw[bU,aI hi];rfl);rw[hy]at dQ
  cases dQ
  have gq:bd.take (i+1)=bd.take i++[bd[i]]:=by rw[cE,aI hi];rfl
  have OU:bd=bd.take (i+1)++bd.drop (i+1):=(v_ _ _).symm;have bn:=JV (gs:=gs) (fun S hS=>hok S (SO hS)) hp.w16 er;have Mu:=hD.len;have gK:=ja6 (wk:=qC f pr (n+1)) (ar:=path) bd[i] (bd.take i) 0 ao;rw[<- gq,show goO (qC f pr (n+1)) path 0 ao (bd.take i)=some r from er]at gK;dsimp only at gK;rw[cM,ow (cP hi),mI]at gK;have Av:∀g:StN (n+1)->Nat,((bd.take i).map g).sum+g bd[i]<=(bd.map g).sum:=fun g=>by
   have h1:(bd.map g).sum=((bd.take (i+1)).map g).sum+((bd.drop (i+1)).map g).sum:=by rw[<- DS,<- bh,v_]
   rw[h1,gq,bh,DS];simp
  have hc:=Av (ym (n+1));have hln:=Av (yY (n+1));have hms:=hp.hms;have gi:=hp.len0;have Nm:=hp.hpath;have bc:=bn.c;have N4:=hok _ (gD hi);have Fw:∀r2,qC f pr (n+1) (path++[(i:Int)]) r.2 bd[i]=r2->(r2=none\/∃r3,r2=some r3/\¬r3.2.length<=16)->goN f pr (n+1) path ao bd=none:=fun r2 e h=>by
   rw[OU];refine ja7 _ _ _ _ ?_;rw[gK,e];rcases h with rfl | ⟨r3,rfl,h3⟩
   .rfl
   .dsimp only
    rw[Tt h3]
  have s1:=je ht (.tup [V.int i,y]);have e1:upd G t (.tup [V.int i,y]) t=some (.tup [V.int i,y]):=jb;generalize upd G t (.tup [V.int i,y])=G1 at *;refine y7 ?_;intro _;refine⟨t,_,rfl,SqT.of e1,rfl,_,_,rfl,_,_,rfl,rfl,?_⟩;refine jV (σ':=[some (.ref wo),some (.ref ba),some (.ref dM),some (.ref ar),some (.int i),some y]) rfl ?_;have k1:∀b o,b≠ml->H b=some o->G1 b=some o:=fun b o hb e=>s1 _ _ (kG b o hb e)
  refine⟨_,rfl,_,rfl,_,rfl,_,rfl,_,rfl,sm rfl,fun t1 fg=>?_⟩;have s2:=je fg (.tup [V.int i]);have e2:upd G1 t1 (.tup [V.int i]) t1=some (.tup [V.int i]):=jb;generalize upd G1 t1 (.tup [V.int i])=G2 at *;refine⟨ar,t1,_,_,rfl,rfl,s2 _ _ (k1 _ _ Mf i4),e2,aU (by rw[aC];show path.length+1<=1000;omega) (km (aB 1000)),fun t2 G3 s3 e3=>?_⟩;have cG:=s1.trans (s2.trans s3);have k3:∀b o,b≠ml->H b=some o->G3 b=some o:=fun b o hb e=>cG _ _ (kG b o hb e)
  have U3:=U'.mono cG;refine⟨wo,dx,ml,dp,t2,dM,y,f,gs,pr,ms++bq,path++[(i:Int)],r.2,bd[i],rfl,U3,by rw[bh];exact e3,(yA k3 U.hml).held pj,N4,⟨hp.fl,bn.w,by rw[aO];omega,fun w fZ=>?_,by omega,by rw[aO];show path.length+1+_<=90;omega⟩,fun r2 iO g8 sP G4 ip k4 U4 OG Mb EH=>?_,fun ip G4 k4=>?_⟩
  .have:=bn.l (800 - yY (n+1) bd[i]) (fun u hu=>by have:=hp.hlen u hu;omega) (by omega) w fZ
   omega
  .obtain⟨LA,MO,Bh⟩:=U4.hwy
   have l4:=Bh.len;refine gQ ?_;refine⟨_,rfl,sP,_,rfl,.inl (SqL.of MO),_,_,rfl,rfl,_,rfl,jZ (fun d=>?_) (fun d=>?_)⟩
   .have rg:¬r2.2.length<=16:=fun z=>by
     have d':=Tq d;rw[aC,l4]at d';have d':(16:Int) < (r2.2.length:Int):=d';omega
    have hE:=q.2 (Fw _ ip (.inr ⟨r2,rfl,rg⟩)) G4 fun b o hb e=>k4 b o hb (k3 b o hb e)
    have ii:=hp.fl;have La:∀{x y:Str} {k m:Nat},x.length<=k->y.length<=m->(x++y).length<=k+m:=fun hx hy=>by rw[jcM];omega
    have l1:(eR++("more than " : Str)).length<=10:=by decide +kernel
    have l2:(bx (nS (16:Int))).length<=2:=by decide +kernel
    have l3:(" ways in " : Str).length<=9:=by decide +kernel
    have m2:=La l1 l2;have m3:=La m2 l3;have m4:=La m3 ii;exact⟨_,rfl,km (aU l1 (by decide)),16,rfl,by decide,_,rfl,km (aU m2 (by decide)),_,rfl,km (aU m3 (by decide)),_,rfl,wo,CW,dx,_,_,rfl,U4.hwo,T.c,T.n1,rfl,f,rfl,km (aU ii (by decide)),f,rfl,km (aU m4 (by decide)),km (aU m4 (by decide)),(show 1<=1000 by decide),hE⟩
   .have rg:r2.2.length<=16:=by
     have d':¬((16:Int) < ((LA.map V.ref).length:Int)):=fun z=>d (Tr z)
     rw[aC,l4]at d';omega
    have kA:∀b o,b≠ml->G b=some o->G4 b=some o:=fun b o hb e=>k4 b o hb (cG _ _ e)
    have FB:ml ∉ aE:=fun z=>by have:=cz _ z;rw[U.hml]at this;cases this
    refine⟨_,_,bq++iO,aE++g8,sP,(r.1++r2.1,r2.2),?_,rfl,fun b o hb e=>k4 b o hb (k3 b o hb e),by rw[<- em];exact U4,DutsAt.app (DutsAt.keep kA U'.hml hD FB) OG,?_,?_⟩
    .show goO (qC f pr (n+1)) path 0 ao (bd.take (i+1))=_
     rw[gK,ip];dsimp only;rw[Tu rg]
    .refine g5.mpr ⟨bX,Mb,fun b hb c hc=>?_⟩
     rintro rfl;have:=qI (hD.mono cG) b hb;exact this (EH b hc)
    .intro b hb
     rcases bB.mp hb with hb | hb
     .exact cz b hb
     .have hn:=EH b hb
      have i0:b≠ml:=fun z=>by rw[z,U3.hml]at hn;cases hn
      rcases hh:H b with _ | o
      .rfl
      .rw[k3 b o i0 hh]at hn;cases hn
  .exact q.2 (Fw _ ip (.inl rfl)) G4 fun b o hb e=>k4 b o hb (k3 b o hb e)
 rintro σ G ⟨u4,u5,bq,aE,dM,r,er,rfl,kG,U',hD,bX,cz⟩;rw[<- i3,cV]at er;exact⟨_,rfl,q.1 r bq aE dM G er kG U' hD bX cz⟩
end
inductive spIf(CW CT:aa)(n:Nat)(vs:List V)(H:Hp)(Q:VK)(E:XK):Prop
 | mk (wo dx ml dp pt wy:aa) (sv:V) (f:Str) (gs:List Str) (pr:Str->Pc) (ms:List V) (path:List Int) (ao:List (List D)) (a b:Tm) (c:Int) (x y:List (StN n)) (_:vs=[.ref wo,sv,.ref wy,.ref pt]) (_:WkAt CW H wo dx ml dp f gs pr ms wy ao) (_:H pt=some (.tup (path.map V.int))) (_:Held H (Nd.ite a b c (x.map (stD n)) (y.map (stD n))).toD sv) (_:x.length<=100) (_:y.length<=100) (_:(∀s∈x,okN gs pr n s)) (_:(∀s∈y,okN gs pr n s)) (_:PreW f ms path ao (2 * n+1) ((x.map (ym n)).sum+(y.map (ym n)).sum) (1+(x.map (yY n)).sum+(y.map (yY n)).sum)) (_:jfB CW CT H wo dx ml dp f gs pr ms (Fo.walk (qC f pr n) f pr path ao (.ite a b c x y)) Q E)
variable {a b:Tm}{c:Int}
theorem jd8{f:Str}{ao:List (List D)}{x y:List (StN n)}{r1 r2:Wk}(e1:goN f pr n (path++[0]) (ao.map (·++[kM (.least a b c)])) x=some r1)(e2:goN f pr n (path++[1]) (ao.map (·++[kM (.least b a (1 - c))])) y=some r2):Fo.walk (qC f pr n) f pr path ao (.ite a b c x y)=some (r1.1++r2.1,r1.2++r2.2):=by
 unfold Fo.walk;dsimp only;rw[show goO (qC f pr n) (path++[0]) 0 (ao.map (·++[kM (.least a b c)])) x=some r1 from e1];dsimp only;rw[show goO (qC f pr n) (path++[1]) 0 (ao.map (·++[kM (.least b a (1 - c))])) y=some r2 from e2]
theorem jcU{f:Str}{ao:List (List D)}{x y:List (StN n)}(e1:goN f pr n (path++[0]) (ao.map (·++[kM (.least a b c)])) x=none):Fo.walk (qC f pr n) f pr path ao (.ite a b c x y)=none:=by
 unfold Fo.walk;dsimp only;rw[show goO (qC f pr n) (path++[0]) 0 (ao.map (·++[kM (.least a b c)])) x=none from e1]
theorem jcT{f:Str}{ao:List (List D)}{x y:List (StN n)}{r1:Wk}(e1:goN f pr n (path++[0]) (ao.map (·++[kM (.least a b c)])) x=some r1)(e2:goN f pr n (path++[1]) (ao.map (·++[kM (.least b a (1 - c))])) y=none):Fo.walk (qC f pr n) f pr path ao (.ite a b c x y)=none:=by
 unfold Fo.walk;dsimp only;rw[show goO (qC f pr n) (path++[0]) 0 (ao.map (·++[kM (.least a b c)])) x=some r1 from e1];dsimp only;rw[show goO (qC f pr n) (path++[1]) 0 (ao.map (·++[kM (.least b a (1 - c))])) y=none from e2]
theorem je3(k:∀b o,b≠ml->H b=some o->G b=some o)(hm:G ml=some (.lst ms)){b:aa}(hb:G b=none):H b=none:=by
 have i0:b≠ml:=fun z=>by rw[z,hm]at hb;cases hb
 rcases hh:H b with _ | o
 .rfl
 .rw[k b o i0 hh]at hb;cases hb
theorem jdJ{d1 d2:List Du}{m1 m2:List V}{w1 w2:List aa}(k:∀b o,b≠ml->H b=some o->G b=some o)(k':∀b o,b≠ml->G b=some o->G' b=some o)(hm:G ml=some (.lst ms))(hH:H ml≠none)(D1:DutsAt G d1 m1 w1)(n1:w1.Nodup)(f1:∀x∈w1,H x=none)(D2:DutsAt G' d2 m2 w2)(n2:w2.Nodup)(f2:∀x∈w2,G x=none):
  DutsAt G' (d1++d2) (m1++m2) (w1++w2)/\(w1++w2).Nodup/\∀x∈w1++w2,H x=none:=by
 refine⟨DutsAt.app (DutsAt.keep k' hm D1 fun z=>hH (f1 _ z)) D2,g5.mpr ⟨n1,n2,fun b hb c hc=>?_⟩,fun b hb=>?_⟩
 .rintro rfl
  exact qI D1 b hb (f2 b hc)
 .rcases bB.mp hb with hb | hb
  .exact f1 b hb
  .exact je3 k hm (f2 b hb)
section
theorem jih{k:Nat}(F:Fun K "walk_if" "walk_if" yS f fd)(ix:Fn P w K mg base 1 "known" ["claims"] spKnownL)(ir:Fn P w K mg base 1 "turned" ["least"] spTurned)(gV:Fn P w K mg base 1 "behind_each" ["ways","rows"] spBehind)(nK:FnX P w K mg base (3 * n+7) "walk_body" ["walk","body","ways","around"] (spBody CW CT n)):FnOk P w K mg base (CX1 P w) (3 * n+7+1) f fd ["walk","statement","ways","path"] (spIf CW CT n):=by
 have sc:FnScope ["walk","statement","ways","path","least","body","other","first","second"] ["walk","statement","ways","path"] (ji yS):=fQ;refine F.okX sc (fun vs H Q E h=>?_) (fun ay A outer s H vs Q E hr W h=>?_)
 .obtain⟨wo,dx,ml,dp,pt,wy,sv,f,gs,pr,ms,path,ao,a,b,c,x,y,rfl,_⟩:=h
  rfl
 obtain⟨wo,dx,ml,dp,pt,wy,sv,f,gs,pr,ms,path,ao,a,b,c,x,y,rfl,U,dA,hS,MM,ME,hx,hy,hp,q⟩:=h;refine⟨_,(ja (kX (kC zZ (zpv 1) (kF jl) qp) (jX rfl (jm (jj (i:=4) sc.nd rfl oQ) (jm (jj (i:=5) sc.nd rfl oQ) (jm (jj (i:=6) sc.nd rfl oQ) jJ)))))
   (ja (jt (i:=7) sc.nd rfl oQ (zK nK W hr (jd (zpv 0) (jd (zpv 5) (jd (kJ gV hr (jd (zpv 2) (jd (kJ ix hr (jd (jK (jd (zpv 4) jc)) jc)) jc))) (jd (jG yX (zpv 3) (jM (jd jl jc))) jc))))))
   (ja (jt (i:=8) sc.nd rfl oQ (zK nK W hr (jd (zpv 0) (jd (zpv 6) (jd (kJ gV hr (jd (zpv 2) (jd (kJ ix hr (jd (jK (jd (kJ ir hr (jd (zpv 4) jc)) jc)) jc)) jc))) (jd (jG yX (zpv 3) (jM (jd jl jc))) jc))))))
   (jf (jr (jG kW (zpv 7) (zpv 8))))))),?_⟩
 refine jV (σ':=[some (.ref wo),some sv,some (.ref wy),some (.ref pt),none,none,none,none,none]) rfl ?_
 try dsimp only[j5]
 refine YE ?_;intro _ _ _;obtain⟨t,u,p,r,xs,ys,rfl,ht,hu,pJ,dR,Nk,cI⟩:=JS hS;have hms:=hp.hms;have gi:=hp.len0;have Nm:=hp.hpath;have pA:=hp.w16;refine⟨_,rfl,_,rfl,t,_,rfl,SqT.of ht,(fun h=>absurd h.1 (by show ¬(HT.sIx 4 0 (some 1)=0);decide)),fun t' df=>?_⟩;have s1:=je df (.tup (qo [.str "if",u,.ref p,.ref r] (some 1) none));have e1:upd H t' (.tup (qo [.str "if",u,.ref p,.ref r] (some 1) none)) t'=some (.tup [u,.ref p,.ref r]):=jb;generalize upd H t' (.tup (qo [.str "if",u,.ref p,.ref r] (some 1) none))=H1 at *;refine⟨t',_,rfl,SqT.of e1,rfl,_,_,rfl,_,_,rfl,_,_,rfl,rfl,?_⟩;refine jV (σ':=[some (.ref wo),some (.ref t),some (.ref wy),some (.ref pt),some u,some (.ref p),some (.ref r),none,none]) rfl ?_;refine⟨_,rfl,_,rfl,_,rfl,_,rfl,sm rfl,fun l1 fi=>?_⟩;have s2:=je fi (.lst [u]);have e2:upd H1 l1 (.lst [u]) l1=some (.lst [u]):=jb;generalize upd H1 l1 (.lst [u])=H2 at *;have bv:=s1.trans s2;refine⟨l1,[u],[.least a b c],rfl,e2,Jj (hu.mono bv),(show 1<=100 by decide),fun l2 tu H3 s3 n3 e3 FK=>?_⟩;have cG:=bv.trans s3;have U3:=U.mono cG;obtain⟨b8,MP,Oq⟩:=U3.hwy;have lk3:=FK.length;refine⟨wy,ml,l2,b8,ms,tu,ao,[kM (.least a b c)],rfl,MP,U3.hml,Oq,e3,FK,by omega,fun w hw=>by have:=hp.hlen w hw;show w.length+1<=900;omega,fun l3 Ph H4 s4 n4 e4 Bh=>?_⟩;refine⟨_,rfl,sm rfl,fun t1 fg=>?_⟩;have s5:=je fg (.tup [V.int 0]);have e5:upd H4 t1 (.tup [V.int 0]) t1=some (.tup [V.int 0]):=jb;generalize upd H4 t1 (.tup [V.int 0])=H5 at *;have hU:=cG.trans (s4.trans s5);refine⟨pt,t1,_,_,rfl,rfl,hU _ _ dA,e5,km (by rw[aC];show path.length+1<=1000;omega),fun t2 H6 s6 e6=>?_⟩;have iN:=hU.trans s6;have s46:=s4.trans (s5.trans s6);have U6:=U.mono iN;have hml6:=U6.hml;have Ml:l3≠ml:=fun z=>by rw[z,U3.hml]at n4;cases n4
 have NQ:∀w∈ao.map (·++[kM (.least a b c)]),w.length+(x.map (yY n)).sum<=800:=fun w hw=>by
  obtain⟨w',fZ,rfl⟩:=ck.mp hw;have:=hp.hlen w' fZ;rw[aO];show w'.length+1+_<=800;omega
 have NP:∀w∈ao.map (·++[kM (.least b a (1 - c))]),w.length+(y.map (yY n)).sum<=800:=fun w hw=>by
  obtain⟨w',fZ,rfl⟩:=ck.mp hw;have:=hp.hlen w' fZ;rw[aO];show w'.length+1+_<=800;omega
 refine⟨wo,dx,ml,dp,t2,l3,p,f,gs,pr,ms,xs,path++[0],ao.map (·++[kM (.least a b c)]),x,rfl,⟨U6.hwo,U6.hml,U6.hp,⟨Ph,s6 _ _ (s5 _ _ e4),Bh.mono (s5.trans s6)⟩,Ml⟩,by rw[bh];exact e6,iN _ _ pJ,dR.mono iN,hx,MM,⟨hp.fl,by rw[aC];exact pA,by omega,NQ,by omega,by rw[aO];show path.length+1+_<=90;omega⟩,fun r1 ph Lx D6 H7 re k7 U7 Gg Ma L6=>?_,fun re H7 k7=>q.2 (jcU re) H7 fun b o hb e=>k7 b o hb (iN _ _ e)⟩;have m7:∀b o,b≠ml->H b=some o->H7 b=some o:=fun b o hb e=>k7 b o hb (iN _ _ e)
 have wE:=yA m7 U.hml;have b1:=JV (gs:=gs) hx (by rw[aC];exact pA) re;have ld7:=Gg.len;have bc1:=b1.c;have bw1:=b1.w;have V7:WkAt CW H7 wo dx ml dp f gs pr (ms++ph) wy ao:=U.keep m7 U7.hml;have xh:=jab dA U.hml;refine gQ ?_;refine⟨_,rfl,_,rfl,_,rfl,_,rfl,u,a,b,c,rfl,wE.held hu,fun u2 H8 s8 pD=>⟨sm rfl,fun l4 pO=>?_⟩⟩;have s9:=je pO (.lst [u2]);have e9:upd H8 l4 (.lst [u2]) l4=some (.lst [u2]):=jb;generalize upd H8 l4 (.lst [u2])=H9 at *;have LN:=s8.trans s9;refine⟨l4,[u2],[.least b a (1 - c)],rfl,e9,Jj (pD.mono s9),(show 1<=100 by decide),fun l5 Mz mq dP Mm Bz NY=>?_⟩;have Ep:=LN.trans dP;have B1:=V7.mono Ep;obtain⟨wC,MQ,Ou⟩:=B1.hwy;refine⟨wy,ml,l5,wC,ms++ph,Mz,ao,[kM (.least b a (1 - c))],rfl,MQ,B1.hml,Ou,Bz,NY,by omega,fun w hw=>by have:=hp.hlen w hw;show w.length+1<=900;omega,fun l6 Pg bK bp ET By Ot=>?_⟩;have LO:=Ep.trans bp;refine⟨_,rfl,sm rfl,fun t3 h_=>?_⟩;have wS:=je h_ (.tup [V.int 1]);have ug:upd bK t3 (.tup [V.int 1]) t3=some (.tup [V.int 1]):=jb;generalize upd bK t3 (.tup [V.int 1])=mo at *;have Eo:=LO.trans wS;refine⟨pt,t3,_,_,rfl,rfl,Eo _ _ (m7 _ _ xh dA),ug,km (by rw[aC];show path.length+1<=1000;omega),fun t4 H13 wR OX=>?_⟩;have mV:=Eo.trans wR;have BZ:=V7.mono mV;have Mj:l6≠ml:=fun z=>by rw[z,B1.hml]at ET;cases ET
 refine⟨wo,dx,ml,dp,t4,l6,r,f,gs,pr,ms++ph,ys,path++[1],ao.map (·++[kM (.least b a (1 - c))]),y,rfl,⟨BZ.hwo,BZ.hml,BZ.hp,⟨Pg,wR _ _ (wS _ _ By),Ot.mono (wS.trans wR)⟩,Mj⟩,by rw[bh];exact OX,mV _ _ (wE _ _ Nk),(wE.heldL cI).mono mV,hy,ME,⟨hp.fl,by rw[aC];exact pA,by rw[aO];omega,NP,by omega,by rw[aO];show path.length+1+_<=90;omega⟩,fun r2 iO g8 sP nJ ip Al vo OH Md L7=>?_,fun ip nJ Al=>q.2 (jcT re ip) nJ fun b o hb e=>Al b o hb (mV _ _ (m7 b o hb e))⟩;have Ae:∀b o,b≠ml->H7 b=some o->nJ b=some o:=fun b o hb e=>Al b o hb (mV _ _ e)
 have b2:=JV (gs:=gs) hy (by rw[aC];exact pA) ip;have bw2:=b2.w;have Pl:WkAt CW nJ wo dx ml dp f gs pr (ms++ph++iO) D6 r1.2:=U7.keep Ae vo.hml;obtain⟨oI,MV,F6⟩:=Pl.hwy;obtain⟨oH,MU,F5⟩:=vo.hwy;have lw1:=F6.len;have lw2:=F5.len;refine gQ ?_;refine⟨_,rfl,_,rfl,D6,sP,_,_,rfl,rfl,MV,MU,km (by rw[aC,aC];omega),fun l hl=>?_⟩;have mX:=je hl (.lst (oI.map V.ref++oH.map V.ref));have OW:upd nJ l (.lst (oI.map V.ref++oH.map V.ref)) l=some (.lst (oI.map V.ref++oH.map V.ref)):=jb;generalize upd nJ l (.lst (oI.map V.ref++oH.map V.ref))=H15 at *;obtain⟨j1,j2,j3⟩:=jdJ (G':=H15) (H:=H) m7 (fun b o hb e=>mX _ _ (Ae b o hb e)) U7.hml (by rw[U.hml];simp) Gg Ma (fun z hz=>iN.free (L6 z hz)) (OH.mono mX) Md (fun z hz=>mV.free (L7 z hz));have B2:=vo.mono mX;refine q.1 _ (ph++iO) (Lx++g8) l H15 (jd8 re ip) (fun b o hb e=>mX _ _ (Ae b o hb (m7 b o hb e))) ⟨B2.hwo,by rw[<- em];exact B2.hml,B2.hp,⟨oI++oH,by rw[bh];exact OW,WayL.app (F6.mono mX) (F5.mono mX)⟩,fun z=>by rw[z,vo.hml]at hl;cases hl⟩ j1 j2 j3
end
section
theorem jf8(F:Fun K "walk_statement" "walk_statement" kT f fd)(iw:Fn P w K mg base 1 "meet" ["walk","kind","path","ways","claims"] (spMeetT CW))(gV:Fn P w K mg base 1 "behind_each" ["ways","rows"] spBehind)(Pt:FnX P w K mg base (3 * n+8) "walk_if" ["walk","statement","ways","path"] (spIf CW CT n)):FnOk P w K mg base (CX1 P w) (3 * n+8+1) f fd ["walk","statement","ways","path"] (spStat CW CT n):=by
 have sc:FnScope ["walk","statement","ways","path","kind"] ["walk","statement","ways","path"] (ji kT):=fQ;refine F.okX sc (fun vs H Q E h=>?_) (fun ay A outer s H vs Q E hr Wx h=>?_)
 .obtain⟨wo,dx,ml,dp,pt,wy,sv,f,gs,pr,ms,path,ao,S,rfl,_⟩:=h
  rfl
 obtain⟨wo,dx,ml,dp,pt,wy,sv,f,gs,pr,ms,path,ao,S,rfl,W,dA,hS,hok,hp,q⟩:=h;refine⟨_,(ja (jt (i:=4) sc.nd rfl oQ (jz jE (zpv 1) jl (fun _ _=>rfl)))
   (ja (jQ (jw ka (zpv 4) jy (jF _)) (ja (j7 (kJ iw hr (jd (zpv 0) (jd jy (jd (zpv 3) (jd (zpv 2) (jd (kC zZ (zpv 1) (kF jl) qp) jc)))))))
   (jf (jr (zpv 2)))) jC)
   (ja (jQ (jw ka (zpv 4) jy (jF _)) (jf (jr (zK Pt Wx hr (jd (zpv 0) (jd (zpv 1) (jd (zpv 2) (jd (zpv 3) jc))))))) jC)
   (ja (jQ (jw ka (zpv 4) jy (jF _)) (jf jB) jC)
   (ja (jQ (jw ka (zpv 4) jy (jF _)) (jf jB) jC)
   (jf (jr (kJ gV hr (jd (zpv 2) (jd (jK (jd (zpv 1) jc)) jc)))))))))),?_⟩
 refine jV (σ':=[some (.ref wo),some sv,some (.ref wy),some (.ref pt),none]) rfl ?_
 try dsimp only[j5]
 refine jcz ?_;intro _ _ _ _ _;have hms:=hp.hms;have gi:=hp.len0;have pA:=hp.w16;match S,hS,hok,hp,hms,gi,q with
 | .ite a b c x y,hS,hok,hp,hms,gi,q=>
  obtain⟨t,u,p,r,xs,ys,rfl,ht,_⟩:=JS (show Held H (Nd.ite a b c (x.map (stD n)) (y.map (stD n))).toD sv from hS);refine⟨_,rfl,t,_,_,_,rfl,rfl,SqT.of ht,rfl,?_⟩;refine gQ ?_;refine⟨_,rfl,rfl,_,rfl,jZ (fun d=>absurd (Tq d) (by decide)) (fun _=>?_)⟩;refine⟨_,rfl,rfl,_,rfl,jZ (fun _=>?_) (fun d=>absurd (Tr rfl) d)⟩;exact⟨_,rfl,_,rfl,_,rfl,_,rfl,wo,dx,ml,dp,pt,wy,_,f,gs,pr,ms,path,ao,a,b,c,x,y,rfl,W,dA,hS,hok.1,hok.2.1,hok.2.2.1,hok.2.2.2,hp,q⟩
 | .whl a b c ks x,hS,hok,hp,hms,gi,q=>exact (show False from hok).elim
 | .leaf S,hS,hok,hp,hms,gi,q=>
  have hS:Held H S.toD sv:=hS;obtain⟨N_,pS⟩:=(show S.fit gs pr/\S.few from hok)
  have hms:ms.length+S.cost<=9000:=hms;have AN:∀w∈ao,w.length<=800:=fun w hw=>by have:=hp.hlen w hw;omega
  have q1:=fun bq aE dM H'=>q.1 (S.walk f pr path ao) bq aE dM H' rfl
  obtain⟨a,k,r,rfl,ha,h1,h2,h3,h4⟩:=Sm.head hS;obtain⟨b8,hwy,hW⟩:=W.hwy;refine⟨_,rfl,a,_,_,V.str k,rfl,rfl,SqT.of ha,jH (j:=0) rfl,?_⟩;refine gQ ?_;refine⟨_,rfl,rfl,_,rfl,jZ (fun d=>?_) (fun d=>?_)⟩
  .have ek:k = "claim":=by have:=Tq d;injection this
   obtain⟨C,rfl⟩:=h4.mp ek;clear ha h4 h3 h2 h1 d;obtain⟨a',u,ea,ha,db⟩:=Jn hS
   cases ea
   refine⟨_,rfl,_,rfl,_,rfl,_,rfl,_,rfl,a,_,rfl,SqT.of ha,(fun h=>absurd h.1 (by show ¬(HT.sIx 2 0 (some 1)=0);decide)),fun t ht=>?_⟩;have s1:=je ht (.tup (qo [.str "claim",u] (some 1) none));have e1:upd H t (.tup (qo [.str "claim",u] (some 1) none)) t=some (.tup [u]):=jb;have L3:t≠ml:=fun z=>by rw[z,W.hml]at ht;cases ht
   generalize upd H t (.tup (qo [.str "claim",u] (some 1) none))=H1 at *;have hms:ms.length+16<=9000:=hms;refine⟨wo,dx,ml,pt,wy,t,b8,f,"claim",.ref dp,ms,[u],path,ao,[C],rfl,s1 _ _ W.hwo,s1 _ _ W.hml,s1 _ _ dA,s1 _ _ hwy,hW.mono s1,e1,Jj (db.mono s1),W.nwy,L3,by omega,by show ms.length+ao.length * 1<=9000;omega,fun bq aE H' k' NI hD bX cz=>?_⟩;have kk:∀b o,b≠ml->H b=some o->H' b=some o:=fun b o hb e=>k' b o hb (s1 _ _ e)
   exact⟨_,rfl,q1 bq aE wy H' kk (W.keep kk NI) hD bX fun x hx=>s1.free (cz x hx)⟩
  .have nC:∀C,S≠.claim C:=fun C z=>d (Tr (Tw V.str (h4.mpr ⟨C,z⟩)))
   refine⟨_,rfl,rfl,_,rfl,jZ (fun d=>absurd (Tq d) (fun z=>h1 (by injection z))) (fun _=>?_)⟩;refine⟨_,rfl,rfl,_,rfl,jZ (fun d=>absurd (Tq d) (fun z=>h2 (by injection z))) (fun _=>?_)⟩;refine⟨_,rfl,rfl,_,rfl,jZ (fun d=>?_) (fun d=>?_)⟩
   .have ek:k = "call":=by have:=Tq d;injection this
    obtain⟨x,g,as,rows,rfl⟩:=h3.mp ek;exact N_.elim
   have nL:∀x g as rows,S≠.call x g as rows:=fun x g as rows z=>d (Tr (Tw V.str (h3.mpr ⟨x,g,as,rows,z⟩)))
   have ew:S.walk f pr path ao=([],ao.map (·++[S.toD])):=by cases S <;> first | rfl | exact absurd rfl (nC _) | exact absurd rfl (nL _ _ _ _)
   refine⟨_,rfl,_,rfl,sm rfl,fun rl iR=>?_⟩;have s1:=je iR (.lst [.ref a]);have e1:upd H rl (.lst [.ref a]) rl=some (.lst [.ref a]):=jb;generalize upd H rl (.lst [.ref a])=H1 at *;refine⟨wy,ml,rl,b8,ms,[.ref a],ao,[S.toD],rfl,s1 _ _ hwy,s1 _ _ W.hml,hW.mono s1,e1,Jj (hS.mono s1),by omega,fun w hw=>by have:=AN w hw;show w.length+1<=900;omega,fun l as H' s2 n1 e2 Os=>?_⟩;have bv:=s1.trans s2;have W2:=W.mono bv;have NC:=s1 _ _ W.hml;refine q1 [] [] l H' (fun b o _ e=>bv _ _ e) ⟨W2.hwo,by rw[dl];exact W2.hml,W2.hp,⟨as,e2,by rw[ew];exact Os⟩,(fun z=>by rw[z,NC]at n1;cases n1)⟩ (by rw[ew];trivial) fO fun _ z=>by cases z
theorem Yb{CW CT:aa}{td:Tok}{f1 f2 f3:aa}{q_ Go Gn:aD}(U1:Fun K "walk_body" "walk_body" qA f1 q_)(b1:Binds K q_ ["walk","body","ways","around"] [])(m1:mg "walk_body" = some (.ref f1))(U2:Fun K "walk_statement" "walk_statement" kT f2 Go)(b2:Binds K Go ["walk","statement","ways","path"] [])(m2:mg "walk_statement" = some (.ref f2))(U3:Fun K "walk_if" "walk_if" yS f3 Gn)(b3:Binds K Gn ["walk","statement","ways","path"] [])(m3:mg "walk_if" = some (.ref f3))
  (T:ClsW K CW) (B:Free0 mg) (bJ:mg "enumerate" = none) (gT:mg "MOST_WAYS" = some (.int 16 td)) (mt:mg "TooMany" = some (.ref CT)) (mj:dE K CT valB "ValueError.__new__" = true)
  (iw:Fn P w K mg base 1 "meet" ["walk","kind","path","ways","claims"] (spMeetT CW)) (gV:Fn P w K mg base 1 "behind_each" ["ways","rows"] spBehind) (ix:Fn P w K mg base 1 "known" ["claims"] spKnownL) (ir:Fn P w K mg base 1 "turned" ["least"] spTurned):∀n,FnX P w K mg base (3 * n+7) "walk_body" ["walk","body","ways","around"] (spBody CW CT n)
 | 0=>FnX.mk' U1 b1 m1 (jeZ U1 B bJ gT)
 | n+1=>
  have ih:=Yb U1 b1 m1 U2 b2 m2 U3 b3 m3 T B bJ gT mt mj iw gV ix ir n
  have hi:=FnX.mk' U3 b3 m3 (jih (k:=0) U3 ix ir gV ih)
  have hs:=FnX.mk' U2 b2 m2 (jf8 U2 iw gV hi)
  FnX.mk' U1 b1 m1 (jgm U1 T B bJ gT mt mj hs)
end
abbrev yu:aA:=top 90
abbrev qd:aA:=top 89
abbrev K1:aA:=top 88
def Pc.dus(p:Pc)(pr:Str->Pc)(ns:List Str):Option (List Du):=match goN p.f pr p.lv [] [p.wayD ns] p.bd with
 | none=>none
 | some r=>some (r.1++zG p.f "give" [] r.2 p.gv)
structure PcFit(gs:List Str)(pr:Str->Pc)(p:Pc):Prop where
 ok:PcOk p
 fit:∀S∈p.bd,okN gs pr p.lv S
 bd:p.bd.length<=100
 cost:(p.bd.map (ym p.lv)).sum+16 * p.gv.length<=8900
 len:(p.bd.map (yY p.lv)).sum<=700
 fl:p.f.length<=100
 lv:p.lv<=40
inductive spDutiesOf(CT:aa)(n:Nat)(vs:List V)(H:Hp)(Q:VK)(E:XK):Prop
 | mk (v:V) (dp:aa) (p:Pc) (gs:List Str) (pr:Str->Pc) (_:vs=[v,.ref dp]) (_:p.lv=n) (_:Held H p.toD v) (_:PcFit gs pr p) (_:ProcsAt H dp gs pr) (_:(∀(ml:aa) (ms:List V) (aE:List aa) (ns:List Str) (ds:List Du) (H':Hp),NumsOf p ns->p.dus pr ns=some ds->Same H H'->H ml=none->H' ml=some (.lst ms)->DutsAt H' ds ms aE->aE.Nodup->(∀x∈aE,H x=none)->ml ∉ aE->Q (.ref ml) H')/\
 (∀ns H',NumsOf p ns->p.dus pr ns=none->Same H H'->E (.ref CT) none H'))
theorem jd6{ns:List Str}(hp:PcOk p)(hn:NumsOf p ns):(p.wayD ns).length<=35:=by
 unfold Pc.wayD;have h1:=oz (fun x=>!decide (x∈p.ps)) ns;have h2:=hn.few;have h3:=hp.nd;rw[aO,aC,aC];omega
section
theorem jaS(T:ClsW K CW)(F:Fun K "duties_of" "duties_of" yu f fd)(B4:MkFn P w K mg base 1 "Walk" CW ["self","f","procs"] (spWalk CW))(CG:Fn P w K mg base (n+5+1) "first_way" ["proc"] (spFirst n))(nK:FnX P w K mg base (3 * n+7) "walk_body" ["walk","body","ways","around"] (spBody CW CT n))(iw:Fn P w K mg base 1 "meet" ["walk","kind","path","ways","claims"] (spMeetT CW)):FnOk P w K mg base (CX1 P w) (3 * n+7+1) f fd ["proc","procs"] (spDutiesOf CT n):=by
 have sc:FnScope ["proc","procs","f","gives","body","walk","ways"] ["proc","procs"] (ji yu):=fQ;refine F.okX sc (fun vs H Q E h=>?_) (fun ay A outer s H vs Q E hr W h=>?_)
 .obtain⟨v,dp,p,gs,pr,rfl,_⟩:=h
  rfl
 obtain⟨v,dp,p,gs,pr,rfl,rfl,hv,iT,AB,q⟩:=h;have hp:=iT.ok;refine⟨_,(ja (jdT (i:=2) (j:=3) (l:=4) rfl sc.nd rfl rfl rfl (by decide) (by decide) (by decide) oQ oQ oQ (jd (jz jE (zpv 0) jl (fun _ _=>rfl)) (jd (jz jE (zpv 0) jl (fun _ _=>rfl)) (jd (jz jE (zpv 0) jl (fun _ _=>rfl)) jc))) (by rfl) oQ oQ oQ)
   (ja (jt (i:=5) sc.nd rfl oQ (jfH B4 hr (jd (zpv 2) (jd (zpv 1) jc))))
   (ja (jt (i:=6) sc.nd rfl oQ (zK nK W hr (jd (zpv 5) (jd (zpv 4) (jd (jK (jd (kJ CG hr (jd (zpv 0) jc)) jc)) (jd (jM jc) jc))))))
   (ja (j7 (kJ iw hr (jd (zpv 5) (jd jy (jd (jM jc) (jd (zpv 6) (jd (zpv 3) jc)))))))
   (jf (jr (jL (zpv 5) rfl))))))),?_⟩
 refine jV (σ':=[some v,some (.ref dp),none,none,none,none,none]) rfl ?_
 try dsimp only[j5]
 refine YD ?_;intro _ _ _ _;obtain⟨a,ap,ar0,an,ag,ab,vn,vg,vb,rfl,ha,t_,har0,ua,hn,pY,hg,bI,hb⟩:=Yo hv;refine⟨_,rfl,a,_,_,_,rfl,rfl,SqT.of ha,rfl,_,rfl,a,_,_,_,rfl,rfl,SqT.of ha,rfl,_,rfl,a,_,_,_,rfl,rfl,SqT.of ha,rfl,_,_,_,rfl,?_⟩;refine jV (σ':=[some (.ref a),some (.ref dp),some (.str p.f),some (.ref ag),some (.ref ab),none,none]) rfl ?_;refine⟨_,rfl,_,rfl,fun wo dx hwo tT fw=>?_⟩;have s1:Same H (upd (upd H dx (.own wo)) wo (.ins CW dx [])):=fun b o z=>by rw[jp (jh z hwo),jp (jh z tT)];exact z
 have c1:upd (upd H dx (.own wo)) wo (.ins CW dx []) wo=some (.ins CW dx []):=jb;generalize upd (upd H dx (.own wo)) wo (.ins CW dx [])=H1 at *;refine⟨wo,dx,p.f,.ref dp,rfl,c1,fun ml H2 k2 hml c2 e2=>⟨rfl,?_⟩⟩;have s2:Same H H2:=fun b o z=>k2 b o (jh z hwo) (s1 _ _ z)
 have lX:H ml=none:=s1.free hml;refine gQ ?_;refine⟨_,rfl,_,rfl,_,rfl,.ref a,p,rfl,rfl,hv.mono s2,hp,fun wl us ns H3 fB s3 n3 e3 gJ=>⟨sm rfl,fun wy hwy=>?_⟩⟩;have s4:=je hwy (.lst [.ref wl]);have e4:upd H3 wy (.lst [.ref wl]) wy=some (.lst [.ref wl]):=jb;generalize upd H3 wy (.lst [.ref wl])=H4 at *;refine⟨sm rfl,fun ar i4=>?_⟩;have s5:=je i4 (.tup []);have e5:upd H4 ar (.tup []) ar=some (.tup []):=jb;generalize upd H4 ar (.tup [])=H5 at *;have oU:=s3.trans (s4.trans s5);have hU:=s2.trans oU;have lus:=gJ.length;have lway:=jd6 hp fB;have lbd:=hp.bd;have lgv:=hp.gv;have NB:=s3 _ _ e2;have LY:wl≠ml:=fun z=>by rw[z,e2]at n3;cases n3
 have hml5:H5 ml=some (.lst []):=oU _ _ e2;have hcost:=iT.cost;have hlen:=iT.len;have ie:=iT.lv;refine⟨wo,dx,ml,dp,ar,wy,ab,p.f,gs,pr,[],vb,[],[p.wayD ns],p.bd,rfl,⟨oU _ _ c2,oU _ _ e2,AB.mono hU,⟨[wl],s5 _ _ e4,⟨⟨LY,us,s5 _ _ (s4 _ _ e3),gJ.mono (s4.trans s5)⟩,trivial⟩⟩,(fun z=>by rw[z,NB]at hwy;cases hwy)⟩,e5,hU _ _ bI,hb.mono hU,iT.fit,iT.bd,⟨iT.fl,(show 1<=16 by decide),by show 0+_<=9000;omega,fun w hw=>by rw[bf.mp hw];omega,by omega,by show 0+_<=90;omega⟩,fun r bq aE dM H6 er k6 W6 hD bX cz=>?_,fun er H6 k6=>q.2 ns H6 fB (by unfold Pc.dus;rw[er]) fun b o z=>k6 b o (jh z lX) (hU _ _ z)⟩;rw[lB]at W6;have Mu:=hD.len;have bn:=JV (gs:=gs) iT.fit (show [p.wayD ns].length<=16 from (show 1<=16 by decide)) er;have bc:=bn.c;have bw:=bn.w;have Nz:r.2.length * p.gv.length<=16 * p.gv.length:=IX _ bw;have OT:p.dus pr ns=some (r.1++zG p.f "give" [] r.2 p.gv):=by unfold Pc.dus;rw[er]
 have iN:Same H H6:=fun b o z=>k6 b o (jh z lX) (hU _ _ z)
 refine gQ ?_;refine⟨_,rfl,sm rfl,fun pt dA=>?_⟩;have s7:=je dA (.tup []);have e7:upd H6 pt (.tup []) pt=some (.tup []):=jb;generalize upd H6 pt (.tup [])=H7 at *;have W7:=W6.mono s7;obtain⟨wC,MN,Op⟩:=W7.hwy;have oV:=iN.trans s7;have Mi:=jab (oV _ _ pY) W7.hml;refine⟨_,rfl,_,rfl,wo,dx,ml,pt,dM,ag,wC,p.f,"give",.ref dp,bq,vg,[],_,p.gv,rfl,W7.hwo,W7.hml,e7,MN,Op,oV _ _ pY,hg.mono oV,W7.nwy,Mi,by omega,by omega,fun iO g8 H8 k8 NF OF L_ xk=>?_⟩;have LR:Same H H8:=fun b o z=>k8 b o (jh z lX) (oV _ _ z)
 have nwo:wo≠ml:=fun z=>by have:=W7.hwo;rw[z,W7.hml]at this;cases this
 have NG:H5 ml=some (.lst []):=oU _ _ e2;have pL:ml ∉ aE:=fun z=>by have:=cz _ z;rw[NG]at this;cases this
 have NA:ml ∉ g8:=fun z=>by have:=xk _ z;rw[W7.hml]at this;cases this
 refine⟨_,rfl,wo,CW,dx,_,_,rfl,k8 _ _ nwo W7.hwo,T.c,T.n3,rfl,q.1 ml _ (aE++g8) ns _ H8 fB OT LR lX NF ?_ ?_ ?_ ?_⟩
 .exact DutsAt.app (DutsAt.keep (G:=H6) (G':=H8) (fun b o hb e=>k8 b o hb (s7 _ _ e)) W6.hml hD pL) OF
 .refine g5.mpr ⟨bX,L_,fun x hx y hy=>?_⟩
  rintro rfl;have h1:=qI hD x hx;rcases hh:H6 x with _ | o
  .exact h1 hh
  .have:=xk x hy
   rw[s7 _ _ hh]at this
   cases this
 .intro x hx
  rcases bB.mp hx with hx | hx
  .exact hU.free (cz x hx)
  .exact oV.free (xk x hx)
 .intro z
  rcases bB.mp z with z | z
  .exact pL z
  .exact NA z
inductive spProcs(vs:List V)(H:Hp)(Q:VK)(E:XK):Prop
 | mk (a:aa) (us:List V) (prog:List Pc) (pr:Str->Pc) (_:vs=[.ref a]) (_:H a=some (.tup us)) (_:HeldL H (prog.map Pc.toD) us) (_:prog.length<=100) (_:(prog.map Pc.f).Nodup) (_:(∀p∈prog,pr p.f=p)/\∀d H',Same H H'->H d=none->ProcsAt H' d (prog.map Pc.f) pr->Q (.ref d) H')
theorem jeR(F:Fun K "procs_by_name" "procs_by_name" qd f fd):FnOk P w K mg base CX0 1 f fd ["program"] spProcs:=by
 have sc:FnScope ["program"] ["program"] (ji qd):=fQ;refine F.okZ sc (fun ay A outer s H vs Q E hr h=>?_);obtain⟨a,us,prog,pr,rfl,ha,nh,hl,bX,AB,q⟩:=h;have cy:=nh.length;rw[aC]at cy;refine⟨_,(jf (jr (Y8 ["proc"] [] rfl (j9 (sc:=ji qd) (N:=["program"]) rfl rfl (by decide +kernel)) (zJ (zpv 0)) (fun s H ex=>⟨(jj (i:=0) (show bg (["proc"]:List Str) by decide +kernel) rfl oQ),kf,(jz (yB (K:=K)) (zpv 0) jl (fun _ _=>rfl)),(zpv 0)⟩)))),?_⟩
 try dsimp only[j5]
 refine⟨_,rfl,a,rfl,⟨_,SqT.of ha⟩,fun d hd=>?_⟩;refine jdL (xs:=us) (fun i σ' G=>(∃u,σ'=[u])/\Same H G/\∃kv,G d=some (.dK kv)/\kv.length<=i/\∀p∈prog.take i,∃v,qm kv (Sum.inr p.f)=some v/\Held H p.toD v) ⟨⟨none,rfl⟩,je hd _,[],jb,aB _,fun p hp=>by cases hp⟩ ?_ ?_ ?_
 .rintro i σ' G _ ⟨_,sG,_⟩
  exact SqT.of (sG _ _ ha)
 .rintro i x σ' G hx ⟨⟨u,rfl⟩,sG,kv,eG,iW,gM⟩
  have hi:i < prog.length:=by have:=(aY.mp hx).1;omega
  obtain⟨x',aZ,dS⟩:=nh.get (show (prog.map Pc.toD)[i]?=some prog[i].toD by rw[bU,aI hi];rfl);rw[hx]at aZ
  cases aZ
  have MI:=dS;obtain⟨b,ap,ar,an,ag,ab,vn,vg,vb,rfl,hb,_⟩:=Yo dS;unfold kO Jo;refine kY ?_;refine⟨_,rfl,b,_,_,_,rfl,rfl,SqT.of (sG _ _ hb),rfl,_,rfl,kv,Sum.inr prog[i].f,rfl,eG,jS (by omega),⟨_,rfl⟩,fun b o e=>?_,_,jb,?_,fun p hp=>?_⟩
  .rw[jp (jh e hd)];exact sG _ _ e
  .exact aU (jet _ _ _) (by omega)
  .rw[show prog.take (i+1)=prog.take i++[prog[i]] by rw[cE,aI hi];rfl]at hp
   rcases bB.mp hp with hp | hp
   .obtain⟨v,e1,e2⟩:=gM p hp
    refine⟨v,?_,e2⟩;rw[JD,Tt,e1];intro e;have e:=CZ e;obtain⟨j,hj,FO⟩:=Lh.mp hp;rw[cM]at hj;rw[S1]at FO;have:=(DU.mp bX) j i (by rw[aC];omega) (by rw[aC];omega) (by omega);rw[S2,S2,FO]at this;exact this e
   .rw[bf.mp hp]
    exact⟨_,by rw[JD,Tu rfl],MI⟩
 .rintro σ' G ⟨_,sG,kv,eG,_,gM⟩
  rw[<- cy,cV]at gM;refine q d G sG hd ⟨kv,eG,fun g hg=>?_⟩;obtain⟨p,hp,rfl⟩:=ck.mp hg;obtain⟨v,e1,e2⟩:=gM p hp;exact⟨v,e1,by rw[AB p hp];exact e2.mono sG⟩
end
def qK(pr:Str->Pc)(num:Pc->List Str):List Pc->Option (List Du)
 | []=>some []
 | p :: r=>match p.dus pr (num p) with
  | none=>none
  | some d=>match qK pr num r with
   | none=>none
   | some e=>some (d++e)
theorem Zz(pr:Str->Pc)(num:Pc->List Str)(p:Pc):∀l:List Pc,qK pr num (l++[p])=(match qK pr num l with
  | none=>none
  | some d=>match p.dus pr (num p) with
   | none=>none
   | some e=>some (d++e))
 | []=>by
  show qK pr num [p]=_;unfold qK;dsimp only[qK]
  cases p.dus pr (num p) with
  | none=>rfl
  | some e=>simp
 | x :: l=>by
  rw[bW];rw[qK,qK,Zz pr num p l]
  cases x.dus pr (num x) with
  | none=>rfl
  | some d=>
   dsimp only
   cases qK pr num l with
   | none=>rfl
   | some d'=>
    dsimp only
    cases p.dus pr (num p) with
    | none=>rfl
    | some e=>simp
theorem ZA(pr:Str->Pc)(num:Pc->List Str):∀l r:List Pc,qK pr num l=none->qK pr num (l++r)=none
 | [],r,h=>by cases h
 | x :: l,r,h=>by
  rw[bW];rw[qK]at h |-
  cases e:x.dus pr (num x) with
  | none=>rfl
  | some d=>
   rw[e]at h;dsimp only at h |-
   cases e2:qK pr num l with
   | none=>rw[ZA pr num l r e2]
   | some d'=>rw[e2]at h;cases h
theorem NumsOf.uniq{ns EA:List Str}(h:NumsOf p ns)(h':NumsOf p EA):ns=EA:=Zp h.up h'.up fun x=>by rw[h.mem,h'.mem]
def Pc.most(p:Pc):Nat:=(p.bd.map (ym p.lv)).sum+16 * p.gv.length
theorem jbf{ns:List Str}{ds:List Du}(hp:PcFit gs pr p)(h:p.dus pr ns=some ds):ds.length<=p.most:=by
 unfold Pc.dus at h;split at h
 .cases h
 .rename_i r er
  cases h
  have bn:=JV (gs:=gs) hp.fit (show [p.wayD ns].length<=16 from (show 1<=16 by decide)) er;have Nz:r.2.length * p.gv.length<=16 * p.gv.length:=IX _ bn.w;have:=bn.c;unfold Pc.most;rw[aO,Jh];omega
theorem Kv{gs:List Str}{pr:Str->Pc}{num:Pc->List Str}:∀{l:List Pc} {ds:List Du},(∀p∈l,PcFit gs pr p)->qK pr num l=some ds->ds.length<=(l.map Pc.most).sum
 | [],ds,_,h=>by
  unfold qK at h
  cases h
  exact bA _
 | p :: l,ds,hp,h=>by
  rw[qK]at h;split at h
  .cases h
  .rename_i d e1
   split at h
   .cases h
   .rename_i d' e2
    cases h
    have h1:=jbf (hp p bt) e1;have h2:=Kv (fun x hx=>hp x (bu _ hx)) e2;rw[aO,bE,DR];omega
inductive spDuties(CT:aa)(n:Nat)(vs:List V)(H:Hp)(Q:VK)(E:XK):Prop
 | mk (a:aa) (us:List V) (prog:List Pc) (pr:Str->Pc) (num:Pc->List Str) (_:vs=[.ref a]) (_:H a=some (.tup us)) (_:HeldL H (prog.map Pc.toD) us) (_:prog.length<=20) (_:(prog.map Pc.f).Nodup) (_:(∀p∈prog,p.lv=n/\pr p.f=p/\PcFit (prog.map Pc.f) pr p/\NumsOf p (num p))/\(prog.map Pc.most).sum<=9000/\
 (∀(ml:aa) (ms:List V) (aE:List aa) (ds:List Du) (H':Hp),qK pr num prog=some ds->Same H H'->H ml=none->H' ml=some (.lst ms)->DutsAt H' ds ms aE->aE.Nodup->(∀x∈aE,H x=none)->ml ∉ aE->Q (.ref ml) H')/\
 (qK pr num prog=none->∀H',Same H H'->E (.ref CT) none H'))
section
theorem jdn(F:Fun K "duties" "duties" K1 f fd)(Cn:Fn P w K mg base 1 "procs_by_name" ["program"] spProcs)(CI:FnX P w K mg base (3 * n+8) "duties_of" ["proc","procs"] (spDutiesOf CT n)):FnOk P w K mg base (CX1 P w) (3 * n+8+1) f fd ["program"] (spDuties CT n):=by
 have sc:FnScope ["program","procs","told","proc"] ["program"] (ji K1):=fQ;refine F.okX sc (fun vs H Q E h=>?_) (fun ay A outer s H vs Q E hr W h=>?_)
 .obtain⟨a,us,prog,pr,num,rfl,_⟩:=h
  rfl
 obtain⟨a,us,prog,pr,num,rfl,ha,nh,hl20,Nw,hok,FC,q⟩:=h;refine⟨_,(ja (jt (i:=1) sc.nd rfl oQ (kJ Cn hr (jd (zpv 0) jc)))
   (ja (jt (i:=2) sc.nd rfl oQ (jK jc))
   (ja (jW W.own rfl (zJ (zpv 0)) (jj (i:=3) sc.nd rfl oQ) (jf (j7 (ql dL r_ rZ zB (zpv 2) (jd (zK CI W hr (jd (zpv 3) (jd (zpv 1) jc))) jc)))))
   (jf (jr (zpv 2)))))),?_⟩
 refine jV (σ':=[some (.ref a),none,none,none]) rfl ?_
 try dsimp only[j5]
 refine YE ?_;intro _ _ _;have cv:=nh.length;rw[aC]at cv;refine⟨_,rfl,a,us,prog,pr,rfl,ha,nh,by omega,Nw,fun p hp=>(hok p hp).2.1,fun d H1 s1 hd hP=>?_⟩;refine gQ ?_;refine⟨sm rfl,fun l hl=>?_⟩;have s2:=je hl (.lst []);have e2:upd H1 l (.lst []) l=some (.lst []):=jb;generalize upd H1 l (.lst [])=H2 at *;have gi:=s1.free hl;refine gQ ?_;have bv:=s1.trans s2;refine⟨_,rfl,a,rfl,⟨_,SqT.of (bv _ _ ha)⟩,?_⟩;refine JW (xs:=us) (fun i σ G=>∃u3 ms aE ds,qK pr num (prog.take i)=some ds/\σ=[some (.ref a),some (.ref d),some (.ref l),u3]/\Same H G/\ProcsAt G d (prog.map Pc.f) pr/\G l=some (.lst ms)/\DutsAt G ds ms aE/\aE.Nodup/\(∀x∈aE,H x=none)/\l ∉ aE) ⟨none,[],[],[],rfl,rfl,bv,hP.mono s2,e2,trivial,fO,(fun _ z=>by cases z),eV⟩ ?_ ?_ ?_
 .rintro i σ G _ ⟨u3,ms,aE,ds,ed,rfl,sG,_⟩
  exact SqT.of (sG _ _ ha)
 .rintro i x σ G hx ⟨u3,ms,aE,ds,ed,rfl,sG,Bl,hG,hD,bX,cz,dX⟩
  have hi:i < prog.length:=by have:=(aY.mp hx).1;omega
  obtain⟨x',aZ,dS⟩:=nh.get (show (prog.map Pc.toD)[i]?=some prog[i].toD by rw[bU,aI hi];rfl);rw[hx]at aZ
  cases aZ
  obtain⟨ie,_,hp,hn⟩:=hok _ (gD hi);have gq:prog.take (i+1)=prog.take i++[prog[i]]:=by rw[cE,aI hi];rfl
  have gK:=Zz pr num prog[i] (prog.take i);rw[<- gq,ed]at gK;dsimp only at gK;have ld:=hD.len;have ld2:=Kv (fun p hp=>(hok p (SO hp)).2.2.1) ed;have Av:((prog.take i).map Pc.most).sum+prog[i].most<=(prog.map Pc.most).sum:=by
   have h1:(prog.map Pc.most).sum=((prog.take (i+1)).map Pc.most).sum+((prog.drop (i+1)).map Pc.most).sum:=by rw[<- DS,<- bh,v_]
   rw[h1,gq,bh,DS];simp
  refine y7 ?_;intro _;refine gQ ?_;refine⟨_,rfl,.inl ⟨rfl,_,SqL.of hG⟩,_,rfl,_,rfl,x,d,prog[i],prog.map Pc.f,pr,rfl,ie,dS.mono sG,hp,Bl,fun ml iO g8 ns OZ G2 fB gR s3 n3 e3 Gh gG xl nml=>?_,fun ns G2 fB gR s3=>?_⟩
  .have en:=fB.uniq hn
   subst en;have ld3:=Gh.len;have ld4:=jbf hp gR;have bS:=s3 _ _ hG;refine⟨l,ml,_,_,rfl,rfl,bS,e3,aU (by omega) (jg4 (aB 10000)),?_⟩;have k4:∀b o,b≠l->G2 b=some o->upd G2 l (.lst (ms++iO)) b=some o:=fun b o hb e=>by rw[jp hb];exact e
   have Fy:l ∉ g8:=fun z=>by have:=xl _ z;rw[hG]at this;cases this
   refine⟨_,ms++iO,aE++g8,ds++OZ,by rw[gK,gR],rfl,fun b o e=>k4 b o (jh e gi) (s3 _ _ (sG _ _ e)),(Bl.mono s3).keep k4 bS,jb,?_,?_,?_,?_⟩
   .exact DutsAt.app (DutsAt.keep (G:=G) (fun b o hb e=>k4 b o hb (s3 _ _ e)) hG hD dX) (DutsAt.keep k4 bS Gh Fy)
   .refine g5.mpr ⟨bX,gG,fun x hx y hy=>?_⟩
    rintro rfl;exact qI hD x hx (xl x hy)
   .intro x hx
    rcases bB.mp hx with hx | hx
    .exact cz x hx
    .exact sG.free (xl x hx)
   .intro z
    rcases bB.mp z with z | z
    .exact dX z
    .exact Fy z
  .have en:=fB.uniq hn
   subst en;refine q.2 ?_ G2 (sG.trans s3);rw[show prog=prog.take (i+1)++prog.drop (i+1) from (v_ _ _).symm];exact ZA pr num _ _ (by rw[gK,gR])
 rintro σ G ⟨u3,ms,aE,ds,ed,rfl,sG,Bl,hG,hD,bX,cz,dX⟩;rw[<- cv,cV]at ed;exact⟨_,rfl,q.1 l ms aE ds G ed sG gi hG hD bX cz dX⟩
end
end LW
namespace L2
open PySem
mutual
def Cmp:D->D->Prop
 | .int _,.int _=>True
 | .str _,.str _=>True
 | .tup a,.tup b=>CmpL a b
 | .int _,.str _=>False
 | .int _,.tup _=>False
 | .str _,.int _=>False
 | .str _,.tup _=>False
 | .tup _,.int _=>False
 | .tup _,.str _=>False
def CmpL:List D->List D->Prop
 | [],_=>True
 | _ :: _,[]=>True
 | x :: xs,y :: ys=>(dEq x y=true->CmpL xs ys)/\(dEq x y=false->Cmp x y)
end
open PySem PySem.Spec PyProof.Rows PySem.W
mutual
def TrAt(h:au):D->ad->Prop
 | .int i,v=>∃t,v=.int i t
 | .str x,v=>∃t,v=.str x t
 | .tup ds,v=>∃a its,v=.ref a/\h.IsTuple a its/\TrAtL h ds its.toList
def TrAtL(h:au):List D->List ad->Prop
 | [],vs=>vs=[]
 | d :: ds,vs=>∃v r,vs=v :: r/\TrAt h d v/\TrAtL h ds r
end
theorem TrAtL.length{h:au}:∀{ds:List D} {vs:List ad},TrAtL h ds vs->ds.length=vs.length
 | [],vs,x=>by unfold TrAtL at x;rw[x];rfl
 | d :: ds,vs,x=>by
  unfold TrAtL at x;obtain⟨v,r,rfl,_,h2⟩:=x;rw[bo,bo,TrAtL.length h2]
mutual
theorem TrAt.kept{h h':au}(k:∀a xs,h.IsTuple a xs->h'.IsTuple a xs):∀{d:D} {v:ad},TrAt h d v->TrAt h' d v
 | .int i,v,x=>by unfold TrAt at x |-;exact x
 | .str i,v,x=>by unfold TrAt at x |-;exact x
 | .tup ds,v,x=>by
  unfold TrAt at x |-;obtain⟨a,its,rfl,e,hx⟩:=x;exact⟨a,its,rfl,k a its e,TrAtL.kept k hx⟩
theorem TrAtL.kept{h h':au}(k:∀a xs,h.IsTuple a xs->h'.IsTuple a xs):∀{ds:List D} {vs:List ad},TrAtL h ds vs->TrAtL h' ds vs
 | [],vs,x=>by unfold TrAtL at x |-;exact x
 | d :: ds,vs,x=>by
  unfold TrAtL at x |-;obtain⟨v,r,e,h1,h2⟩:=x;exact⟨v,r,e,TrAt.kept k h1,TrAtL.kept k h2⟩
end
def seq(t:bb)(p:Ia):Nat->Ia
 | 0=>p
 | n+1=>t.advance (seq t p n)
end L2
namespace PySem
end PySem
namespace L2
open PySem PySem.Spec PyProof.Rows PySem.W
end L2
namespace PySem
end PySem
namespace L2
open PySem PySem.Spec PyProof.Rows PySem.W
section
variable {X:Cx}{ac:List (aa×Obj)}{σ:St}{H:Hp}{s:af}
mutual
theorem jaf(I:Inv X ac σ H s):∀{d:D} {x:V} {u:ad},Held H d x->RelV x u->TrAt s.heap d u
 | .int i,x,u,h,r=>by unfold Held at h;subst h;obtain⟨t,rfl⟩:=r;unfold TrAt;exact⟨t,rfl⟩
 | .str i,x,u,h,r=>by unfold Held at h;subst h;obtain⟨t,rfl⟩:=r;unfold TrAt;exact⟨t,rfl⟩
 | .tup ds,x,u,h,r=>by
  unfold Held at h;obtain⟨a,xs,rfl,ha,dR⟩:=h
  cases r
  obtain⟨its,ce,ta,_⟩:=I.tuple (SqT.of ha);unfold TrAt;exact⟨a,its.toArray,rfl,ta,by simpa using heldL_tr I dR ce⟩
theorem heldL_tr(I:Inv X ac σ H s):∀{ds:List D} {xs:List V} {us:List ad},HeldL H ds xs->Vals xs us->TrAtL s.heap ds us
 | [],xs,us,h,r=>by unfold HeldL at h;subst h;cases r;unfold TrAtL;rfl
 | d :: ds,xs,us,h,r=>by
  unfold HeldL at h;obtain⟨v,q,rfl,h1,h2⟩:=h
  cases r with
  | cons h r=>unfold TrAtL;exact⟨_,_,rfl,jaf I h1 h,heldL_tr I h2 r⟩
end
end
mutual
def D.py:D->PyData
 | .int i=>.int i
 | .str x=>.str x
 | .tup ds=>.tuple (D.pyL ds)
def D.pyL:List D->List PyData
 | []=>[]
 | d :: ds=>D.py d :: D.pyL ds
end
mutual
def OkD:D->Prop
 | .int i=>i.natAbs < 10 ^ 39
 | .str x=>∀c∈x.cps.toList,(97<=c/\c<=122)\/c=46
 | .tup ds=>OkDL ds
def OkDL:List D->Prop
 | []=>True
 | d :: ds=>OkD d/\OkDL ds
end
def sgn(d:D):List Nat:=d.py.shown.cps.toList
def jn:List (List Nat)->List Nat
 | []=>[]
 | [t]=>t
 | t :: u :: r=>t++44 :: 32 :: jn (u :: r)
theorem yq(x y:Str):(x++y).cps.toList=x.cps.toList++y.cps.toList:=by
 show (x.cps++y.cps).toList=_;simp
theorem jcw:∀ts:List Str,(HX ", " ts).cps.toList=jn (ts.map fun t=>t.cps.toList)
 | []=>rfl
 | [t]=>by
  show (HX ", " [t]).cps.toList=t.cps.toList
  first | rfl | simp[HX]
 | t :: u :: r=>by
  rw[join_cons_cons,yq,yq,signs_sep,jcw (u :: r)];simp only[bE,jn,em,bW,lB]
theorem JG(i:Int):sgn (.int i)=(nS i).toList.map Ln:=by
 show ((nS i:String):Str).cps.toList=_;rw[signs_ofString]
theorem jcm:∀ds:List D,(vS (D.pyL ds)).length=ds.length
 | []=>rfl
 | d :: ds=>by
  show (_ :: vS (D.pyL ds)).length=_;rw[bo,jcm ds];rfl
theorem jcl:∀ds:List D,(vS (D.pyL ds)).map (fun t=>t.cps.toList)=ds.map sgn
 | []=>rfl
 | d :: ds=>by
  show (_ :: vS (D.pyL ds)).map _=_;rw[bE,jcl ds];rfl
def jfj(n:Nat):List Nat:=if n=1 then [44,41] else [41]
theorem zN(ds:List D):sgn (.tup ds)=40 :: (jn (ds.map sgn)++jfj ds.length):=by
 show (tupleText (vS (D.pyL ds))).cps.toList=_;unfold tupleText;rw[yq,yq,signs_lparen,jcw,jcl,jcm];unfold jfj;by_cases h:ds.length=1
 .rw[Tu h,Tu (by rw[h];rfl)]
  rfl
 .rw[Tt h,Tt (by simpa using h)]
  rfl
theorem KQ{c:Nat}(h1:(97<=c/\c<=122)\/c=46):DD 39 c=[c]:=by
 unfold DD;have hp:Rl c=true:=by
  have:∀c,c < 128->(97<=c/\c<=122)\/c=46->Rl c=true:=by decide +kernel
  exact this c (by omega) h1
 simp only[beq_iff_eq,mR];rw[Tt (by omega),Tt (by omega),Tt (by omega),Tt (by omega),Tu hp]
theorem Jr:∀(l:List Nat) (aP:Array Nat),(∀c∈l,(97<=c/\c<=122)\/c=46)->(l.foldl (fun out c=>out++(DD 39 c).toArray) aP).toList=aP.toList++l
 | [],aP,_=>by simp
 | c :: l,aP,h=>by
  rw[S5,KQ (h c bt),Jr l _ fun d hd=>h d (bu _ hd)];simp
theorem zO{x:Str}(h:∀c∈x.cps.toList,(97<=c/\c<=122)\/c=46):sgn (.str x)=39 :: (x.cps.toList++[39]):=by
 show (reprText x).cps.toList=_;have hq:reprQuote x=39:=by
  unfold reprQuote;have:x.cps.contains 39=false:=by
   rw[Array.contains_eq_mem,decide_eq_false_iff_not];intro hm;have:=h 39 (Tk.mpr hm);omega
  rw[this];rfl
 unfold reprText;rw[hq];show ((x.cps.foldl (fun out c=>out++(DD 39 c).toArray) #[39]).push 39).toList=_;rw[Lq,<- Tn,Jr _ _ h];rfl
theorem Yf{P:Nat->Prop}:∀{a b p q:List Nat},(∀c∈a,P c)->(∀c∈b,P c)->(∀c r,p=c :: r->¬P c)->(∀c r,q=c :: r->¬P c)->a++p=b++q->a=b/\p=q
 | [],[],p,q,_,_,_,_,e=>⟨rfl,e⟩
 | [],c :: b,p,q,_,hb,hp,_,e=>absurd (hb c bt) (hp c (b++q) e)
 | c :: a,[],p,q,ha,_,_,hq,e=>absurd (ha c bt) (hq c (a++p) e.symm)
 | c :: a,d :: b,p,q,ha,hb,hp,hq,e=>by
  rw[bW,bW]at e;injection e with e1 e2;obtain⟨h1,h2⟩:=Yf (fun x hx=>ha x (bu _ hx)) (fun x hx=>hb x (bu _ hx)) hp hq e2;exact⟨by rw[e1,h1],h2⟩
def jgH(p:List Nat):Prop:=∀c r,p=c :: r->c=41\/c=44
def jap(c:Nat):Prop:=c=45\/(48<=c/\c<=57)
theorem za(i:Int):∀c∈sgn (.int i),jap c:=by
 intro c hc;have:=fun h=>int_text_free' c h i (by rw[signs_ofString,<- JG];exact hc)
 unfold jap;by_cases h1:c=45
 .exact .inl h1
 .by_cases h2:48<=c/\c<=57
  .exact .inr h2
  .exact absurd ⟨h1,by omega⟩ this
theorem JN{m n:Nat}(h:(mJ m).toList=(mJ n).toList):m=n:=by
 rw[DN,DN]at h;rw[<- IV (n:=m),h,IV]
theorem YC(i:Int):∃c r,sgn (.int i)=c :: r:=by
 rw[JG]
 cases i with
 | ofNat m=>
  show ∃c r,(mJ m).toList.map Ln=c :: r;rw[DN]
  cases h:SC 10 m with
  | nil=>have:=IV (n:=m);exact absurd h (by simp)
  | cons c r=>exact⟨_,_,rfl⟩
 | negSucc m=>
  show ∃c r,("-"++mJ (m+1):String).toList.map Ln=c :: r;rw[C5];exact⟨_,_,rfl⟩
theorem Kg{i j:Int}(h:sgn (.int i)=sgn (.int j)):i=j:=by
 rw[JG,JG]at h;have h:(nS i).toList=(nS j).toList:=by
  have:=Tw (g6 Char.ofNat) h;simpa[sH,Function.comp_def]using this
 have neg:∀m n:Nat,(mJ m).toList≠("-"++mJ (n+1):String).toList:=by
  intro m n e;rw[C5,DN]at e;have hm:'-'∈SC 10 m:=by rw[e];exact wc _ (by decide)
  exact absurd (Nat.isDigit_of_mem_toDigits (by decide) (by decide) hm) (by decide)
 cases i with
 | ofNat m=>
  cases j with
  | ofNat n=>exact Tw _ (JN h)
  | negSucc n=>exact absurd h (neg m n)
 | negSucc m=>
  cases j with
  | ofNat n=>exact absurd h.symm (neg n m)
  | negSucc n=>
   have h:("-"++mJ (m+1):String).toList=("-"++mJ (n+1):String).toList:=h;rw[C5,C5]at h;have:=JN (Lm h);have:m=n:=by omega
   rw[this]
theorem jaE(d:D)(h:OkD d):∃c r,sgn d=c :: r/\c≠41:=by
 cases d with
 | int i=>
  obtain⟨c,r,e⟩:=YC i;refine⟨c,r,e,?_⟩;have:=za i c (by rw[e];exact bt);unfold jap at this;omega
 | str x=>unfold OkD at h;exact⟨39,_,zO h,by decide⟩
 | tup ds=>exact⟨40,_,zN ds,by decide⟩
theorem JR(t:List Nat)(r:List (List Nat)):jn (t :: r)=t++(if r=[] then [] else 44 :: 32 :: jn r):=by
 cases r with
 | nil=>simp[jn]
 | cons u r=>simp[jn]
def jfC(t:List Nat):Prop:=∃r,t=41 :: r\/t=44 :: 41 :: r
theorem Zt{p:List Nat}(h:jgH p):∀c r,p=c :: r->¬jap c:=fun c r e z=>by
 have:=h c r e;unfold jap at z;omega
theorem Zh{t:List Nat}{r:List (List Nat)}(h:jfC t):jgH ((if r=[] then [] else 44 :: 32 :: jn r)++t):=by
 intro c q e;split at e
 .obtain⟨z,h | h⟩:=h
  .rw[h]at e;injection e with e;exact .inl e.symm
  .rw[h]at e;injection e with e;exact .inr e.symm
 .injection e with e;exact .inr e.symm
mutual
theorem jei:∀(d e:D) (p q:List Nat),OkD d->OkD e->jgH p->jgH q->sgn d++p=sgn e++q->d=e/\p=q
 | .int i,.int j,p,q,_,_,hp,hq,h=>by
  obtain⟨h1,h2⟩:=Yf (za i) (za j) (Zt hp) (Zt hq) h;exact⟨by rw[Kg h1],h2⟩
 | .int i,.str y,p,q,_,hy,hp,hq,h=>by
  unfold OkD at hy;obtain⟨c,r,e⟩:=YC i;have hc:=za i c (by rw[e];exact bt);rw[e,zO hy,bW,bW]at h;injection h with h;unfold jap at hc;omega
 | .int i,.tup es,p,q,_,hy,hp,hq,h=>by
  obtain⟨c,r,e⟩:=YC i;have hc:=za i c (by rw[e];exact bt);rw[e,zN,bW,bW]at h;injection h with h;unfold jap at hc;omega
 | .str x,.int j,p,q,hx,_,hp,hq,h=>by
  unfold OkD at hx;obtain⟨c,r,e⟩:=YC j;have hc:=za j c (by rw[e];exact bt);rw[e,zO hx,bW,bW]at h;injection h with h;unfold jap at hc;omega
 | .str x,.str y,p,q,hx,hy,hp,hq,h=>by
  unfold OkD at hx hy;rw[zO hx,zO hy,bW,bW]at h;injection h with _ h;rw[em,em]at h;obtain⟨h1,h2⟩:=Yf (P:=fun c=>(97<=c/\c<=122)\/c=46) hx hy (fun c r e=>by injection e with e;omega) (fun c r e=>by injection e with e;omega) h;injection h2 with _ h2;exact⟨by rw[Str.ext' (Lr.mp h1)],h2⟩
 | .str x,.tup es,p,q,hx,_,hp,hq,h=>by
  unfold OkD at hx;rw[zO hx,zN,bW,bW]at h;injection h with h;omega
 | .tup ds,.int j,p,q,_,_,hp,hq,h=>by
  obtain⟨c,r,e⟩:=YC j;have hc:=za j c (by rw[e];exact bt);rw[e,zN,bW,bW]at h;injection h with h;unfold jap at hc;omega
 | .tup ds,.str y,p,q,_,hy,hp,hq,h=>by
  unfold OkD at hy;rw[zO hy,zN,bW,bW]at h;injection h with h;omega
 | .tup ds,.tup es,p,q,hx,hy,hp,hq,h=>by
  unfold OkD at hx hy;rw[zN,zN,bW,bW]at h;injection h with _ h;rw[em,em]at h;have et:∀n p,jfC (jfj n++p):=fun n p=>by
   unfold jfj jfC;split
   .exact⟨p,.inr rfl⟩
   .exact⟨p,.inl rfl⟩
  cases ds with
  | nil=>
   cases es with
   | nil=>exact⟨rfl,Lm h⟩
   | cons e es=>
    unfold OkDL at hy;obtain⟨c,r,e1,e2⟩:=jaE e hy.1;rw[bE,JR,e1]at h;injection h with h;exact absurd h.symm e2
  | cons d ds=>
   cases es with
   | nil=>
    unfold OkDL at hx;obtain⟨c,r,e1,e2⟩:=jaE d hx.1;rw[bE,JR,e1]at h;injection h with h;exact absurd h e2
   | cons e es=>
    obtain⟨h1,h2⟩:=shL_inj (d :: ds) (e :: es) _ _ hx hy (by simp) (by simp) (et _ _) (et _ _) h;rw[h1]at h2;exact⟨by rw[h1],Lm h2⟩
theorem shL_inj:∀(ds es:List D) (t u:List Nat),OkDL ds->OkDL es->ds≠[]->es≠[]->jfC t->jfC u->jn (ds.map sgn)++t=jn (es.map sgn)++u->ds=es/\t=u
 | [],_,_,_,_,_,h,_,_,_,_=>absurd rfl h
 | _ :: _,[],_,_,_,_,_,h,_,_,_=>absurd rfl h
 | d :: ds,e :: es,t,u,hx,hy,_,_,ht,hu,h=>by
  unfold OkDL at hx hy;rw[bE,bE,JR,JR,em,em]at h;obtain⟨h1,h2⟩:=jei d e _ _ hx.1 hy.1 (Zh ht) (Zh hu) h
  cases ds with
  | nil=>
   cases es with
   | nil=>exact⟨by rw[h1],h2⟩
   | cons e2 es=>
    simp only[oy,bE,if_true,lB,reduceCtorEq,if_false]at h2;obtain⟨r,z | z⟩:=ht
    .rw[z]at h2;simp at h2
    .rw[z]at h2;simp at h2
  | cons d2 ds=>
   cases es with
   | nil=>
    simp only[oy,bE,if_true,lB,reduceCtorEq,if_false]at h2;obtain⟨r,z | z⟩:=hu
    .rw[z]at h2;simp at h2
    .rw[z]at h2;simp at h2
   | cons e2 es=>
    have fq:44 :: 32 :: (jn ((d2 :: ds).map sgn)++t)=44 :: 32 :: (jn ((e2 :: es).map sgn)++u):=by
     simpa only[bE,reduceCtorEq,if_false,bW]using h2
    injection fq with _ h3;injection h3 with _ h3;obtain⟨h4,h5⟩:=shL_inj (d2 :: ds) (e2 :: es) t u hx.2 hy.2 (by simp) (by simp) ht hu h3;exact⟨by rw[h1,h4],h5⟩
end
theorem jc2{d e:D}(hd:OkD d)(he:OkD e)(h:d.py.shown=e.py.shown):d=e:=
 (jei d e [] [] hd he (fun c r z=>by cases z) (fun c r z=>by cases z) (by unfold sgn;rw[h])).1
mutual
theorem jaz{h:au}:∀{d:D} {v:ad},TrAt h d v->∃as,Reads h v d.py as
 | .int i,v,x=>by unfold TrAt at x;obtain⟨t,rfl⟩:=x;exact⟨_,.int i t⟩
 | .str i,v,x=>by unfold TrAt at x;obtain⟨t,rfl⟩:=x;exact⟨_,.str i t⟩
 | .tup ds,v,x=>by
  unfold TrAt at x;obtain⟨a,its,rfl,⟨o,h1,h2,n,h3⟩,hL⟩:=x;obtain⟨as,r⟩:=trL_reads hL;exact⟨as,.tuple h1 h2 h3 r⟩
theorem trL_reads{h:au}:∀{ds:List D} {vs:List ad},TrAtL h ds vs->∃as,ReadsAll h vs (D.pyL ds) as
 | [],vs,x=>by unfold TrAtL at x;subst x;exact⟨_,.nil⟩
 | d :: ds,vs,x=>by
  unfold TrAtL at x;obtain⟨v,r,rfl,h1,h2⟩:=x;obtain⟨as,a1⟩:=jaz h1;obtain⟨bs,a2⟩:=trL_reads h2;exact⟨_,.cons a1 a2⟩
end
mutual
theorem KG:∀(d:D),OkD d->d.py.showable=true
 | .int i,h=>by
  unfold OkD at h;show decide (i.natAbs.log2 < 1920)=true;refine Tr ?_;rcases DQ i.natAbs with z | z
  .rw[z];decide
  .exact (IZ (by omega)).mpr (iL h (by decide))
 | .str x,h=>rfl
 | .tup ds,h=>by unfold OkD at h;exact pyL_showable ds h
theorem pyL_showable:∀(ds:List D),OkDL ds->Rp (D.pyL ds)=true
 | [],_=>rfl
 | d :: ds,h=>by
  unfold OkDL at h;show (d.py.showable && Rp (D.pyL ds))=true;rw[KG d h.1,pyL_showable ds h.2];rfl
end
mutual
theorem Zl:∀(d:D),d.py.hasDict=false
 | .int i=>rfl
 | .str x=>rfl
 | .tup ds=>pyL_noDict ds
theorem pyL_noDict:∀(ds:List D),Rq (D.pyL ds)=false
 | []=>rfl
 | d :: ds=>by
  show (d.py.hasDict || Rq (D.pyL ds))=false;rw[Zl d,pyL_noDict ds];rfl
end
mutual
theorem jaL:∀(d:D),d.py.depth=d.depth
 | .int i=>rfl
 | .str x=>rfl
 | .tup ds=>by
  show Ie (D.pyL ds)+1=_;rw[pyL_depth ds];exact (D.depth.eq_3 ds).symm
theorem pyL_depth:∀(ds:List D),Ie (D.pyL ds)=D.depthL ds
 | []=>rfl
 | d :: ds=>by
  show max d.py.depth (Ie (D.pyL ds))=_;rw[jaL d,pyL_depth ds];exact (D.depthL.eq_2 d ds).symm
end
mutual
def D.big:D->Nat
 | .int _=>40
 | .str x=>x.length+2
 | .tup ds=>D.bigL ds+3
def D.bigL:List D->Nat
 | []=>0
 | d :: ds=>D.big d+2+D.bigL ds
end
mutual
theorem jce:∀(d:D),OkD d->(sgn d).length<=d.big
 | .int i,h=>by
  unfold OkD at h;have:=int_text_length_le10 (k:=39) (by decide) h;rw[JG,aC,String.length_toList];unfold D.big;omega
 | .str x,h=>by
  unfold OkD at h;rw[zO h];unfold D.big;rw[bo,aO,cF];show x.cps.size+1+1<=x.cps.size+2;omega
 | .tup ds,h=>by
  unfold OkD at h;rw[zN];unfold D.big jfj;have:=sgnL_big ds h;rw[bo,aO];split <;> simp only[bo,mM] <;> omega
theorem sgnL_big:∀(ds:List D),OkDL ds->(jn (ds.map sgn)).length<=D.bigL ds
 | [],_=>bA _
 | d :: ds,h=>by
  unfold OkDL at h;have h1:=jce d h.1;have h2:=sgnL_big ds h.2;rw[bE,JR];unfold D.bigL;rw[aO];split
  .rw[mM];omega
  .rw[bo,bo];omega
end
theorem jbA{d:D}(h:OkD d)(hb:d.big<=100000):d.py.shown.length<=aF:=by
 have:=jce d h;unfold sgn at this;rw[cF]at this;rw[eJ];show d.py.shown.cps.size<=_;omega
theorem ZE{X:Cx}(hg:X.A.guards=some []){n:Nat}(hu:X.A.units+2+n < cLine):qX X (.builtin "repr") (fun xs H Q=>∃(a:aa) (d:D),xs=[.ref a]/\Held H d (.ref a)/\d.depth<=n/\OkD d/\d.big<=100000/\Q (.str d.py.shown) H):=by
 intro ac s σ H xs us Q I r h;obtain⟨a,d,rfl,hh,hd,hok,hb,q⟩:=h;obtain⟨u,rfl,rx⟩:=yP r
 cases rx
 obtain⟨as,rd⟩:=jaz (jaf I hh rfl);refine repr_of_reads' rd (KG d hok) (PyData.noDict_hsm (Zl d)) hg (by rw[jaL];omega) (fun _ _ e=>e) (fun h' u tk hk=>?_) (jbA hok hb);exact⟨.str d.py.shown,H,I.kept hk,⟨u,rfl⟩,q⟩
end L2
namespace LW
open PySem L2
theorem jdS{X:Cx}{pos:Pos}:QS X (.Return none pos) jhP:=⟨fun _ _ σ H _ I h=>wpAny_Return_none ⟨.non,σ,H,I,rfl,h⟩⟩
abbrev P2:Type:=Prod D Int
def p2(p:P2):D:=.tup [p.1,.int p.2]
def mor(p:P2)(d:Int):P2:=(p.1,p.2+d)
def Kh(a b:P2):D:=.tup [a.1,b.1,.int (b.2 - a.2)]
def YZ(v:D)(s:P2):P2:=(.tup [.str "entry",v,p2 s],0)
def jcr:P2:=(.tup [.str "nought"],0)
def jef(x:Str):P2:=(.tup [.str "start",.str x],0)
def jia(n:Nat):P2:=(.tup [.str "pick",.int n],0)
def Ko(i:Int):P2:=(.tup [.str "own",.int i],0)
def YX(r:Str):D:=.tup [.str "row",.str r]
def jgP(n:Nat):D:=.tup [.str "lost",.int n]
def jfY(n:Nat):D:=.tup [.str "put",.int n]
structure Cs where
 nu:Str->Option P2
 ve:Str->Option D
 na:List Str
 l:Nat->List D
def jaG{α:Type}(f:Str->Option α)(x:Str)(d:α):Str->Option α:=fun y=>if y=x then some d else f y
def jhE(l:Nat->List D)(i:Nat)(ds:List D):Nat->List D:=fun j=>if j=i then l j++ds else l j
def jhD(xs:List Str)(r:Str):List Str:=if r∈xs then xs else xs++[r]
def Cs.add(c:Cs)(i:Nat)(ds:List D):Cs:={ c with l:=jhE c.l i ds }
def Cs.num(c:Cs)(x:Str):P2:=if x = "" then jcr else (c.nu x).getD (jef x)
def Cs.spot(c:Cs)(x:Str)(d:Int):P2:=mor (c.num x) d
def Cs.ver(c:Cs)(r:Str):D:=(c.ve r).getD (YX r)
def Cs.name(c:Cs)(r:Str):Cs:={ c with na:=jhD c.na r }
def Cs.stand(c:Cs):Tm->P2×Cs
 | .is x=>(c.num x,c)
 | .at_ r x d=>(YZ (c.ver r) (c.spot x d),(c.add 2 [p2 (c.spot x d)]).name r)
def Cs.least(c:Cs)(a b:Tm)(k:Int):D×Cs:=
 let s:=c.stand b
 let t:=s.2.stand a
 (Kh (mor s.1 k) t.1,t.2)
def jiv(v:D)(way:Str)(b:D)(k:Int):D:=.tup [v,.str way,b,.int k]
def Cs.body(c:Cs)(r way:Str)(b:Bd)(k:Int):D×Cs:=match b with
 | .row q=>(jiv (c.ver r) way (.tup [.str "row",c.ver q]) k,(c.name r).name q)
 | .is x=>(jiv (c.ver r) way (.tup [.str "is",p2 (c.num x)]) k,c.name r)
def Cs.know(c:Cs):Cl->Cs
 | .least a b k=>(c.least a b k).2.add 1 [(c.least a b k).1]
 | .each t td u ud r way b k=>
  let e:=(c.add 2 [p2 (c.spot t td)]).body r way b k
  e.2.add 4 [.tup [p2 (c.spot t td),p2 (c.spot u ud),e.1]]
 | .rise t td u ud r=>((c.add 2 [p2 (c.spot t td)]).name r).add 5 [.tup [p2 (c.spot t td),p2 (c.spot u ud),c.ver r]]
def jiw(v:D)(way:Str)(b:P2)(k:Int)(s:P2):D:=if way = ">=" then Kh (mor b k) (YZ v s) else Kh (YZ v s) (mor b k)
def Cs.bnd(c:Cs)(b:Bd)(s:P2):P2:=match b with
 | .row q=>YZ (c.ver q) s
 | .is x=>c.num x
def jhJ:D->D
 | .tup [x,y,.int c]=>.tup [y,x,.int (-1 - c)]
 | d=>d
def Cs.deny(c:Cs):Cl->Cs
 | .least a b k=>(c.least b a (1 - k)).2.add 1 [(c.least b a (1 - k)).1]
 | .each t td u ud r way b k=>
  let e:=c.body r way b k
  (e.2.add 2 [p2 (Ko 0)]).add 1 [Kh (c.spot t td) (Ko 0),Kh (Ko 0) (c.spot u ud),jhJ (jiw (c.ver r) way (c.bnd b (Ko 0)) k (Ko 0))]
 | .rise t td u ud r=>((c.name r).add 2 [p2 (Ko 0),p2 (Ko 1)]).add 1 [Kh (c.spot t td) (Ko 0),Kh (Ko 0) (Ko 1),Kh (Ko 1) (c.spot u ud),Kh (mor (YZ (c.ver r) (Ko 1)) 1) (YZ (c.ver r) (Ko 0))]
inductive Rw where
 | set (x:Str) (t:Tm) (c:Int) | put (r x:Str) (d:Int) (t:Tm) (c:Int) | any (x:Str) | lose (r:Str) | know (C:Cl)
def Rw.toD:Rw->D
 | .set x t c=>.tup [.str "set",.str x,t.toD,.int c]
 | .put r x d t c=>.tup [.str "put",.str r,plD x d,t.toD,.int c]
 | .any x=>.tup [.str "any",.str x]
 | .lose r=>.tup [.str "lose",.str r]
 | .know C=>.tup [.str "know",C.toD]
def Cs.setn(c:Cs)(x:Str)(p:P2):Cs:={ c with nu:=jaG c.nu x p }
def Cs.setv(c:Cs)(r:Str)(d:D):Cs:={ c with ve:=jaG c.ve r d }
def Cs.take(c:Cs)(n:Nat):Rw->Cs
 | .set x t k=>(c.stand t).2.setn x (mor (c.stand t).1 k)
 | .put r x d t k=>
  let s:=c.spot x d
  let v:=mor (c.stand t).1 k
  (((((c.stand t).2.name r).add 2 [p2 s]).add 3 [.tup [p2 s,(c.stand t).2.ver r,p2 v,jfY n]]).add 1 [Kh (YZ (jfY n) s) v,Kh v (YZ (jfY n) s)]).setv r (jfY n)
 | .any x=>c.setn x (jia n)
 | .lose r=>((c.name r).setv r (jgP n)).add 0 [jgP n]
 | .know C=>c.know C
def Cs.none:Cs:=⟨fun _=>Option.none,fun _=>Option.none,[],fun _=>[]⟩
def Cs.rows(c:Cs):List Rw->Nat->Cs
 | [],_=>c
 | r :: R,n=>(c.take n r).rows R (n+1)
structure CA where
 o:aa
 dx:aa
 nu:aa
 ve:aa
 na:aa
 l:Nat->aa
def jiu(A:CA):List (Str×V):=[("numbers",.ref A.nu),("versions",.ref A.ve),("named",.ref A.na),("lost",.ref (A.l 0)),("ties",.ref (A.l 1)),("spots",.ref (A.l 2)),("puts",.ref (A.l 3)),("eaches",.ref (A.l 4)),("rises",.ref (A.l 5))]
def DAt(n:Nat)(f:Str->Option D)(H:Hp)(a:aa):Prop:=∃kvs:List (Key×V),H a=some (.dK kvs)/\kvs.length<=n/\∀x,(f x=none->qm kvs (.inr x)=none)/\∀d,f x=some d->∃v,qm kvs (.inr x)=some v/\Held H d v
def NAt(n:Nat)(xs:List Str)(H:Hp)(a:aa):Prop:=∃kvs:List (Key×V),H a=some (.dK kvs)/\kvs.length<=n/\kvs.map (·.1)=xs.map Sum.inr
def LAt(n:Nat)(ds:List D)(H:Hp)(a:aa):Prop:=∃xs,H a=some (.lst xs)/\HeldL H ds xs/\xs.length<=n
structure CsAt(C:aa)(n:Nat)(A:CA)(c:Cs)(H:Hp):Prop where
 o:H A.o=some (.ins C A.dx (jiu A))
 n1:A.nu≠A.ve
 n2:A.nu≠A.na
 n3:A.ve≠A.na
 inj:∀i j,i < 6->j < 6->A.l i=A.l j->i=j
 nu:DAt n (fun x=>(c.nu x).map p2) H A.nu
 ve:DAt n c.ve H A.ve
 na:NAt n c.na H A.na
 l:∀i,i < 6->LAt n (c.l i) H (A.l i)
def Mv(A:CA)(H H':Hp):Prop:=∀b o,b≠A.nu->b≠A.ve->b≠A.na->(∀i,i < 6->b≠A.l i)->H b=some o->H' b=some o
variable {P:az}{w:ax}{K:av}{mg:Str->Option ad}{base:au}{A:CA}{H H':Hp}
theorem Mv.same(s:Same H H'):Mv A H H':=fun b o _ _ _ _ e=>s b o e
theorem Mv.trans{H1 H2:Hp}(h:Mv A H H1)(k:Mv A H1 H2):Mv A H H2:=fun b o a1 a2 a3 a4 e=>k b o a1 a2 a3 a4 (h b o a1 a2 a3 a4 e)
variable {n:Nat}{a:aa}
theorem DAt.tk{f:Str->Option D}(h:DAt n f H a)(t:TK H H')(e:∀o,H a=some o->H' a=some o):DAt n f H' a:=by
 obtain⟨kvs,h1,h2,h3⟩:=h;refine⟨kvs,e _ h1,h2,fun x=>⟨(h3 x).1,fun d hd=>?_⟩⟩;obtain⟨v,k1,k2⟩:=(h3 x).2 d hd;exact⟨v,k1,t.held k2⟩
theorem LAt.tk{ds:List D}(h:LAt n ds H a)(t:TK H H')(e:∀o,H a=some o->H' a=some o):LAt n ds H' a:=by
 obtain⟨xs,h1,h2,h3⟩:=h;exact⟨xs,e _ h1,t.heldL h2,h3⟩
theorem NAt.tk{xs:List Str}(h:NAt n xs H a)(e:∀o,H a=some o->H' a=some o):NAt n xs H' a:=by
 obtain⟨kvs,h1,h2,h3⟩:=h;exact⟨kvs,e _ h1,h2,h3⟩
variable {C:aa}
theorem CsAt.same{c:Cs}(I:CsAt C n A c H)(s:Same H H'):CsAt C n A c H':=
 ⟨s _ _ I.o,I.n1,I.n2,I.n3,I.inj,I.nu.tk (.same s) fun o=>s _ o,I.ve.tk (.same s) fun o=>s _ o,I.na.tk fun o=>s _ o,fun i hi=>(I.l i hi).tk (.same s) fun o=>s _ o⟩
theorem CsAt.mono{m:Nat}{c:Cs}(I:CsAt C n A c H)(h:n<=m):CsAt C m A c H:=by
 obtain⟨a1,a2,a3,a4,a5,⟨k1,h1,l1,m1⟩,⟨k2,h2,l2,m2⟩,⟨k3,h3,l3,m3⟩,a9⟩:=I;refine⟨a1,a2,a3,a4,a5,⟨k1,h1,aU l1 h,m1⟩,⟨k2,h2,aU l2 h,m2⟩,⟨k3,h3,aU l3 h,m3⟩,fun i hi=>?_⟩;obtain⟨xs,e1,e2,e3⟩:=a9 i hi;exact⟨xs,e1,e2,aU e3 h⟩
theorem CsAt.tk{c:Cs}(I:CsAt C n A c H)(m:Mv A H H'):TK H H':=fun b xs e=>by
 obtain⟨k1,h1,_⟩:=I.nu;obtain⟨k2,h2,_⟩:=I.ve;obtain⟨k3,h3,_⟩:=I.na;refine m b _ (fun z=>?_) (fun z=>?_) (fun z=>?_) (fun i hi z=>?_) e
 .rw[z,h1]at e;cases e
 .rw[z,h2]at e;cases e
 .rw[z,h3]at e;cases e
 .obtain⟨ys,h4,_⟩:=I.l i hi
  rw[z,h4]at e;cases e
theorem jN{b:aa}{x y:HO}(h:H a=some x)(k:H b=some y)(n:x≠y):a≠b:=fun e=>by
 rw[e,k]at h;exact n (bZ h).symm
theorem jk{b:aa}{o u:HO}(h:b≠a)(e:H b=some u):upd H a o b=some u:=by rw[jp h];exact e
theorem CsAt.app{c:Cs}(I:CsAt C n A c H){i:Nat}(hi:i < 6){ds:List D}{vs xs:List V}(hd:HeldL H ds vs)(e:H (A.l i)=some (.lst xs)):
  Mv A H (upd H (A.l i) (.lst (xs++vs)))/\CsAt C (n+vs.length) A (c.add i ds) (upd H (A.l i) (.lst (xs++vs))):=by
 have mv:Mv A H (upd H (A.l i) (.lst (xs++vs))):=fun b o _ _ _ h4 eb=>jk (h4 i hi) eb
 have t:=I.tk mv
 obtain⟨k1,h1,_⟩:=I.nu
 obtain⟨k2,h2,_⟩:=I.ve
 obtain⟨k3,h3,_⟩:=I.na
 obtain⟨ys,h4,h5,h6⟩:=I.l i hi
 obtain rfl:xs=ys:=by rw[h4]at e;cases e;rfl
 have J:=I.mono (Nat.le_add_right n vs.length)
 refine⟨mv,jk (jN I.o e (by intro z;cases z)) I.o,I.n1,I.n2,I.n3,I.inj,J.nu.tk t fun o=>jk (jN h1 e (by intro z;cases z)),J.ve.tk t fun o=>jk (jN h2 e (by intro z;cases z)),J.na.tk fun o=>jk (jN h3 e (by intro z;cases z)),fun j hj=>?_⟩
 show LAt _ (jhE c.l i ds j) _ _
 unfold jhE
 by_cases z:j=i
 .rw[Tu z,z]
  exact⟨_,jb,j0 (t.heldL h5) (t.heldL hd),by rw[aO];omega⟩
 .rw[Tt z]
  exact (J.l j hj).tk t fun o=>jk fun q=>z (I.inj j i hj hi q)
variable {v:V}
theorem CsAt.app1{c:Cs}(I:CsAt C n A c H){i:Nat}(hi:i < 6){d:D}{xs:List V}(hd:Held H d v)(e:H (A.l i)=some (.lst xs)):
  Mv A H (upd H (A.l i) (.lst (xs++[v])))/\CsAt C (n+1) A (c.add i [d]) (upd H (A.l i) (.lst (xs++[v]))):=I.app hi (jo hd jx) e
variable {kvs:List (Key×V)}
theorem jgC{f:Str->Option D}{x:Str}{d:D}(h:DAt n f H a)(e:H a=some (.dK kvs))(hv:Held H d v):TK H (upd H a (.dK (kB kvs (.inr x) v)))/\DAt (n+1) (jaG f x d) (upd H a (.dK (kB kvs (.inr x) v))) a:=by
 have t:TK H (upd H a (.dK (kB kvs (.inr x) v))):=fun b xs eb=>jk (jN eb e (by intro z;cases z)) eb
 obtain⟨k1,h1,h2,h3⟩:=h;obtain rfl:k1=kvs:=by rw[h1]at e;cases e;rfl
 refine⟨t,_,jb,aU (kH _ _ _) (DO h2),fun y=>?_⟩;unfold jaG;rw[JD];by_cases z:y=x
 .rw[Tu z,Tu (by rw[z])]
  exact⟨(by intro q;cases q),fun d' hd=>by cases hd;exact⟨v,rfl,t.held hv⟩⟩
 .rw[Tt z,Tt (fun q=>z (CZ q))]
  refine⟨(h3 y).1,fun d' hd=>?_⟩;obtain⟨u,q1,q2⟩:=(h3 y).2 d' hd;exact⟨u,q1,t.held q2⟩
theorem jgt{k:Key}(v:V)(h:k∈kvs.map (·.1)):(kB kvs k v).map (·.1)=kvs.map (·.1):=by
 unfold kB;rw[Tu ?_,sH]
 .refine List.map_congr_left fun p _=>?_
  show (if p.1=k then (p.1,v) else p).1=p.1;split <;> rfl
 .obtain⟨p,h1,h2⟩:=ck.mp h
  exact Tc.mpr ⟨p,h1,Tr h2⟩
theorem je9{k:Key}(v:V)(h:k ∉ kvs.map (·.1)):(kB kvs k v).map (·.1)=kvs.map (·.1)++[k]:=by
 unfold kB;rw[Tt ?_,bh]
 .rfl
 .intro z
  obtain⟨p,h1,h2⟩:=Tc.mp z;exact h (ck.mpr ⟨p,h1,Tq h2⟩)
theorem CsAt.setn{c:Cs}(I:CsAt C n A c H){x:Str}{p:P2}(hv:Held H (p2 p) v)(e:H A.nu=some (.dK kvs)):
  Mv A H (upd H A.nu (.dK (kB kvs (.inr x) v)))/\CsAt C (n+1) A (c.setn x p) (upd H A.nu (.dK (kB kvs (.inr x) v))):=by
 obtain⟨t,d⟩:=jgC (x:=x) I.nu e hv
 have J:=I.mono (ox n)
 refine⟨fun b o h1 _ _ _ eb=>jk h1 eb,jk (jN I.o e (by intro z;cases z)) I.o,I.n1,I.n2,I.n3,I.inj,?_,J.ve.tk t fun o=>jk I.n1.symm,J.na.tk fun o=>jk I.n2.symm,fun i hi=>?_⟩
 .have:(fun y=>((jaG c.nu x p) y).map p2)=jaG (fun y=>(c.nu y).map p2) x (p2 p):=by
   funext y;unfold jaG;split <;> rfl
  show DAt _ (fun y=>((jaG c.nu x p) y).map p2) _ _;rw[this];exact d
 .obtain⟨ys,h4,_⟩:=I.l i hi
  exact (J.l i hi).tk t fun o=>jk (jN h4 e (by intro z;cases z))
theorem CsAt.named{c:Cs}(I:CsAt C n A c H){r:Str}(e:H A.na=some (.dK kvs)):
  Mv A H (upd H A.na (.dK (kB kvs (.inr r) v)))/\CsAt C (n+1) A (c.name r) (upd H A.na (.dK (kB kvs (.inr r) v))):=by
 have t:TK H (upd H A.na (.dK (kB kvs (.inr r) v))):=fun b xs eb=>jk (jN eb e (by intro z;cases z)) eb
 have J:=I.mono (ox n)
 refine⟨fun b o _ _ h1 _ eb=>jk h1 eb,jk (jN I.o e (by intro z;cases z)) I.o,I.n1,I.n2,I.n3,I.inj,J.nu.tk t fun o=>jk I.n2,J.ve.tk t fun o=>jk I.n3,?_,fun i hi=>?_⟩
 .obtain⟨k1,h1,h2,h3⟩:=I.na
  obtain rfl:k1=kvs:=by rw[h1]at e;cases e;rfl
  refine⟨_,jb,aU (kH _ _ _) (DO h2),?_⟩
  show _=(jhD c.na r).map Sum.inr
  unfold jhD
  by_cases z:r∈c.na
  .rw[Tu z,jgt _ (by rw[h3];exact ck.mpr ⟨r,z,rfl⟩),h3]
  .rw[Tt z,je9 _ (by rw[h3];intro q;obtain⟨y,y1,y2⟩:=ck.mp q;cases y2;exact z y1),bh,h3]
   rfl
 .obtain⟨ys,h4,_⟩:=I.l i hi
  exact (J.l i hi).tk t fun o=>jk (jN h4 e (by intro z;cases z))
abbrev yr:aA:=top 28
abbrev JM:aA:=top 29
abbrev Jf:aA:=top 27
theorem jbG{p:P2}(h:Held H (p2 p) v):∃t x,v=.ref t/\H t=some (.tup [x,.int p.2])/\Held H p.1 x:=by
 obtain⟨t,xs,rfl,ht,hx⟩:=js h;obtain⟨x,r,rfl,h1,h2⟩:=jg hx;obtain⟨y,r,rfl,h3,h4⟩:=jg h2
 cases kI h3
 cases jv h4
 exact⟨t,x,rfl,ht,h1⟩
inductive spMore(vs:List V)(H:Hp)(Q:VK)(E:XK):Prop
 | mk (v:V) (d:Int) (p:P2) (_:vs=[v,.int d]) (_:Held H (p2 p) v) (_:∀v' H',Same H H'->Held H' (p2 (mor p d)) v'->Q v' H')
inductive spAtM(vs:List V)(H:Hp)(Q:VK)(E:XK):Prop
 | mk (v u:V) (p q:P2) (_:vs=[v,u]) (_:Held H (p2 p) v) (_:Held H (p2 q) u) (_:∀v' H',Same H H'->Held H' (Kh p q) v'->Q v' H')
inductive spEnt(vs:List V)(H:Hp)(Q:VK)(E:XK):Prop
 | mk (v u:V) (d:D) (p:P2) (_:vs=[v,u]) (_:Held H d v) (_:Held H (p2 p) u) (_:∀v' H',Same H H'->Held H' (p2 (YZ d p)) v'->Q v' H')
variable {f:aa}{fd:aD}
section
variable {P:az}{w:ax}{K:av}{mg:Str->Option ad}{base:au}
theorem jgd(F:Fun K "more_than" "more_than" yr f fd):FnOk P w K mg base CX0 1 f fd ["stood_for","d"] spMore:=by
 have sc:FnScope ["stood_for","d","source","more"] ["stood_for","d"] (ji yr):=fQ;refine F.okZ sc (fun ay A outer s H vs Q E hr h=>?_);obtain⟨v,d,p,rfl,hv,q⟩:=h;refine⟨_,(ja (kX (zpv 0) (jX rfl (jm (jj (i:=2) sc.nd rfl oQ) (jm (jj (i:=3) sc.nd rfl oQ) jJ))))
   (jf (jr (zpd (jU (jq (ya 2) (jq (Ya (jG yz (zpv 3) (zpv 1))) jP))))))),?_⟩
 refine jV (σ':=[some v,some (.int d),none,none]) rfl ?_
 try dsimp only[j5]
 obtain⟨t,x,rfl,ht,hx⟩:=jbG hv;refine⟨_,rfl,t,_,rfl,SqT.of ht,rfl,_,_,rfl,_,_,rfl,rfl,?_⟩;refine jV (σ':=[some (.ref t),some (.int d),some x,some (.int p.2)]) rfl ?_;refine⟨p2 (mor p d),⟨_,rfl,aw rfl,_,_,rfl,⟨_,rfl,hx⟩,_,_,rfl,(fun G sG Q q=>?_),rfl⟩,fun v H' s h=>q v H' s h⟩;exact⟨_,rfl,_,rfl,_,_,rfl,rfl,q _ _ (fun _ _ e=>e) zm⟩
theorem jhj(F:Fun K "at_most" "at_most" JM f fd):FnOk P w K mg base CX0 1 f fd ["one","other"] spAtM:=by
 have sc:FnScope ["one","other"] ["one","other"] (ji JM):=fQ;refine F.okZ sc (fun ay A outer s H vs Q E hr h=>?_);obtain⟨v,u,p,q,rfl,hv,hu,k⟩:=h;refine⟨_,(jf (jr (zpd (jU (jq (Ya (jz jE (zpv 0) jl (fun _ _=>rfl))) (jq (Ya (jz jE (zpv 1) jl (fun _ _=>rfl))) (jq (Ya (jG Z4 (jz jE (zpv 1) jl (fun _ _=>rfl)) (jz jE (zpv 0) jl (fun _ _=>rfl)))) jP))))))),?_⟩;refine jV (σ':=[some v,some u]) rfl ?_
 try dsimp only[j5]
 obtain⟨t,x,rfl,ht,hx⟩:=jbG hv;obtain⟨t',y,rfl,df,hy⟩:=jbG hu;refine⟨Kh p q,⟨_,rfl,aw rfl,_,_,rfl,(fun G sG Q q=>?_),_,_,rfl,(fun G sG Q q=>?_),_,_,rfl,(fun G sG Q q=>?_),rfl⟩,fun v H' s h=>k v H' s h⟩
 .exact⟨_,rfl,t,_,_,_,rfl,rfl,SqT.of (sG _ _ ht),jH (j:=0) rfl,q _ _ (fun _ _ e=>e) (hx.mono sG)⟩
 .exact⟨_,rfl,t',_,_,_,rfl,rfl,SqT.of (sG _ _ df),jH (j:=0) rfl,q _ _ (fun _ _ e=>e) (hy.mono sG)⟩
 .exact⟨_,rfl,t',_,_,_,rfl,rfl,SqT.of (sG _ _ df),jH (j:=1) rfl,_,rfl,t,_,_,_,rfl,rfl,SqT.of (sG _ _ ht),jH (j:=1) rfl,_,_,rfl,rfl,q _ _ (fun _ _ e=>e) zm⟩
theorem jhh(F:Fun K "entry_of" "entry_of" Jf f fd):FnOk P w K mg base CX0 1 f fd ["version","spot"] spEnt:=by
 have sc:FnScope ["version","spot"] ["version","spot"] (ji Jf):=fQ;refine F.okZ sc (fun ay A outer s H vs Q E hr h=>?_);obtain⟨v,u,d,p,rfl,hv,hu,k⟩:=h;refine⟨_,(jf (jr (zpd (jU (jq (jU (jq jY (jq (ya 0) (jq (ya 1) jP)))) (jq Kn jP)))))),?_⟩;refine jV (σ':=[some v,some u]) rfl ?_
 try dsimp only[j5]
 exact⟨p2 (YZ d p),⟨_,rfl,aw rfl,_,_,rfl,⟨_,rfl,aw rfl,_,_,rfl,rfl,_,_,rfl,⟨_,rfl,hv⟩,_,_,rfl,⟨_,rfl,hu⟩,rfl⟩,_,_,rfl,rfl,rfl⟩,fun v H' s h=>k v H' s h⟩
end
abbrev kz:aA:=top 23
abbrev JI:aA:=top 25
abbrev zj:aA:=top 26
abbrev zP:aA:=top 24
structure ClsC(K:av)(C:aa):Prop where
 c:Cls K C
 n1:NoAttr K C "numbers"
 n2:NoAttr K C "versions"
 n3:NoAttr K C "named"
 n4:NoAttr K C "lost"
 n5:NoAttr K C "ties"
 n6:NoAttr K C "spots"
 n7:NoAttr K C "puts"
 n8:NoAttr K C "eaches"
 n9:NoAttr K C "rises"
inductive spNum(C:aa)(vs:List V)(H:Hp)(Q:VK)(E:XK):Prop
 | mk (n:Nat) (A:CA) (c:Cs) (x:Str) (_:vs=[.ref A.o,.str x]) (_:CsAt C n A c H) (_:∀v H',Same H H'->Held H' (p2 (c.num x)) v->Q v H')
inductive spSpot(C:aa)(vs:List V)(H:Hp)(Q:VK)(E:XK):Prop
 | mk (n:Nat) (A:CA) (c:Cs) (x:Str) (d:Int) (v:V) (_:vs=[.ref A.o,v]) (_:CsAt C n A c H) (_:Held H (plD x d) v) (_:∀v H',Same H H'->Held H' (p2 (c.spot x d)) v->Q v H')
inductive spVer(C:aa)(vs:List V)(H:Hp)(Q:VK)(E:XK):Prop
 | mk (n:Nat) (A:CA) (c:Cs) (r:Str) (_:vs=[.ref A.o,.str r]) (_:CsAt C n A c H) (_:n<=900) (_:∀v H',Mv A H H'->CsAt C (n+1) A (c.name r) H'->Held H' (c.ver r) v->Q v H')
inductive spStand(C:aa)(vs:List V)(H:Hp)(Q:VK)(E:XK):Prop
 | mk (n:Nat) (A:CA) (c:Cs) (t:Tm) (v:V) (_:vs=[.ref A.o,v]) (_:CsAt C n A c H) (_:n<=880) (_:Held H t.toD v) (_:∀v H',Mv A H H'->CsAt C (n+2) A (c.stand t).2 H'->Held H' (p2 (c.stand t).1) v->Q v H')
theorem ZY(h:n<=900):n < aF:=jS (by omega)
section
variable {P:az}{w:ax}{K:av}{mg:Str->Option ad}{base:au}
theorem jhe(T:ClsC K C)(F:Fun K "number_stands_for" "number_stands_for" kz f fd):FnOk P w K mg base CX0 1 f fd ["case","x"] (spNum C):=by
 have sc:FnScope ["case","x"] ["case","x"] (ji kz):=fQ;refine F.okZ sc (fun ay A outer s H vs Q E hr h=>?_);have hu:(A.deeper (gB "number_stands_for" (ji kz) s.heap.objs.size f ay)).units+1 < cLine:=by have:=hr.units;omega
 obtain⟨n,B,c,x,rfl,I,q⟩:=h;refine⟨_,(ja (jQ (jw ka (zpv 1) jy (jF _)) (jf (jr (zpd (jU (jq (jU (jq jY jP)) (jq Kn jP)))))) jC)
   (jf (jr (Kf hu (jL (zpv 0) rfl) (zpv 1) (zpd (jU (jq (jU (jq jY (jq (ya 1) jP))) (jq Kn jP)))) ⟨rfl,rfl,rfl,rfl⟩)))),?_⟩
 refine jV (σ':=[some (.ref B.o),some (.str x)]) rfl ?_
 try dsimp only[j5]
 obtain⟨kvs,h1,_,h3⟩:=I.nu;unfold Cs.num at q;refine⟨_,rfl,rfl,_,rfl,jZ (fun d=>?_) (fun d=>?_)⟩
 .rw[Tu (V.str.inj (Tq d))]at q
  exact⟨p2 jcr,⟨_,rfl,aw rfl,_,_,rfl,⟨_,rfl,aw rfl,_,_,rfl,rfl,rfl⟩,_,_,rfl,rfl,rfl⟩,fun v H' s h=>q v H' s h⟩
 .rw[Tt (fun e=>d (Tr (Tw V.str e)))]at q
  refine⟨_,rfl,B.o,C,B.dx,_,_,rfl,I.o,T.c,T.n1,rfl,B.nu,rfl,.inl ⟨kvs,.inl h1⟩,_,rfl,p2 (jef x),⟨_,rfl,aw rfl,_,_,rfl,⟨_,rfl,aw rfl,_,_,rfl,rfl,_,_,rfl,⟨_,rfl,j4⟩,rfl⟩,_,_,rfl,rfl,rfl⟩,fun v H' s h=>⟨_,.k (k:=.inr x) (s _ _ h1),?_⟩⟩
  cases e:c.nu x with
  | none=>
   rw[(h3 x).1 (by show (c.nu x).map p2=none;rw[e];rfl)];rw[e]at q;exact q _ _ s h
  | some p=>
   obtain⟨u,u1,u2⟩:=(h3 x).2 (p2 p) (by show (c.nu x).map p2=_;rw[e];rfl);rw[u1];rw[e]at q;exact q _ _ s (u2.mono s)
theorem jf9(F:Fun K "spot_of" "spot_of" JI f fd)(nM:Fn P w K mg base 1 "number_stands_for" ["case","x"] (spNum C))(iu:Fn P w K mg base 1 "more_than" ["stood_for","d"] spMore):FnOk P w K mg base CX0 2 f fd ["case","place"] (spSpot C):=by
 have sc:FnScope ["case","place","x","d"] ["case","place"] (ji JI):=fQ;refine F.okZ sc (fun ay A outer s H vs Q E hr h=>?_);obtain⟨n,A,c,x,d,v,rfl,I,hv,q⟩:=h;refine⟨_,(ja (kX (zpv 1) (jX rfl (jm (jj (i:=2) sc.nd rfl oQ) (jm (jj (i:=3) sc.nd rfl oQ) jJ))))
   (jf (jr (jD iu hr (jd (jD nM hr (jd (zpv 0) (jd (zpv 2) jc))) (jd (zpv 3) jc)))))),?_⟩
 refine jV (σ':=[some (.ref A.o),some v,none,none]) rfl ?_
 try dsimp only[j5]
 obtain⟨t,rfl,ht⟩:=Jv hv;refine⟨_,rfl,t,_,rfl,SqT.of ht,rfl,_,_,rfl,_,_,rfl,rfl,?_⟩;refine jV (σ':=[some (.ref A.o),some (.ref t),some (.str x),some (.int d)]) rfl ?_;exact⟨_,rfl,_,rfl,n,A,c,x,rfl,I,fun v H1 s1 h1=>⟨_,rfl,v,d,_,rfl,h1,fun v H2 s2 h2=>q v H2 (s1.trans s2) h2⟩⟩
theorem jhc(T:ClsC K C)(F:Fun K "version_of" "version_of" zj f fd):FnOk P w K mg base CX0 1 f fd ["case","r"] (spVer C):=by
 have sc:FnScope ["case","r"] ["case","r"] (ji zj):=fQ;refine F.okZ sc (fun ay A outer s H vs Q E hr h=>?_);have hu:(A.deeper (gB "version_of" (ji zj) s.heap.objs.size f ay)).units+1 < cLine:=by have:=hr.units;omega
 obtain⟨n,B,c,r,rfl,I,hn,q⟩:=h;refine⟨_,(ja (JC hu (jL (zpv 0) rfl) (zpv 1) jd1 rfl)
   (jf (jr (Kf hu (jL (zpv 0) rfl) (zpv 1) (zpd (jU (jq jY (jq (ya 1) jP)))) ⟨rfl,rfl,rfl,rfl⟩)))),?_⟩
 refine jV (σ':=[some (.ref B.o),some (.str r)]) rfl ?_
 try dsimp only[j5]
 obtain⟨ks,h1,h2,_⟩:=I.na;refine⟨_,rfl,B.o,C,B.dx,_,_,rfl,I.o,T.c,T.n3,rfl,_,rfl,B.na,_,rfl,.k (k:=.inr r) h1 (ZY (aU h2 hn)),?_⟩;obtain⟨m1,I1⟩:=I.named (r:=r) (v:=.bl true) h1;generalize upd H B.na _=H1 at *;obtain⟨kvs,k1,_,k3⟩:=I1.ve;refine⟨_,rfl,B.o,C,B.dx,_,_,rfl,I1.o,T.c,T.n2,rfl,B.ve,rfl,.inl ⟨kvs,.inl k1⟩,_,rfl,YX r,⟨_,rfl,aw rfl,_,_,rfl,rfl,_,_,rfl,⟨_,rfl,j4⟩,rfl⟩,fun v H' s h=>⟨_,.k (k:=.inr r) (s _ _ k1),?_⟩⟩;have m2:=m1.trans (.same s)
 cases e:c.ve r with
 | none=>
  rw[(k3 r).1 e];exact q _ _ m2 (I1.same s) (by unfold Cs.ver;rw[e];exact h)
 | some d=>
  obtain⟨u,u1,u2⟩:=(k3 r).2 d e;rw[u1];exact q _ _ m2 (I1.same s) (by unfold Cs.ver;rw[e];exact u2.mono s)
theorem jgW{t:Tm}(h:Held H t.toD v):(∃x a,t=.is x/\v=.ref a/\H a=some (.tup [.str "is",.str x]))\/∃r x d a u,t=.at_ r x d/\v=.ref a/\H a=some (.tup [.str "at",.str r,u])/\Held H (plD x d) u:=by
 cases t with
 | is x=>
  obtain⟨t,xs,rfl,ht,hx⟩:=js h;obtain⟨a,r,rfl,h1,h2⟩:=jg hx;obtain⟨b,r,rfl,h3,h4⟩:=jg h2
  cases jA h1
  cases jA h3
  cases jv h4
  exact .inl ⟨x,t,rfl,rfl,ht⟩
 | at_ r x d=>
  obtain⟨t,xs,rfl,ht,hx⟩:=js h;obtain⟨a,l,rfl,h1,h2⟩:=jg hx;obtain⟨b,l,rfl,h3,h4⟩:=jg h2;obtain⟨e,l,rfl,h5,h6⟩:=jg h4
  cases jA h1
  cases jA h3
  cases jv h6
  exact .inr ⟨r,x,d,t,e,rfl,rfl,ht,h5⟩
theorem jeO(T:ClsC K C)(F:Fun K "stands_for" "stands_for" zP f fd)(nM:Fn P w K mg base 1 "number_stands_for" ["case","x"] (spNum C))(Cf:Fn P w K mg base 2 "spot_of" ["case","place"] (spSpot C))(B_:Fn P w K mg base 1 "version_of" ["case","r"] (spVer C))(my:Fn P w K mg base 1 "entry_of" ["version","spot"] spEnt):FnOk P w K mg base CX0 3 f fd ["case","term"] (spStand C):=by
 have sc:FnScope ["case","term","spot"] ["case","term"] (ji zP):=fQ;refine F.okZ sc (fun ay A outer s H vs Q E hr h=>?_);obtain⟨n,B,c,t,v,rfl,I,hn,hv,q⟩:=h;refine⟨_,(ja (jQ (jw ka (jz jE (zpv 1) jl (fun _ _=>rfl)) jy (jF _)) (jf (jr (jD nM hr (jd (zpv 0) (jd (jz jE (zpv 1) jl (fun _ _=>rfl)) jc))))) jC)
   (ja (jt (i:=2) sc.nd rfl oQ (jD Cf hr (jd (zpv 0) (jd (jz jE (zpv 1) jl (fun _ _=>rfl)) jc))))
   (ja (j7 (ql dL iJ iI kE (jL (zpv 0) rfl) (jd (zpv 2) jc)))
   (jf (jr (jD my hr (jd (jD B_ hr (jd (zpv 0) (jd (jz jE (zpv 1) jl (fun _ _=>rfl)) jc))) (jd (zpv 2) jc)))))))),?_⟩
 refine jV (σ':=[some (.ref B.o),some v,none]) rfl ?_
 try dsimp only[j5]
 refine YE ?_;intro _ _ _;rcases jgW hv with⟨x,a,rfl,rfl,ha⟩ | ⟨r,x,d,a,u,rfl,rfl,ha,hu⟩
 .refine⟨_,rfl,a,_,_,_,rfl,rfl,SqT.of ha,jH (j:=0) rfl,rfl,_,rfl,kY ?_⟩
  exact⟨_,rfl,_,rfl,a,_,_,_,rfl,rfl,SqT.of ha,jH (j:=1) rfl,n,B,c,x,rfl,I,fun v H' s h=>q v H' (.same s) ((I.same s).mono (by omega)) h⟩
 .refine⟨_,rfl,a,_,_,_,rfl,rfl,SqT.of ha,jH (j:=0) rfl,rfl,_,rfl,yj ?_⟩
  refine⟨_,rfl,_,rfl,a,_,_,_,rfl,rfl,SqT.of ha,jH (j:=2) rfl,n,B,c,x,d,u,rfl,I,hu,fun v H1 s1 hv=>?_⟩;refine jV (σ':=[some (.ref B.o),some (.ref a),some v]) rfl ?_;have I1:=I.same s1;obtain⟨xs,l1,l2,l3⟩:=I1.l 2 (by decide);refine⟨_,rfl,B.o,C,B.dx,_,_,rfl,I1.o,T.c,T.n6,rfl,.inl ⟨rfl,_,SqL.of l1⟩,_,rfl,B.l 2,xs,v,rfl,rfl,l1,ZY (by omega),?_⟩;obtain⟨m2,I2⟩:=I1.app1 (i:=2) (by decide) hv l1;have t2:=I1.tk m2;have hZ:=t2.held hv;have Bf:=t2 _ _ (s1 _ _ ha);generalize upd H1 (B.l 2) _=H2 at *;refine⟨_,rfl,_,rfl,a,_,_,_,rfl,rfl,SqT.of Bf,jH (j:=1) rfl,n+1,B,_,r,rfl,I2,by omega,fun u H3 m3 I3 lO=>?_⟩;have t3:=I2.tk m3;refine⟨_,rfl,u,v,_,_,rfl,lO,t3.held hZ,fun y H4 s4 h4=>?_⟩;exact q y H4 (((Mv.same s1).trans m2).trans (m3.trans (.same s4))) (I3.same s4) h4
end
abbrev yt:aA:=top 31
inductive spLeastT(C:aa)(vs:List V)(H:Hp)(Q:VK)(E:XK):Prop
 | mk (n:Nat) (A:CA) (c:Cs) (a b:Tm) (k:Int) (v:V) (_:vs=[.ref A.o,v]) (_:CsAt C n A c H) (_:n<=860) (_:Held H (Cl.least a b k).toD v) (_:∀v H',Mv A H H'->CsAt C (n+4) A (c.least a b k).2 H'->Held H' (c.least a b k).1 v->Q v H')
section
variable {P:az}{w:ax}{K:av}{mg:Str->Option ad}{base:au}
theorem jdi(F:Fun K "least_tie" "least_tie" yt f fd)(mw:Fn P w K mg base 3 "stands_for" ["case","term"] (spStand C))(iu:Fn P w K mg base 1 "more_than" ["stood_for","d"] spMore)(i_:Fn P w K mg base 1 "at_most" ["one","other"] spAtM):FnOk P w K mg base CX0 4 f fd ["case","least"] (spLeastT C):=by
 have sc:FnScope ["case","least","a","b","c"] ["case","least"] (ji yt):=fQ;refine F.okZ sc (fun ay A outer s H vs Q E hr h=>?_);obtain⟨n,B,c,a,b,k,v,rfl,I,hn,hv,q⟩:=h;refine⟨_,(ja (kX (kC zZ (zpv 1) (kF jl) qp) (jX rfl (jm (jj (i:=2) sc.nd rfl oQ) (jm (jj (i:=3) sc.nd rfl oQ) (jm (jj (i:=4) sc.nd rfl oQ) jJ)))))
   (jf (jr (jD i_ hr (jd (jD iu hr (jd (jD mw hr (jd (zpv 0) (jd (zpv 3) jc))) (jd (zpv 4) jc))) (jd (jD mw hr (jd (zpv 0) (jd (zpv 2) jc))) jc)))))),?_⟩
 refine jV (σ':=[some (.ref B.o),some v,none,none,none]) rfl ?_
 try dsimp only[j5]
 obtain⟨t,va,vb,rfl,ht,ha,hb⟩:=Ji hv;refine⟨_,rfl,_,rfl,t,_,rfl,SqT.of ht,(fun h=>absurd h.1 (by show ¬(HT.sIx 4 0 (some 1)=0);decide)),fun t' df=>?_⟩;have s1:=je df (.tup (qo [.str "least",va,vb,.int k] (some 1) none));have e1:upd H t' (.tup (qo [.str "least",va,vb,.int k] (some 1) none)) t'=some (.tup [va,vb,.int k]):=jb;generalize upd H t' (.tup (qo [.str "least",va,vb,.int k] (some 1) none))=H1 at *;refine⟨t',_,rfl,SqT.of e1,rfl,_,_,rfl,_,_,rfl,_,_,rfl,rfl,?_⟩;refine jV (σ':=[some (.ref B.o),some (.ref t),some va,some vb,some (.int k)]) rfl ?_;refine⟨_,rfl,_,rfl,n,B,c,b,vb,rfl,I.same s1,by omega,hb.mono s1,fun x H2 m2 I2 hx=>?_⟩;have t2:=(I.same s1).tk m2;refine⟨_,rfl,x,k,_,rfl,hx,fun y H3 s3 hy=>?_⟩;refine⟨_,rfl,_,rfl,n+2,B,_,a,va,rfl,I2.same s3,by omega,(t2.held (ha.mono s1)).mono s3,fun z H4 m4 I4 hz=>?_⟩;have t4:=(I2.same s3).tk m4;refine⟨y,z,_,_,rfl,t4.held hy,hz,fun u H5 s5 hu=>?_⟩;exact q u H5 (((Mv.same s1).trans m2).trans (((Mv.same s3).trans m4).trans (.same s5))) (I4.same s5) hu
theorem ja9{a b c d:D}(h:Held H (.tup [a,b,c,d]) v):∃t x y z u,v=.ref t/\H t=some (.tup [x,y,z,u])/\Held H a x/\Held H b y/\Held H c z/\Held H d u:=by
 obtain⟨t,xs,rfl,ht,hx⟩:=js h;obtain⟨x,r,rfl,h1,h2⟩:=jg hx;obtain⟨y,r,rfl,h3,h4⟩:=jg h2;obtain⟨z,r,rfl,h5,h6⟩:=jg h4;obtain⟨u,r,rfl,h7,h8⟩:=jg h6
 cases jv h8
 exact⟨t,x,y,z,u,rfl,ht,h1,h3,h5,h7⟩
end
abbrev jci:aA:=top 22
abbrev yh:aA:=top 19
inductive spDeny(C:aa)(vs:List V)(H:Hp)(Q:VK)(E:XK):Prop
 | mk (n:Nat) (A:CA) (c:Cs) (a b:Tm) (k:Int) (v:V) (_:vs=[.ref A.o,v]) (_:CsAt C n A c H) (_:n<=840) (_:Held H (Cl.least a b k).toD v) (_:∀H',Mv A H H'->CsAt C (n+10) A (c.deny (.least a b k)) H'->Q .non H')
inductive spTake(C:aa)(vs:List V)(H:Hp)(Q:VK)(E:XK):Prop
 | mk (n:Nat) (A:CA) (c:Cs) (i:Nat) (x:Str) (tm:Tm) (k:Int) (v:V) (_:vs=[.ref A.o,.int (i:Nat),v]) (_:CsAt C n A c H) (_:n<=840) (_:Held H (Rw.set x tm k).toD v) (_:∀H',Mv A H H'->CsAt C (n+8) A (c.take i (.set x tm k)) H'->Q .non H')
section
variable {P:az}{w:ax}{K:av}{mg:Str->Option ad}{base:au}
theorem jgj(T:ClsC K C)(F:Fun K "deny" "deny" jci f fd)(ir:Fn P w K mg base 1 "turned" ["least"] spTurned)(Cz:Fn P w K mg base 4 "least_tie" ["case","least"] (spLeastT C)):FnOk P w K mg base CX0 5 f fd ["case","goal"] (spDeny C):=by
 have sc:FnScope ["case","goal","t","u","first","said","second","version","less"] ["case","goal"] (ji jci):=fQ;refine F.okZ sc (fun ay A outer s H vs Q E hr h=>?_);obtain⟨n,B,c,a,b,k,v,rfl,I,hn,hv,q⟩:=h;refine⟨_,(ja (jQ (jw ka (jz jE (zpv 1) jl (fun _ _=>rfl)) jy (jF _)) (ja (j7 (ql dL iJ iI kE (jL (zpv 0) rfl) (jd (jD Cz hr (jd (zpv 0) (jd (jD ir hr (jd (zpv 1) jc)) jc))) jc)))
   (jf jdS)) jC)
   (ja jB
   (ja jB
   (ja jB
   (ja jB
   (ja jB
   (ja jB
   (ja jB
   (jf jB))))))))),?_⟩
 refine jV (σ':=[some (.ref B.o),some v,none,none,none,none,none,none,none]) rfl ?_
 try dsimp only[j5]
 refine jgQ ?_;intro r8 r7 r6 r5 r4 r3 r2 r1;obtain⟨t,va,vb,rfl,ht,_,_⟩:=Ji hv;refine⟨_,rfl,t,_,_,_,rfl,rfl,SqT.of ht,jH (j:=0) rfl,rfl,_,rfl,kY ?_⟩;obtain⟨xs,l1,_,_⟩:=I.l 1 (by decide);refine⟨_,rfl,B.o,C,B.dx,_,_,rfl,I.o,T.c,T.n5,rfl,.inl ⟨rfl,_,SqL.of l1⟩,_,rfl,_,rfl,_,a,b,k,rfl,hv,fun u H1 s1 hu=>⟨n,B,c,b,a,1 - k,u,rfl,I.same s1,by omega,hu,fun y H2 m2 I2 hy=>?_⟩⟩;obtain⟨ys,l2,_,l3⟩:=I2.l 1 (by decide);obtain⟨m3,I3⟩:=I2.app1 (i:=1) (by decide) hy l2;exact⟨B.l 1,ys,y,rfl,rfl,l2,ZY (by omega),q _ ((Mv.same s1).trans (m2.trans m3)) (I3.mono (by omega))⟩
theorem jf7(T:ClsC K C)(F:Fun K "take_row" "take_row" yh f fd)(iu:Fn P w K mg base 1 "more_than" ["stood_for","d"] spMore)(mw:Fn P w K mg base 3 "stands_for" ["case","term"] (spStand C)):FnOk P w K mg base CX0 6 f fd ["case","n","row"] (spTake C):=by
 have sc:FnScope ["case","n","row","kind"] ["case","n","row"] (ji yh):=fQ;refine F.okZ sc (fun ay A outer s H vs Q E hr h=>?_);have hu:(A.deeper (gB "take_row" (ji yh) s.heap.objs.size f ay)).units+1 < cLine:=by have:=hr.units;omega
 obtain⟨n,B,c,i,x,tm,k,v,rfl,I,hn,hv,q⟩:=h;refine⟨_,(ja (jt (i:=3) sc.nd rfl oQ (jz jE (zpv 2) jl (fun _ _=>rfl)))
   (jf (jQ (jw ka (zpv 3) jy (jF _)) (jf (JC hu (jL (zpv 0) rfl) (jz jE (zpv 2) jl (fun _ _=>rfl)) (jD iu hr (jd (jD mw hr (jd (zpv 0) (jd (jz jE (zpv 2) jl (fun _ _=>rfl)) jc))) (jd (jz jE (zpv 2) jl (fun _ _=>rfl)) jc))) rfl)) (jf jB)))),?_⟩
 refine jV (σ':=[some (.ref B.o),some (.int i),some v,none]) rfl ?_;obtain⟨t,y0,y1,y2,y3,rfl,ht,h0,h1,h2,h3⟩:=ja9 hv
 cases jA h0
 cases jA h1
 cases kI h3
 refine⟨_,rfl,t,_,_,_,rfl,rfl,SqT.of ht,jH (j:=0) rfl,?_⟩;refine jV (σ':=[some (.ref B.o),some (.int i),some (.ref t),some (.str "set")]) rfl ?_;refine⟨_,rfl,rfl,_,rfl,kY ?_⟩;refine⟨_,rfl,_,rfl,t,_,_,_,rfl,rfl,SqT.of ht,jH (j:=2) rfl,n,B,c,tm,y2,rfl,I,by omega,h2,fun y H1 m1 I1 hy=>?_⟩;have fg:=I.tk m1 _ _ ht;refine⟨_,rfl,t,_,_,_,rfl,rfl,SqT.of fg,jH (j:=3) rfl,y,k,_,rfl,hy,fun z H2 s2 hz=>?_⟩;have I2:=I1.same s2;obtain⟨kvs,k1,k2,_⟩:=I2.nu;refine⟨_,rfl,B.o,C,B.dx,_,_,rfl,I2.o,T.c,T.n1,rfl,_,rfl,t,_,_,_,rfl,rfl,SqT.of (s2 _ _ fg),jH (j:=1) rfl,B.nu,_,rfl,.k (k:=.inr x) k1 (ZY (by omega)),?_⟩;obtain⟨m3,I3⟩:=I2.setn (x:=x) hz k1;exact q _ (m1.trans ((Mv.same s2).trans m3)) (I3.mono (by omega))
end
end LW
namespace Tim
open PySem PyProof.Rows
variable {st:eU}
section
variable {prog:az}{w:ax}{A:aM}{E:ad->af->Prop}{s:af}
theorem wpS_ltP{i j:Nat}{x y:Keyed}{v:Bool}{Q:Option Bool->eU->Prop}(hi:(arrOf st)[i]?=some x)(hj:(arrOf st)[j]?=some y)
  (ask:ah (am prog w) A (keyLt' (kindOf st) x.1 y.1) (fun b s'=>s'=s/\b=v) (fun _ _=>False) s) (q:Q (some v) st):wpS (am prog w) A E s (ltAt' i j) Q st:=by
 rw[ltAt'_eq]
 refine dv (sj ?_)
 dsimp only
 rw[elem'_eq,hi]
 refine dv (gZ ?_)
 rw[elem'_eq,hj]
 refine dv (gZ ?_)
 rw[lt'_eq]
 refine dv (sj ?_)
 refine dv (wpS_lift (vF (bi ask (fun b s' h=>?_) (fun _ _ h=>h.elim))))
 obtain⟨h1,h2⟩:=h
 subst h2
 exact⟨h1,gZ q⟩
theorem ZQ{N:Nat}{Q:Option Nat->eU->Prop}(h1:1<=N)
  (asks:∀i,1<=i->i < N->∀Q':Option Bool->eU->Prop,Q' (some false) st->wpS (am prog w) A E s (ltAt' i (i - 1)) Q' st) (q:Q (some N) st):wpS (am prog w) A E s (countRun' 0 N) Q st:=by
 rw[countRun0_eq]
 unfold ascLoop
 refine dv (DG (I:=fun n c sn=>sn=st/\c=(none,n)) (fun n c sn an bn J=>?_) (fun c sn J=>?_) ⟨rfl,rfl⟩)
 .obtain⟨rfl,rfl⟩:=J
  dsimp only
  refine dv (asks n an bn _ ?_)
  exact gZ ⟨rfl,rfl⟩
 .obtain⟨rfl,rfl⟩:=J
  have e:max 1 N=N:=by omega
  rw[e]
  dsimp only
  rw[Tu (by simp)]
  exact gZ q
theorem jau{n:Nat}{Q:Bool->eU->Prop}(h1:1<=n)(q:Q true st):wpS (am prog w) A E s (binarySort' 0 n n) Q st:=by
 rw[binarySort'_eq];refine dv (DG (I:=fun _ c sn=>sn=st/\c=(none,())) (fun k c sn ak bk J=>?_) (fun c sn J=>?_) ⟨rfl,rfl⟩)
 .omega
 .obtain⟨rfl,rfl⟩:=J
  exact gZ q
theorem wpS_sortAsc{N:Nat}{Q:Unit->eU->Prop}(hN:(arrOf st).size=N)(h1:1<=N)(hp:vX st=#[])
  (asks:∀i,1<=i->i < N->∀Q':Option Bool->eU->Prop,Q' (some false) st->wpS (am prog w) A E s (ltAt' i (i - 1)) Q' st)
  (q:∀sn,arrOf sn=arrOf st->ou sn=ou st->Q () sn):wpS (am prog w) A E s sortRuns' Q st:=by
 rw[sortRuns'_eq]
 refine dv (sj ?_)
 dsimp only
 rw[hN]
 generalize minRun' N N 0=mr
 refine dv (wpS_mono (DG (I:=fun (x:Nat) (c:Option Unit×Nat) (bM:eU)=>(x=0/\c=(none,0)/\bM=st)\/(1<=x/\c=(none,N)/\arrOf bM=arrOf st/\ou bM=ou st/\(vX bM).size=1))
  (Q:=fun (c:Option Unit×Nat) (bM:eU)=>c=(none,N)/\arrOf bM=arrOf st/\ou bM=ou st/\(vX bM).size=1) ?step ?fin (.inl ⟨rfl,rfl,rfl⟩)) ?post)
 case fin=>
  rintro c bM (⟨h,_⟩ | ⟨_,h2,h3,h4,h5⟩)
  .omega
  .exact⟨h2,h3,h4,h5⟩
 case step=>
  rintro x c bM _ hx (⟨rfl,rfl,rfl⟩ | ⟨_,rfl,h3,h4,h5⟩)
  .dsimp only
   rw[Tt (by omega)]
   refine dv ?_
   rw[SG]
   refine ZQ h1 asks ?_
   dsimp only
   split
   .rename_i hm
    refine dv (wpS_lift (iz ⟨rfl,?_⟩))
    have e:min N mr=N:=by omega
    rw[e]
    refine dv (jau h1 ?_)
    simp only[Bool.not_true,sL,if_false]
    refine dv (sj ?_)
    rw[hp]
    refine dv (wpS_modify (gZ (.inr ⟨by omega,?_,rfl,rfl,?_⟩)))
    .rw[mI]
    .show ((vX bM).push _).size=1
     rw[hp]
     rfl
   .refine dv (sj ?_)
    rw[hp]
    refine dv (wpS_modify (gZ (.inr ⟨by omega,?_,rfl,rfl,?_⟩)))
    .rw[mI]
    .show ((vX bM).push _).size=1
     rw[hp]
     rfl
  .dsimp only
   rw[Tu (aB _)]
   exact gZ ⟨rfl,h3,h4,h5⟩
 case post=>
  rintro c bM ⟨rfl,h3,h4,h5⟩
  dsimp only
  refine dv (wpS_mono (DG (I:=fun (x:Nat) (c:Option Unit×Unit) (c_:eU)=>c=(none,())/\c_=bM)
   (Q:=fun (c:Option Unit×Unit) (c_:eU)=>c=(none,())/\c_=bM) ?step4 (fun _ _ h=>h) ⟨rfl,rfl⟩) ?post4)
  case step4=>
   rintro x c c_ _ hx ⟨rfl,rfl⟩
   refine dv (sj ?_)
   rw[Tu (by omega)]
   exact gZ ⟨rfl,rfl⟩
  case post4=>
   rintro c c_ ⟨rfl,rfl⟩
   exact gZ (q _ h3 h4)
end
end Tim
namespace L2
open PySem PySem.Spec PyProof.Rows PySem.W
theorem Kq:1000<=(aF:Nat):=by rw[eJ];decide
section
variable {prog:az}{w:ax}{A:aM}{E:ad->af->Prop}{s:af}
mutual
theorem jcE:∀(d:D) (A:aM) (u v:ad),A.units+d.depth < cLine->TrAt s.heap d u->TrAt s.heap d v->cL A s u v true
 | .int i,A,u,v,_,hx,hy=>by
  unfold TrAt at hx hy;obtain⟨t,rfl⟩:=hx;obtain⟨t',rfl⟩:=hy;have:=Dr (A:=A) (s:=s) i t i t';rw[beq_self_eq_true]at this;exact this
 | .str i,A,u,v,_,hx,hy=>by
  unfold TrAt at hx hy;obtain⟨t,rfl⟩:=hx;obtain⟨t',rfl⟩:=hy;have:=vQ (A:=A) (s:=s) i t i t';rw[beq_self_eq_true]at this;exact this
 | .tup ds,A,u,v,hA,hx,hy=>by
  unfold TrAt at hx hy;obtain⟨a,its,rfl,ta,dR⟩:=hx;obtain⟨b,aS,rfl,tb,cI⟩:=hy;unfold D.depth at hA;by_cases bI:a=b
  .subst bI;exact vR _
  .refine Dq bI ?_
   have l1:ds.length=its.size:=by have:=dR.length;simpa using this
   have l2:ds.length=aS.size:=by have:=cI.length;simpa using this
   have bz:=vP (A:=A) (s:=s) (e:=fun _=>true) ta tb (by omega) (fun j h1 h2=>by
    have g:=eqAtL_sm ds A.in1 _ _ (by show A.units+1+_ < _;omega) dR cI j (its[j]) (aS[j]) (by rw[Ls];exact iM h1) (by rw[Ls];exact iM h2);exact g)
   have e:((bL (min its.size aS.size)).all (fun _=>true) && its.size == aS.size)=true:=by
    rw[show its.size=aS.size by omega];simp
   rw[e]at bz;exact bz
theorem eqAtL_sm:∀(ds:List D) (A:aM) (us vs:List ad),A.units+D.depthL ds < cLine->TrAtL s.heap ds us->TrAtL s.heap ds vs->∀(j:Nat) (u v:ad),us[j]?=some u->vs[j]?=some v->cL A s u v true
 | [],A,us,vs,_,hx,_,j,u,v,e,_=>by unfold TrAtL at hx;subst hx;simp at e
 | d :: ds,A,us,vs,hA,hx,hy,j,u,v,e,f=>by
  unfold TrAtL at hx hy;obtain⟨u0,ur,rfl,h1,h2⟩:=hx;obtain⟨v0,vr,rfl,g1,g2⟩:=hy;unfold D.depthL at hA
  cases j with
  | zero=>cases e;cases f;exact jcE d A _ _ (by omega) h1 g1
  | succ j=>exact eqAtL_sm ds A ur vr (by omega) h2 g2 j u v e f
end
def FlatAt(h:au)(d:List D)(v:ad)(i:Int):Prop:=∃(a:aa) (o:Obj) (u:ad) (t:Tok) (n:Nat),v=.ref a/\h.get? a=some o/\o.cls=.type "tuple"/\o.data=.seq #[u,.int i t] n/\TrAt h (.tup d) u
theorem FlatAt.kept{h h':au}{d:List D}{v:ad}{i:Int}(x:FlatAt h d v i)(k:∀b o,h.get? b=some o->o.cls=.type "tuple"->h'.get? b=some o):FlatAt h' d v i:=by
 obtain⟨a,o,u,t,n,e1,e2,e3,e4,e5⟩:=x;exact⟨a,o,u,t,n,e1,k a o e2 e3,e3,e4,e5.kept fun b xs ⟨o,z1,z2,z3⟩=>⟨o,k b o z1 z2,z2,z3⟩⟩
theorem jbJ{x y:Int}{t u:Tok}{Q:Bool->af->Prop}(h:Q (decide (x < y)) s):ah (am prog w) A (oneLt' false (.int x t) (.int y u)) Q E s:=by
 rw[oneLt'_eq];simp only[sL,if_false];refine ae (PyProof.Rows.lt_int ?_:ah (am prog w) A (dZ .Lt (.int x t) (.int y u)) _ E s);unfold truthOfDropped;show ah (am prog w) A (truthy (.bool _)) Q E s
 first | exact aq h | exact nT h | (unfold truthy;exact aq h)
theorem jfx{d:List D}{u v:ad}{i j:Int}{Q:Bool->af->Prop}(hA:A.units+(D.depthL d+1) < cLine)(hu:FlatAt s.heap d u i)(hv:FlatAt s.heap d v j)(tR:i < j)(q:Q false s):ah (am prog w) A (keyLt' (tuples' false) v u) Q E s:=by
 obtain⟨a,o,p,t,n,rfl,e2,e3,e4,e5⟩:=hu;obtain⟨b,o',p',t',n',rfl,f2,f3,f4,f5⟩:=hv;refine kat_lt f2 f4 e2 e4 ?_;refine kat_cons ((jcE (.tup d) A _ _ (by unfold D.depth;exact hA) f5 e5) prog w _ _ (kat_yes (kat_cons (P1 ?_))));rw[Tv.mpr (show j≠i by omega)];refine kat_no (jbJ ?_);rw[Ts (show ¬j < i by omega)];exact q
theorem Zy{h:au}{d:List D}:∀{vs:List ad} {ds:List Int},vs.length=ds.length->(∀i (hi:i < ds.length),FlatAt h d (vs.getD i Value.none) ds[i])->∃fs,KatTups h vs fs/\fs.length=ds.length/\∀v∈fs,∃a o,v=Value.ref a/\h.get? a=some o/\o.cls=.type "tuple"
 | [],[],_,_=>⟨[],KatTups.nil,rfl,fun v h=>absurd h (by simp)⟩
 | v :: vs,q :: ps,hl,hv=>by
  obtain⟨fs,h1,h2,h3⟩:=Zy (vs:=vs) (ds:=ps) (by simpa using hl) fun i hi=>by
   have:=hv (i+1) (by simpa using hi);simpa using this
  obtain⟨c,o,u,t,n,e1,e2,e3,e4,e5⟩:=hv 0 (by simp);have mi:v=.ref c:=by simpa using e1
  subst mi;unfold TrAt at e5;obtain⟨b,its,rfl,⟨o2,z1,z2,_⟩,_⟩:=e5;refine⟨.ref b :: fs,KatTups.cons e2 e3 e4 (by simp) h1,by simp[h2],fun v hv=>?_⟩;rcases aN.mp hv with rfl | hv
  .exact⟨_,_,rfl,z1,z2⟩
  .exact h3 v hv
 | [],_ :: _,hl,_=>by simp at hl
 | _ :: _,[],hl,_=>by simp at hl
theorem jc1{a:aa}{vs:List ad}{d:List D}{ds:List Int}{n:Nat}{P:Fin->af->Prop}(ho:s.heap.get? a=some (dw "list" vs.toArray n))(hl:2<=vs.length->vs.length=ds.length)
  (hv:2<=vs.length->∀i (h:i < ds.length),FlatAt s.heap d (vs.getD i Value.none) ds[i]) (BN:ds.Pairwise (· < ·)) (most:vs.length<=1000) (hA:A.units+(D.depthL d+1) < cLine)
  (h:P (.done (.ret .none)) { s with heap:=IM s.heap a vs vs.toArray }) :
  ah (am prog w) A (Builtin.«list.sort» ⟨[.ref a],[]⟩) P E s:=by
 have ha:a < s.heap.objs.size:=aL ho
 have hsz:vs.toArray.size=vs.length:=by simp
 have line:vs.length<=aF:=by
  have:=Kq;omega
 obtain⟨e1,ic⟩:∃e1,(s.heap.update a (dF fun _=>#[])).get? a=some (dw "list" #[] e1):=⟨_,DH ho (fun _=>#[])⟩
 have dW:(((s.heap.update a (dF fun _=>#[])).push (dw "tuple" vs.toArray 0)).push (dw "list" #[] 0)).get? a=some (dw "list" #[] e1):=aQ _ (aQ _ ic)
 have hZ:2<=vs.length->∀i (h:i < ds.length),FlatAt (((s.heap.update a (dF fun _=>#[])).push (dw "tuple" vs.toArray 0)).push (dw "list" #[] 0)) d (vs.getD i Value.none) ds[i]:=fun h2 i hi=>(hv h2 i hi).kept fun b o e c=>by
  have hb:b≠a:=fun z=>by
   rw[z,ho]at e
   cases e
   exact absurd c (by simp)
  exact aQ _ (aQ _ ((Ij _ _ _ _ hb).trans e))
 rw[list_sort_plain]
 refine ae (listItems_at ho rfl (ae (IR ho rfl ?_ (by rw[hsz];omega) (bA _))))
 refine ae (IQ ic rfl (ae (wpAny_newTuple ?_ line)))
 refine ae (GQ (dr ?_) (bA _))
 generalize hh:(((s.heap.update a (dF fun _=>#[])).push (dw "tuple" vs.toArray 0)).push (dw "list" #[] 0))=h2 at *
 show ah (am prog w) A _ P E { s with heap:=h2 }
 dsimp only
 have AE:((vs.toArray.zip vs.toArray).map (·.2))=vs.toArray:=by
  apply Array.ext
  .simp
  .intro i h1 h2
   simp
 by_cases fq:vs.toArray.size < 2
 .rw[Tu fq,Tu fq]
  refine ae (aq ?_)
  rw[StateT.run_pure]
  refine ae (aq ?_)
  dsimp only
  refine ae (IQ dW rfl (ae (IR dW rfl ?_ (bA _) ?_)))
  .simp only[bne_self_eq_false,sL,if_false]
   refine aq ?_
   have g:=h
   unfold IM at g
   rw[hh]at g
   rw[<- AE]at g
   exact g
  .show ((vs.toArray.zip vs.toArray).map (·.2)).size<=_
   rw[AE,hsz]
   omega
 .rw[Tt fq,Tt fq]
  have oM:2<=vs.length:=by omega
  have hl:=hl oM
  have hZ:=hZ oM
  obtain⟨fs,t1,t2,t3⟩:=Zy (h:=h2) hl hZ
  refine ae (kat_kind (s:={ s with heap:=h2 }) (T:=.type "tuple") t1 (by omega) (fun v hv=>?_) (by decide) ?_)
  .obtain⟨x,o,rfl,z1,z2⟩:=t3 v hv
   intro A' Q' E' s' k q'
   exact C6 (s:=s') ⟨o,k _ _ z1,z2⟩ q'
  have hk:(Value.type "tuple" != Value.type "tuple")=false:=by decide
  rw[hk]
  have D5:(vs.toArray.zip vs.toArray).size=ds.length:=by simp[hl]
  have nz:∀i,i < ds.length->(vs.toArray.zip vs.toArray)[i]?=some (vs.getD i Value.none,vs.getD i Value.none):=fun i hi=>by
   have cO:i < vs.length:=by omega
   rw[iM (by rw[D5];exact hi)];simp[cO]
  refine ae (bi (Tim.wpS_sortAsc (prog:=prog) (w:=w) (A:=A) (E:=E) (s:={ s with heap:=h2 }) (st:=eU.mk' (tuples' false) (vs.toArray.zip vs.toArray) #[] 7 none) (N:=ds.length) (Q:=fun _ sn=>arrOf sn=vs.toArray.zip vs.toArray/\ou sn=none) D5 (by omega) rfl (fun i a1 a2 Q' q'=>?_) (fun sn b1 b2=>⟨b1,b2⟩)) (fun o sh J=>?_) fun _ _ e=>e)
  .have a3:i - 1 < ds.length:=by omega
   exact Tim.wpS_ltP (nz i a2) (nz (i - 1) a3) (v:=false) (jfx (s:={ s with heap:=h2 }) hA (hZ (i - 1) a3) (hZ i a2) (DU.mp BN (i - 1) i a3 a2 (by omega)) ⟨rfl,rfl⟩) q'
  obtain⟨⟨⟩,bM⟩:=o
  obtain⟨rfl,b1,b2⟩:=J
  dsimp only at b1 b2 |-
  rw[b1,AE]
  refine ae (IQ dW rfl (ae (IR dW rfl ?_ (bA _) ?_)))
  .rw[b2]
   simp only[bne_self_eq_false,sL,if_false]
   refine aq ?_
   have g:=h
   unfold IM at g
   rw[hh]at g
   exact g
  .rw[hsz]
   omega
end
def JY(d:List D)(ds:List Int):List D:=ds.map fun i=>.tup [.tup d,.int i]
theorem KA{X:Cx}{n:Nat}(hu:X.A.units+4+n < cLine):qX X (.builtin "sorted") (fun xs H Q=>∃(p:aa) (qs:List V) (d:List D) (ds:List Int),xs=[.ref p]/\H p=some (.lst qs)/\D.depthL d<=n/\(2<=qs.length->HeldL H (JY d ds) qs)/\ds.Pairwise (· < ·)/\qs.length<=1000/\
  ∀(l:aa),H l=none->Q (.ref l) (upd H l (.lst qs))):=by
 intro ac s σ H xs us Q I r h
 obtain⟨b,qs,d,ds,rfl,hq,hd,hp,BN,most,q⟩:=h
 obtain⟨u,rfl,rx⟩:=yP r
 cases rx
 obtain⟨its,rv,pl,hz⟩:=I.list (SqL.of (K:=X.K) hq)
 have fi:=rv.length
 have hl:2<=its.length->its.length=ds.length:=fun h=>by
  have:=(hp (by omega)).length;unfold JY at this;rw[aC]at this;omega
 have hv:2<=its.length->∀i (h:i < ds.length),FlatAt s.heap d (its.getD i Value.none) ds[i]:=fun h2 i hi=>by
  obtain⟨v,e1,hv⟩:=(hp (by omega)).get (j:=i) (d:=.tup [.tup d,.int ds[i]]) (by unfold JY;rw[bU,aI hi];rfl);obtain⟨u,e3,e4⟩:=rv.get e1;have ht:=jaf I hv e4;unfold TrAt at ht;obtain⟨a,aS,rfl,⟨o,z1,z2,m,z3⟩,hL⟩:=ht;unfold TrAtL at hL;obtain⟨u1,r1,h1,h2,h3⟩:=hL;unfold TrAtL at h3;obtain⟨u2,r2,h4,h5,h6⟩:=h3;unfold TrAtL at h6;unfold TrAt at h5;obtain⟨t,rfl⟩:=h5;subst h6 h4;have:aS=#[u1,.int ds[i] t]:=by
   apply Lr.mp;rw[h1]
  subst this;exact⟨a,o,u1,t,m,by rw[sI,e3];rfl,z1,z2,z3,h2⟩
 refine RV kind_sorted plain_sorted entry_sorted (args_sorted1 _) ?_
 unfold Builtin.«sorted»
 refine ae (m:=checkCount "sorted" 1 1 _) (aq (ae (collect_list pl.isList (ae (GQ ?_ ?_)) ?_)))
 .have bR:∀b o,s.heap.get? b=some o->((s.heap.push (dw "list" #[] 0)).update s.heap.objs.size (dF (·++its.toArray))).get? b=some o:=fun b o e=>by
   rw[Ij _ _ _ _ (aT (aL e))];exact aQ _ e
  generalize ((s.heap.push (dw "list" #[] 0)).update s.heap.objs.size (dF (·++its.toArray)))=h1 at *;have I1:Inv X ac σ H { s with heap:=h1 }:=I.kept (t':=s.toks) bR;have gL:(h1.push (dw "list" its.toArray 0)).get? h1.objs.size=some (dw "list" its.toArray 0):=bV _ rfl;refine ae (dr (iA slot_list_sort ⟨_,gL,rfl⟩ entry_list_sort (jc1 (d:=d) (ds:=ds) (s:={ s with heap:=h1.push (dw "list" its.toArray 0) }) gL hl (fun h2 i hi=>(hv h2 i hi).kept fun b o e _=>aQ _ (bR b o e)) BN (by omega) (by show X.A.units+1+1+_ < _;omega) ⟨_,rfl,?_⟩) (args_list_sort _)));refine aq ⟨_,rfl,?_⟩;obtain⟨e,he⟩:=sortedHeap_at (out:=its.toArray) gL;refine⟨.ref _,_,I1.laid (t':=s.toks) (fun b o hb=>?_) (aB _) (show ObjOk X.prog X.w _ _ _ (.lst qs) from⟨hz,_,e,rv,he⟩),rfl,q _ (I1.hok.fresh (aB _))⟩;have a_:=aL hb;rw[sortedHeap_old (aT a_) (by rw[IP];exact sq a_)];exact aQ _ hb
 .exact aU (by omega) Kq
 .exact aU (by omega) Kq
end L2
namespace LW
open PySem L2
abbrev qu:aA:=JU (top 14) 0
abbrev q8:aA:=top 17
abbrev Je:aA:=top 18
structure Ini(H:Hp)(b C dx:aa)(fs:List (Str×V))(os:List (Prod aa HO))(G:Hp):Prop where
 hb:G b=some (.ins C dx fs)
 k:∀a o,a≠b->H a=some o->G a=some o
 o:∀p∈os,G p.1=some p.2/\H p.1=none
 ne:∀p∈os,p.1≠b
 nd:(os.map (·.1)).Nodup
 f:∀a,G a=none->H a=none
theorem Ini.step{H:Hp}{b C dx:aa}{fs:List (Str×V)}{os:List (Prod aa HO)}{G:Hp}(I:Ini H b C dx fs os G){p:aa}(hp:G p=none)(o:HO)(io:List (Str×V)):Ini H b C dx io (os++[(p,o)]) (upd (upd G p o) b (.ins C dx io)):=by
 have pb:p≠b:=(jh I.hb hp).symm;refine⟨jb,fun a u bI ha=>?_,fun q hq=>?_,fun q hq=>?_,?_,fun a ha=>?_⟩
 .rw[jp bI,jp (jh (I.k a u bI ha) hp)]
  exact I.k a u bI ha
 .rcases bB.mp hq with hq | hq
  .obtain⟨h1,h2⟩:=I.o q hq
   exact⟨by rw[jp (I.ne q hq),jp (jh h1 hp)];exact h1,h2⟩
  .cases bf.mp hq
   exact⟨by rw[jp pb,jb],I.f _ hp⟩
 .rcases bB.mp hq with hq | hq
  .exact I.ne q hq
  .cases bf.mp hq
   exact pb
 .rw[bh,g5]
  refine⟨I.nd,by simp,fun x hx y hy=>?_⟩
  cases bf.mp hy
  obtain⟨q,q1,rfl⟩:=ck.mp hx;exact jh (I.o q q1).1 hp
 .by_cases z:a=b
  .rw[z,jb]at ha;cases ha
  .rw[jp z]at ha
   by_cases y:a=p
   .rw[y];exact I.f _ hp
   .rw[jp y]at ha;exact I.f _ ha
theorem jgx{l:List aa}{i:Nat}{d:aa}(h:i < l.length):l.getD i d∈l:=by
 rw[sI,aI h];exact gD h
theorem jgq{l:List aa}{i j:Nat}{d:aa}(n:l.Nodup)(hi:i < l.length)(hj:j < l.length)(e:l.getD i d=l.getD j d):i=j:=by
 rw[sI,aI hi,sI,aI hj]at e;exact (S3 n).mp e
def ji5(A:CA)(H:Hp):Prop:=H A.nu=none/\H A.ve=none/\H A.na=none/\∀i,i < 6->H (A.l i)=none
inductive spCase(C:aa)(vs:List V)(H:Hp)(Q:VK)(E:XK):Prop
 | mk (b dx:aa) (_:vs=[.ref b]) (_:H b=some (.ins C dx [])) (_:∀A H',A.o=b->(∀a o,a≠b->H a=some o->H' a=some o)->ji5 A H->CsAt C 0 A Cs.none H'->Q .non H')
section
variable {P:az}{w:ax}{K:av}{mg:Str->Option ad}{base:au}{C:aa}
theorem jgl{f:aa}{fd:aD}(T:ClsC K C)(F:Fun K "__init__" "Case.__init__" qu f fd):FnOk P w K mg base CX0 1 f fd ["self"] (spCase C):=by
 have sc:FnScope ["self"] ["self"] (ji qu):=fQ;refine F.okZ sc (fun ay A outer s H vs Q E hr h=>?_);obtain⟨b,dx,rfl,hb,q⟩:=h;refine⟨_,(ja (kb (zpv 0) ye rfl)
   (ja (kb (zpv 0) ye rfl)
   (ja (kb (zpv 0) ye rfl)
   (ja (kb (zpv 0) (jK jc) rfl)
   (ja (kb (zpv 0) (jK jc) rfl)
   (ja (kb (zpv 0) (jK jc) rfl)
   (ja (kb (zpv 0) (jK jc) rfl)
   (ja (kb (zpv 0) (jK jc) rfl)
   (jf (kb (zpv 0) (jK jc) rfl)))))))))),?_⟩
 refine jV (σ':=[some (.ref b)]) rfl ?_
 try dsimp only[j5]
 refine jgQ ?_;intro _ _ _ _ _ _ _ _;have I0:Ini H b C dx [] [] H:=⟨hb,fun _ _ _ e=>e,fun _ h=>(nomatch h),fun _ h=>(nomatch h),fO,fun _ e=>e⟩
 refine fun p1 h1=>⟨_,rfl,b,C,dx,_,rfl,jk (jh I0.hb h1) I0.hb,T.c,T.n1,by show 0 < 1000;decide,?_⟩
 have I1:=I0.step h1 (.dK []) [("numbers",.ref p1)];refine (?_:jO _ _ _ _ (upd (upd H p1 (.dK [])) b (.ins C dx [("numbers",.ref p1)])));generalize upd (upd H p1 (.dK [])) b (.ins C dx [("numbers",.ref p1)])=G1 at *;refine fun p2 h2=>⟨_,rfl,b,C,dx,_,rfl,jk (jh I1.hb h2) I1.hb,T.c,T.n2,by show 1 < 1000;decide,?_⟩
 have I2:=I1.step h2 (.dK []) [("numbers",.ref p1),("versions",.ref p2)];refine (?_:jO _ _ _ _ (upd (upd G1 p2 (.dK [])) b (.ins C dx [("numbers",.ref p1),("versions",.ref p2)])));generalize upd (upd G1 p2 (.dK [])) b (.ins C dx [("numbers",.ref p1),("versions",.ref p2)])=G2 at *;refine fun p3 h3=>⟨_,rfl,b,C,dx,_,rfl,jk (jh I2.hb h3) I2.hb,T.c,T.n3,by show 2 < 1000;decide,?_⟩
 have I3:=I2.step h3 (.dK []) [("numbers",.ref p1),("versions",.ref p2),("named",.ref p3)];refine (?_:jO _ _ _ _ (upd (upd G2 p3 (.dK [])) b (.ins C dx [("numbers",.ref p1),("versions",.ref p2),("named",.ref p3)])));generalize upd (upd G2 p3 (.dK [])) b (.ins C dx [("numbers",.ref p1),("versions",.ref p2),("named",.ref p3)])=G3 at *;refine⟨sm rfl,fun p4 h4=>⟨_,rfl,b,C,dx,_,rfl,jk (jh I3.hb h4) I3.hb,T.c,T.n4,by show 3 < 1000;decide,?_⟩⟩;have I4:=I3.step h4 (.lst []) [("numbers",.ref p1),("versions",.ref p2),("named",.ref p3),("lost",.ref p4)];refine (?_:jO _ _ _ _ (upd (upd G3 p4 (.lst [])) b (.ins C dx [("numbers",.ref p1),("versions",.ref p2),("named",.ref p3),("lost",.ref p4)])));generalize upd (upd G3 p4 (.lst [])) b (.ins C dx [("numbers",.ref p1),("versions",.ref p2),("named",.ref p3),("lost",.ref p4)])=G4 at *;refine⟨sm rfl,fun p5 h5=>⟨_,rfl,b,C,dx,_,rfl,jk (jh I4.hb h5) I4.hb,T.c,T.n5,by show 4 < 1000;decide,?_⟩⟩;have I5:=I4.step h5 (.lst []) [("numbers",.ref p1),("versions",.ref p2),("named",.ref p3),("lost",.ref p4),("ties",.ref p5)];refine (?_:jO _ _ _ _ (upd (upd G4 p5 (.lst [])) b (.ins C dx [("numbers",.ref p1),("versions",.ref p2),("named",.ref p3),("lost",.ref p4),("ties",.ref p5)])));generalize upd (upd G4 p5 (.lst [])) b (.ins C dx [("numbers",.ref p1),("versions",.ref p2),("named",.ref p3),("lost",.ref p4),("ties",.ref p5)])=G5 at *;refine⟨sm rfl,fun p6 h6=>⟨_,rfl,b,C,dx,_,rfl,jk (jh I5.hb h6) I5.hb,T.c,T.n6,by show 5 < 1000;decide,?_⟩⟩;have I6:=I5.step h6 (.lst []) [("numbers",.ref p1),("versions",.ref p2),("named",.ref p3),("lost",.ref p4),("ties",.ref p5),("spots",.ref p6)];refine (?_:jO _ _ _ _ (upd (upd G5 p6 (.lst [])) b (.ins C dx [("numbers",.ref p1),("versions",.ref p2),("named",.ref p3),("lost",.ref p4),("ties",.ref p5),("spots",.ref p6)])));generalize upd (upd G5 p6 (.lst [])) b (.ins C dx [("numbers",.ref p1),("versions",.ref p2),("named",.ref p3),("lost",.ref p4),("ties",.ref p5),("spots",.ref p6)])=G6 at *;refine⟨sm rfl,fun p7 h7=>⟨_,rfl,b,C,dx,_,rfl,jk (jh I6.hb h7) I6.hb,T.c,T.n7,by show 6 < 1000;decide,?_⟩⟩;have I7:=I6.step h7 (.lst []) [("numbers",.ref p1),("versions",.ref p2),("named",.ref p3),("lost",.ref p4),("ties",.ref p5),("spots",.ref p6),("puts",.ref p7)];refine (?_:jO _ _ _ _ (upd (upd G6 p7 (.lst [])) b (.ins C dx [("numbers",.ref p1),("versions",.ref p2),("named",.ref p3),("lost",.ref p4),("ties",.ref p5),("spots",.ref p6),("puts",.ref p7)])));generalize upd (upd G6 p7 (.lst [])) b (.ins C dx [("numbers",.ref p1),("versions",.ref p2),("named",.ref p3),("lost",.ref p4),("ties",.ref p5),("spots",.ref p6),("puts",.ref p7)])=G7 at *;refine⟨sm rfl,fun p8 h8=>⟨_,rfl,b,C,dx,_,rfl,jk (jh I7.hb h8) I7.hb,T.c,T.n8,by show 7 < 1000;decide,?_⟩⟩;have I8:=I7.step h8 (.lst []) [("numbers",.ref p1),("versions",.ref p2),("named",.ref p3),("lost",.ref p4),("ties",.ref p5),("spots",.ref p6),("puts",.ref p7),("eaches",.ref p8)];rw[show qW "eaches" (V.ref p8) [("numbers",V.ref p1),("versions",V.ref p2),("named",V.ref p3),("lost",V.ref p4),("ties",V.ref p5),("spots",V.ref p6),("puts",V.ref p7)]=([("numbers",V.ref p1),("versions",V.ref p2),("named",V.ref p3),("lost",V.ref p4),("ties",V.ref p5),("spots",V.ref p6),("puts",V.ref p7),("eaches",V.ref p8)]:List (Str×V)) from rfl];generalize upd (upd G7 p8 (.lst [])) b (.ins C dx [("numbers",.ref p1),("versions",.ref p2),("named",.ref p3),("lost",.ref p4),("ties",.ref p5),("spots",.ref p6),("puts",.ref p7),("eaches",.ref p8)])=G8 at *;refine⟨sm rfl,fun p9 h9=>⟨_,rfl,b,C,dx,_,rfl,jk (jh I8.hb h9) I8.hb,T.c,T.n9,by show 8 < 1000;decide,?_⟩⟩;have I9:=I8.step h9 (.lst []) [("numbers",.ref p1),("versions",.ref p2),("named",.ref p3),("lost",.ref p4),("ties",.ref p5),("spots",.ref p6),("puts",.ref p7),("eaches",.ref p8),("rises",.ref p9)];rw[show qW "rises" (V.ref p9) [("numbers",V.ref p1),("versions",V.ref p2),("named",V.ref p3),("lost",V.ref p4),("ties",V.ref p5),("spots",V.ref p6),("puts",V.ref p7),("eaches",V.ref p8)]=([("numbers",V.ref p1),("versions",V.ref p2),("named",V.ref p3),("lost",V.ref p4),("ties",V.ref p5),("spots",V.ref p6),("puts",V.ref p7),("eaches",V.ref p8),("rises",V.ref p9)]:List (Str×V)) from rfl];generalize upd (upd G8 p9 (.lst [])) b (.ins C dx _)=G9 at *;have hd:∀p∈[p1,p2,p3],G9 p=some (.dK [])/\H p=none:=fun p hp=>I9.o (p,.dK []) (by simp at hp |-;exact hp)
 have hl:∀p∈[p4,p5,p6,p7,p8,p9],G9 p=some (.lst [])/\H p=none:=fun p hp=>I9.o (p,.lst []) (by simp at hp |-;exact hp)
 have nd:=I9.nd;simp only[bh,bE,oy,lB,bW]at nd;have n6:[p4,p5,p6,p7,p8,p9].Nodup:=((cW.mp (cW.mp (cW.mp nd).2).2).2)
 have g:∀i,i < 6->[p4,p5,p6,p7,p8,p9].getD i p9∈[p4,p5,p6,p7,p8,p9]:=fun i hi=>jgx hi
 have z:∀f:Str->Option D,(∀x,f x=none)->∀p∈[p1,p2,p3],DAt 0 f G9 p:=fun f hf p hp=>⟨[],(hd p hp).1,aB _,fun x=>⟨fun _=>rfl,fun d e=>by rw[hf x]at e;cases e⟩⟩
 have m1:p1∈[p1,p2,p3]:=by simp
 have m2:p2∈[p1,p2,p3]:=by simp
 have m3:p3∈[p1,p2,p3]:=by simp
 refine q ⟨b,dx,p1,p2,p3,fun i=>[p4,p5,p6,p7,p8,p9].getD i p9⟩ G9 rfl I9.k ⟨(hd _ m1).2,(hd _ m2).2,(hd _ m3).2,fun i hi=>(hl _ (g i hi)).2⟩ ⟨I9.hb,?_,?_,?_,fun i j hi hj e=>jgq n6 hi hj e,z _ (fun _=>rfl) _ m1,z _ (fun _=>rfl) _ m2,⟨[],(hd _ m3).1,aB _,rfl⟩,fun i hi=>⟨[],(hl _ (g i hi)).1,jx,aB _⟩⟩
 .exact fun e=>(cW.mp nd).1 (by rw[show p1=p2 from e];simp)
 .exact fun e=>(cW.mp nd).1 (by rw[show p1=p3 from e];simp)
 .exact fun e=>(cW.mp (cW.mp nd).2).1 (by rw[show p2=p3 from e];simp)
end
end LW
namespace L2
open PySem PySem.Spec PyProof.Rows PySem.W PySem.Builtin PySem.Builtin.Str
section
variable {X:Cx}
def jhM(K:av)(ta:TE):TT:=fun σ H Q=>ta σ H fun x H'=>∃k,jhF K x H' k/\Q k H'
theorem jdR{a:aj}{ta:TE}(ha:QE X a ta)(he:∀lF,isTrue a X.env lF=(do let v <- lF;j_ a.pos;holding [v] (truthy v)):=by intro _;rfl):QT X a (jhM X.K ta):=⟨by
 intro ac s σ H Q I h;exact isTrue_plain (thn (ha.h ac s σ H _ I h) fun v s1 ⟨x,H1,I1,r1,q1⟩=>jgV ac s1 σ H1 x v Q I1 r1 q1) (he _)⟩
theorem jhK{K:av}{H:Hp}{a:aa}{xs:List V}(h:H a=some (.lst xs)):jhF K (.ref a) H (!xs.isEmpty):=.inl ⟨xs,SqL.of h,rfl⟩
theorem jb9{k k':Nat}{x:Str}{C:aa}{ps:List Str}{sp:Sp}{p pos:Pos}(F:MkFn X.prog X.w X.K X.mg X.base k x C ps sp)(hr:Room k' X.A)(hk:k+1<=k':=by decide)(hg:Gl X x:=by rfl)(hd:(x == ("__debug__" : Str))=false:=by decide):QE X (.Call (.Name x p) [] [] pos) (Ze C sp [] E0 jbx):=by
 obtain⟨f,fd,M,G,b,m⟩:=F.ex;exact⟨jez M G (hr.mono hk) hg m b .nil jeF hd⟩
end
end L2
namespace LW
open PySem L2
inductive spOnce(vs:List V)(H:Hp)(Q:VK)(E:XK):Prop
 | mk (a:aa) (xs:List V) (d:List D) (ds:List Int) (_:vs=[.ref a]) (_:H a=some (.lst xs)) (_:D.depthL d<=180) (_:2<=xs.length->HeldL H (JY d ds) xs) (_:ds.Pairwise (· < ·)) (_:xs.length<=1000) (_:∀l H',Same H H'->H l=none->H' l=some (.lst xs)->Q (.ref l) H')
variable {f:aa}{fd:aD}
section
variable {P:az}{w:ax}{K:av}{mg:Str->Option ad}{base:au}
theorem jgc(F:Fun K "each_once" "each_once" q8 f fd)(B:Free0 mg):FnOk P w K mg base CX0 14 f fd ["things"] spOnce:=by
 have sc:FnScope ["things","told","thing"] ["things"] (ji q8):=fQ;refine F.okZ sc (fun ay A outer s H vs Q E hr h=>?_);have lO:(A.deeper (gB "each_once" (ji q8) s.heap.objs.size f ay)).units+4+180 < cLine:=by have:=hr.un;omega
 have pC:(A.deeper (gB "each_once" (ji q8) s.heap.objs.size f ay)).units+1+182 < cLine:=by omega
 obtain⟨a,xs,d,ds,rfl,ha,hd,hf,hp,hl,q⟩:=h;refine⟨_,(ja (jt (i:=1) sc.nd rfl oQ (jK jc))
   (ja (jW cb rfl (jR (qa (KA (n:=180) lO) (by rfl) B.sorted_ ZF (jd (zpv 0) jc))) (jj (i:=2) sc.nd rfl oQ) (jf (jQ (jbq (jb7 (jdR (zpv 1))) (ZM (jw (Z7 182 pC) (jz qx (zpv 1) (jgR jgU jl) (fun _ _=>rfl)) (zpv 2) (jF _)))).pt (jf (j7 (ql dL iJ iI kE (zpv 1) (jd (zpv 2) jc)))) jC)))
   (jf (jr (zpv 1))))),?_⟩
 refine jV (σ':=[some (.ref a),none,none]) rfl ?_
 try dsimp only[j5]
 refine zI ?_;intro _ _;refine⟨sm rfl,fun l0 h0=>?_⟩;refine gQ ?_;have s1:=je h0 (.lst []);have e1:upd H l0 (.lst []) l0=some (.lst []):=jb;generalize upd H l0 (.lst [])=H1 at *;refine⟨_,rfl,a,xs,d,ds,rfl,s1 _ _ ha,hd,fun h2=>(hf h2).mono s1,hp,hl,fun ls FE=>?_⟩;have s2:=je FE (.lst xs);have e2:upd H1 ls (.lst xs) ls=some (.lst xs):=jb;generalize upd H1 ls (.lst xs)=H2 at *;have n1:l0≠ls:=jh e1 FE;have Oa:2<=xs.length->HeldL H2 (JY d ds) xs:=fun h2=>((hf h2).mono s1).mono s2
 refine⟨ls,rfl,⟨_,SqL.of e2⟩,?_⟩;let Pv:Nat->St->Hp->Prop:=fun i σ G=>∃u,σ=[some (.ref a),some (.ref l0),u]/\(∀b o,b≠l0->H2 b=some o->G b=some o)/\G l0=some (.lst (xs.take i))
 refine kn (xs:=xs) Pv ⟨none,rfl,fun _ _ _ e=>e,s2 _ _ e1⟩ ?_ ?_ ?_
 .rintro i σ G _ ⟨u,rfl,k,_⟩
  exact SqL.of (k _ _ n1.symm e2)
 .rintro i x σ G hx ⟨u,rfl,k,hT⟩
  have hi:i < xs.length:=(aY.mp hx).1;refine y7 ?_;intro _;refine gQ ?_;have et:xs.take (i+1)=xs.take i++[x]:=by rw[cE,hx];rfl
  have OA:(xs.take i).length<=1000:=by rw[cM];omega
  have app:(jgK (tBM K "list" jck (jcY 1) (jcc (jcY 2) jbx))) { nx:=Pv (i+1),rt:=Q,ct:=Pv (i+1),bk:=jhQ (jcY 1) { nx:=fun x H'=>Q V.non H',rt:=Q } } [some (.ref a),some (.ref l0),some x] G:=by
   refine⟨_,rfl,.inl ⟨rfl,_,SqL.of hT⟩,_,rfl,l0,_,_,rfl,rfl,hT,jS OA,⟨_,rfl,fun b o hb eb=>jk hb (k b o hb eb),?_⟩⟩;rw[jb,et]
  rcases DQ i with rfl | h1
  .exact⟨_,rfl,_,jhK hT,kY (kY app)⟩
  .obtain⟨j,rfl⟩:∃j,i=j+1:=⟨i - 1,by omega⟩
   have hh:=Oa (by omega);have mT:=(show TK H2 G from fun b xs e=>k b _ (jN e (s2 _ _ e1) (by intro z;cases z)) e).heldL hh;have hlen:ds.length=xs.length:=by have:=hh.length;unfold JY at this;rw[aC]at this;exact this
   have at_:∀m (hm:m < xs.length),∃b ys,xs[m]=.ref b/\G b=some (.tup ys)/\HeldL G [.tup d,.int (ds[m]'(by omega+splitNatSub))] ys:=fun m hm=>by
    obtain⟨v,e,hv⟩:=mT.get (j:=m) (d:=.tup [.tup d,.int (ds[m]'(by omega+splitNatSub))]) (by unfold JY;rw[bU,aI (by omega)];rfl);obtain⟨b,ys,rfl,h1,h2⟩:=js hv;rw[aI hm]at e;exact⟨b,ys,bZ e,h1,h2⟩
   obtain⟨b1,y1,f1,g1,k1⟩:=at_ j (by omega);obtain⟨b2,y2,f2,g2,k2⟩:=at_ (j+1) hi;have ex:x=.ref b2:=by rw[aI hi]at hx;exact (bZ hx).symm.trans f2
   have F8:G l0=some (.lst (xs.take j++[.ref b1])):=by rw[hT,cE,aI (by omega),f1];rfl
   have zt:=jhK (K:=K) F8;rw[show (!(xs.take j++[V.ref b1]).isEmpty)=true by simp]at zt;refine⟨_,rfl,true,zt,yj ?_⟩;refine⟨_,rfl,1,rfl,l0,_,-1,.ref b1,rfl,rfl,SqL.of F8,jfw _ _,_,rfl,b1,b2,y1,y2,[.tup d,.int (ds[j]'(by omega+splitNatSub))],[.tup d,.int (ds[j+1]'(by omega+splitNatSub))],rfl,ex,g1,g2,?_,k1,k2,_,rfl,?_⟩
   .show max (D.depthL d+1) (max 0 0)<=182
    omega
   .rw[Ts (show ¬[D.tup d,.int (ds[j]'(by omega+splitNatSub))]=[D.tup d,.int (ds[j+1]'(by omega+splitNatSub))] from fun z=>by
     injection z with _ z;injection z with z;injection z with z;have:=DU.mp hp j (j+1) (by omega) (by omega) (by omega);omega)]
    exact kY app
 .rintro σ G ⟨u,rfl,k,hT⟩
  refine⟨_,rfl,?_⟩;rw[cV]at hT;exact q l0 G (fun b o e=>k b o (jh e h0) (s2 _ _ (s1 _ _ e))) h0 hT
end
abbrev Yk:aA:=top 16
theorem jc4(R:List Rw)(r:Rw):∀(c:Cs) (n:Nat),c.rows (R++[r]) n=(c.rows R n).take (n+R.length) r:=by
 induction R with
 | nil=>intro c n;rfl
 | cons q R ih=>
  intro c n;show (c.take n q).rows (R++[r]) (n+1)=((c.take n q).rows R (n+1)).take (n+(R.length+1)) r;rw[ih,show n+1+R.length=n+(R.length+1) by omega]
def qj(R:List Rw)(k:Cl):Cs:=(Cs.none.rows R 0).deny k
theorem zn{H:Hp}:∀{ds:List D} {xs:List V} {i:Nat} {d:D} {x:V},HeldL H ds xs->ds[i]?=some d->xs[i]?=some x->Held H d x
 | [],_,i,_,_,_,e,_=>by simp at e
 | d :: ds,_,i,_,_,h,e,f=>by
  obtain⟨v,r,rfl,h1,h2⟩:=jg h
  cases i with
  | zero=>cases e;cases f;exact h1
  | succ i=>exact zn h2 e f
theorem JQ{H:Hp}{Q:VK}{E:XK}{a:aa}{ds:List D}{xs:List V}{d:List D}{is:List Int}(ha:H a=some (.lst xs))(hx:HeldL H ds xs)(hd:D.depthL d<=180)(hf:2<=ds.length->ds=JY d is)(hp:is.Pairwise (· < ·))(hl:ds.length<=1000)(q:∀l ys H',Same H H'->H l=none->H' l=some (.lst ys)->HeldL H' ds ys->Q (.ref l) H'):spOnce [.ref a] H Q E:=
 ⟨a,xs,d,is,rfl,ha,hd,fun h2=>by rw[<- hf (by rw[hx.length];exact h2)];exact hx,hp,by rw[<- hx.length];exact hl,fun l H' s n e=>q l xs H' s n e (hx.mono s)⟩
structure CaseOk(R:List Rw)(k:Cl):Prop where
 r:∀r∈R,∃x t c,r=Rw.set x t c
 g:∃a b c,k=Cl.least a b c
 sp:∃s is,(qj R k).l 2=JY s is/\D.depthL s<=180/\is.Pairwise (· < ·)
 l4:(qj R k).l 4=[]
 l5:(qj R k).l 5=[]
def jaq(H:Hp)(a:aa)(R:List Rw)(k:Cl)(v:V):Prop:=(∃rs,H a=some (.lst rs)/\HeldL H (R.map Rw.toD) rs)/\R.length<=12/\Held H k.toD v
inductive spGath(C:aa)(vs:List V)(H:Hp)(Q:VK)(E:XK):Prop
 | mk (a:aa) (R:List Rw) (k:Cl) (v:V) (_:vs=[.ref a,v]) (_:jaq H a R k v) (_:CaseOk R k) (_:∀(A:CA) (H':Hp),Same H H'->CsAt C (8 * R.length+10) A (qj R k) H'->Q (.ref A.o) H')
inductive spWidth(vs:List V)(H:Hp)(Q:VK)(E:XK):Prop
 | mk (a:aa) (R:List Rw) (k:Cl) (v:V) (_:vs=[.ref a,v]) (_:jaq H a R k v) (_:CaseOk R k) (_:∀(H':Hp),Same H H'->Q (.int (((qj R k).l 2).length:Nat)) H')
section
variable {P:az}{w:ax}{K:av}{mg:Str->Option ad}{base:au}{C:aa}
theorem jgi(T:ClsC K C)(F:Fun K "gathered" "gathered" Je f fd)(B:Free0 mg)(bJ:mg "enumerate" = none)(B8:MkFn P w K mg base 1 "Case" C ["self"] (spCase C))(Cb:Fn P w K mg base 6 "take_row" ["case","n","row"] (spTake C))(CL:Fn P w K mg base 5 "deny" ["case","goal"] (spDeny C))(gU:Fn P w K mg base 14 "each_once" ["things"] spOnce):FnOk P w K mg base CX0 15 f fd ["rows","goal"] (spGath C):=by
 have sc:FnScope ["rows","goal","case","n","row"] ["rows","goal"] (ji Je):=fQ;refine F.okZ sc (fun ay A outer s H vs Q E hr h=>?_);obtain⟨a,R,k,v,rfl,⟨⟨rs,ha,fh⟩,hl,hv⟩,ok,q⟩:=h;obtain⟨ga,gb,gc,rfl⟩:=ok.g;obtain⟨sd,si,Aw,Ax,cQ⟩:=ok.sp;generalize hk:Cl.least ga gb gc=k at *;refine⟨_,(ja (jt (i:=2) sc.nd rfl oQ (jb9 B8 hr))
   (ja (jW cb rfl (zD (by rfl) bJ (jd (zpv 0) jc)) (jX rfl (jm (jj (i:=3) sc.nd rfl oQ) (jm (jj (i:=4) sc.nd rfl oQ) jJ))) (jf (j7 (jD Cb hr (jd (zpv 2) (jd (zpv 3) (jd (zpv 4) jc)))))))
   (ja (j7 (jD CL hr (jd (zpv 2) (jd (zpv 1) jc))))
   (ja (kb (zpv 2) (jD gU hr (jd (jL (zpv 2) rfl) jc)) rfl)
   (jf (jr (zpv 2))))))),?_⟩
 refine jV (σ':=[some (.ref a),some v,none,none,none]) rfl ?_
 try dsimp only[j5]
 refine YD ?_;intro r4 r3 r2 r1;refine (fun x dx hx tT aW=>⟨x,dx,rfl,jb,fun B0 H2 eo k2 hn I2=>⟨rfl,?_⟩⟩);subst eo;have fresh:∀b,upd (upd H dx (.own B0.o)) B0.o (.ins C dx []) b=none->H b=none:=fun b hb=>by
  by_cases z:b=B0.o
  .rw[z,jb]at hb;cases hb
  by_cases z2:b=dx
  .rw[jp z,z2,jb]at hb;cases hb
  .rw[jp z,jp z2]at hb;exact hb
 have s2:Same H H2:=fun b o e=>k2 _ _ (jh e hx) (by rw[jp (jh e hx),jp (jh e tT)];exact e)
 obtain⟨n1,n2,n3,n4⟩:=hn;have tj:∀{G:Hp},Mv B0 H2 G->Same H G:=fun m b o e=>m b o (fun z=>by rw[z,fresh _ n1]at e;cases e) (fun z=>by rw[z,fresh _ n2]at e;cases e) (fun z=>by rw[z,fresh _ n3]at e;cases e) (fun i hi z=>by rw[z,fresh _ (n4 i hi)]at e;cases e) (s2 b o e)
 have l2n:=fresh _ (n4 2 (by decide));clear fresh tT aW k2 n1 n2 n3 n4;refine gQ ?_;have iR:=fh.length;rw[aC]at iR;let Pv:Nat->St->Hp->Prop:=fun i σ G=>∃u3 u4,σ=[some (.ref a),some v,some (.ref B0.o),u3,u4]/\Mv B0 H2 G/\CsAt C (8 * i) B0 (Cs.none.rows (R.take i) 0) G
 refine⟨_,rfl,a,rfl,⟨_,SqL.of (s2 _ _ ha)⟩,?_⟩;refine y9 (xs:=rs) Pv ⟨none,none,rfl,.same (fun _ _ e=>e),I2⟩ ?_ ?_ ?_
 .rintro i σ G _ ⟨u3,u4,rfl,m,_⟩
  exact SqL.of (tj m _ _ ha)
 .rintro i y σ G t hy ⟨u3,u4,rfl,m,I⟩ ht
  have hi:i < R.length:=by rw[iR];exact (aY.mp hy).1
  have gI:Held H R[i].toD y:=zn fh (by rw[bU,aI hi];rfl) hy;obtain⟨x0,t0,c0,tM⟩:=ok.r _ (gD hi);have s3:=je ht (.tup [.int i,y]);have e3:upd G t (.tup [.int i,y]) t=some (.tup [.int i,y]):=jb;have I':=I.same s3;generalize upd G t (.tup [.int i,y])=G1 at *;refine y7 ?_;intro _;refine⟨t,_,rfl,SqT.of e3,rfl,_,_,rfl,_,_,rfl,rfl,?_⟩;refine jV (σ':=[some (.ref a),some v,some (.ref B0.o),some (.int i),some y]) rfl ?_;refine⟨_,rfl,_,rfl,_,rfl,8 * i,B0,_,i,x0,t0,c0,y,rfl,I',by omega,by rw[<- tM];exact (gI.mono (tj m)).mono s3,fun G2 m2 I2=>⟨_,_,rfl,m.trans ((Mv.same s3).trans m2),?_⟩⟩;rw[cE,aI hi];show CsAt C (8 * (i+1)) B0 (Cs.none.rows (R.take i++[R[i]]) 0) G2;rw[tM,jc4,cM,ow (cP hi),mI];exact I2.mono (by omega)
 .rintro σ G ⟨u3,u4,rfl,m,I⟩
  rw[<- iR,cV]at I;have sG:=tj m;refine⟨_,rfl,_,rfl,8 * R.length,B0,_,ga,gb,gc,v,rfl,I,by omega,by rw[hk];exact hv.mono sG,fun G1 m1 I1=>?_⟩;rw[hk]at I1;have I1:CsAt C (8 * R.length+10) B0 (qj R k) G1:=I1;obtain⟨xs,l1,l2,l3⟩:=I1.l 2 (by decide);have l4:=l2.length;refine⟨_,rfl,B0.o,C,B0.dx,_,_,rfl,I1.o,T.c,T.n6,rfl,JQ l1 l2 Ax (fun _=>Aw) cQ (by omega) fun lo ys G2 g2 dH bS cI=>?_⟩;have I3:=I1.same g2;refine⟨_,rfl,B0.o,C,B0.dx,_,rfl,I3.o,T.c,T.n6,by show 9 < 1000;decide,?_⟩;refine⟨_,rfl,q { B0 with l:=fun i=>if i=2 then lo else B0.l i } _ ?_ ?_⟩
  .exact fun b o e=>jk (jh e hx) (g2 _ _ (tj (m.trans m1) _ _ e))
  .have t4:TK G2 (upd G2 B0.o (.ins C B0.dx (qW "spots" (V.ref lo) (jiu B0)))):=fun b ys e=>jk (jN e I3.o (by intro z;cases z)) e
   have J:=I3.mono (show 8 * R.length+10<=8 * R.length+10 by omega);obtain⟨k1,h1,_⟩:=I3.nu;obtain⟨k2,h2,_⟩:=I3.ve;obtain⟨k3,h3,_⟩:=I3.na;have EV:∀j,j < 6->lo≠B0.l j:=fun j hj z=>by
    obtain⟨ys,y1,_⟩:=I1.l j hj;rw[z,y1]at dH
    cases dH
   refine⟨jb,I3.n1,I3.n2,I3.n3,fun i j hi hj e=>?_,J.nu.tk t4 fun o=>jk (jN h1 I3.o (by intro z;cases z)),J.ve.tk t4 fun o=>jk (jN h2 I3.o (by intro z;cases z)),J.na.tk fun o=>jk (jN h3 I3.o (by intro z;cases z)),fun i hi=>?_⟩
   .have e:(if i=2 then lo else B0.l i)=if j=2 then lo else B0.l j:=e
    by_cases a1:i=2
    .by_cases a2:j=2
     .rw[a1,a2]
     .rw[Tu a1,Tt a2]at e
      exact absurd e (EV j hj)
    .by_cases a2:j=2
     .rw[Tt a1,Tu a2]at e
      exact absurd e.symm (EV i hi)
     .rw[Tt a1,Tt a2]at e
      exact I3.inj i j hi hj e
   .show LAt (8 * R.length+10) ((qj R k).l i) _ (if i=2 then lo else B0.l i)
    by_cases a1:i=2
    .rw[Tu a1,a1]
     exact⟨_,jk (jN bS I3.o (by intro z;cases z)) bS,t4.heldL cI,by rw[<- cI.length];omega⟩
    .rw[Tt a1]
     obtain⟨ys',y1,_⟩:=I3.l i hi;exact (J.l i hi).tk t4 fun o=>jk (jN y1 I3.o (by intro z;cases z))
theorem jeJ(T:ClsC K C)(F:Fun K "width" "width" Yk f fd)(B:Free0 mg)(nP:Fn P w K mg base 15 "gathered" ["rows","goal"] (spGath C))(gU:Fn P w K mg base 14 "each_once" ["things"] spOnce):FnOk P w K mg base CX0 16 f fd ["rows","goal"] spWidth:=by
 have sc:FnScope ["rows","goal","case","ends"] ["rows","goal"] (ji Yk):=fQ;refine F.okZ sc (fun ay A outer s H vs Q E hr h=>?_);obtain⟨a,R,k,v,rfl,hg,ok,q⟩:=h;obtain⟨sd,si,Aw,Ax,cQ⟩:=ok.sp;refine⟨_,(ja (jt (i:=2) sc.nd rfl oQ (jD nP hr (jd (zpv 0) (jd (zpv 1) jc))))
   (ja (kZ (i:=3) sc.nd rfl oQ ["known"] [] rfl (j9 (sc:=ji Yk) (N:=["rows","goal","case","ends"]) rfl rfl (by decide +kernel)) (jR (jG kW (jL (zpv 2) rfl) (jL (zpv 2) rfl))) (fun s H ex=>⟨(jj (i:=0) (show bg (["known"]:List Str) by decide +kernel) rfl oQ),kf,(jz yB (zpv 0) jl (fun _ _=>rfl))⟩))
   (jf (jr (qa ko (by rfl) B.len_ yJ (jd (jD gU hr (jd (jG kW (jL (zpv 2) rfl) (zpv 3)) jc)) jc)))))),?_⟩
 refine jV (σ':=[some (.ref a),some v,none,none]) rfl ?_
 try dsimp only[j5]
 refine zI ?_;intro _ _;refine⟨_,rfl,_,rfl,a,R,k,v,rfl,hg,ok,fun A0 H1 s1 I=>?_⟩;refine gQ ?_;obtain⟨xs,l1,l2,l3⟩:=I.l 4 (by decide);obtain⟨ys,l4,l5,l6⟩:=I.l 5 (by decide);rw[ok.l4]at l2;rw[ok.l5]at l5
 cases jv l2
 cases jv l5
 refine⟨_,rfl,A0.o,C,A0.dx,_,_,rfl,I.o,T.c,T.n8,rfl,_,rfl,A0.o,C,A0.dx,_,_,rfl,I.o,T.c,T.n9,rfl,A0.l 4,A0.l 5,_,_,rfl,rfl,l1,l4,sm rfl,fun lc gh=>?_⟩;have s2:=je gh (.lst ([]++[]));have e2:upd H1 lc (.lst ([]++[])) lc=some (.lst []):=jb;generalize upd H1 lc (.lst ([]++[]))=H2 at *;refine⟨lc,rfl,⟨_,SqL.of e2⟩,fun p hp=>?_⟩;refine kU (xs:=[]) (fun i σ' G=>∃u,σ'=[u]/\G=upd H2 p (.lst [])) ⟨none,rfl,rfl⟩ ?_ ?_ ?_
 .rintro i σ' G _ ⟨u,rfl,rfl⟩
  exact SqL.of (je hp _ _ _ e2)
 .rintro i x σ' G hx _
  cases hx
 rintro σ' G ⟨u,rfl,rfl⟩;refine gQ ?_;have s3:=je hp (.lst []);have e3:upd H2 p (.lst []) p=some (.lst []):=jb;generalize upd H2 p (.lst [])=H3 at *;have I3:=I.same (s2.trans s3);obtain⟨ws,l7,l8,l9⟩:=I3.l 2 (by decide);have N7:=hg.2.1;refine⟨_,rfl,A0.o,C,A0.dx,_,_,rfl,I3.o,T.c,T.n6,rfl,_,rfl,A0.l 2,p,ws,[],rfl,rfl,l7,e3,km (by show ws.length+0<=1000;omega),fun ld NR=>?_⟩;have s4:=je NR (.lst (ws++[]));have e4:upd H3 ld (.lst (ws++[])) ld=some (.lst (ws++[])):=jb;generalize upd H3 ld (.lst (ws++[]))=H4 at *;rw[dl]at e4;have lw:=l8.length;refine JQ e4 (l8.mono s4) Ax (fun _=>Aw) cQ (by omega) fun l zs H5 s5 AT e5 h5=>?_
 refine⟨l,_,rfl,.inl (SqL.of e5),?_⟩;rw[<- h5.length];exact q H5 (s1.trans (s2.trans (s3.trans (s4.trans s5))))
end
end LW
namespace L2
open PySem PySem.Spec PyProof.Rows
variable {X:Cx}{ac:List (aa×Obj)}{s:af}{σ:St}{H:Hp}
open Classical in
theorem jcQ{X:Cx}{tg l:aj}{tl:TE}{K:av}(h1:QE X l tl)(h:X.K=K:=by rfl):QI X tg l (ja4 K tl):=by subst h;exact jR h1
variable {aV:aj}{ifs:List aj}{scope:bO}{pos:Pos}
section
variable {prog:az}{w:ax}{A:aM}{s:af}{t1 i1 t2 i2:aj}{it aP:ad}{env:Env}{R:ly->af->Prop}
theorem Y1:rX (.ListComp aV [⟨t1,i1,[],0⟩,⟨t2,i2,ifs,0⟩] scope pos) 0 it aP env=(do
   j_ i1.pos
   match <- dh it with
   | none=>pure (.done .next)
   | some v=>
    le t1 it v
    assign t1 env v
    let mut ok:=true
    for c in ([]:List aj) do
     if ok then ok <- isTrue c env (eval c env)
    if ok then
     let x <- eval i2 env
     j_ i2.pos
     let x <- du i2 env x
     let _ <- runOwn (.compStart (.ListComp aV [⟨t1,i1,[],0⟩,⟨t2,i2,ifs,0⟩] scope pos) 1 (<- holding [x] (mB x)) aP env) env
    again (.compLoop (.ListComp aV [⟨t1,i1,[],0⟩,⟨t2,i2,ifs,0⟩] scope pos) 0 it aP env)):=by rfl
theorem Y0:rX (.ListComp aV [⟨t1,i1,[],0⟩,⟨t2,i2,ifs,0⟩] scope pos) 1 it aP env=(do
   j_ i2.pos
   match <- dh it with
   | none=>pure (.done .next)
   | some v=>
    le t2 it v
    assign t2 env v
    let mut ok:=true
    for c in ifs do
     if ok then ok <- isTrue c env (eval c env)
    if ok then
     (do let _ <- call (.builtin "list.append") [aP,<- eval aV env])
    again (.compLoop (.ListComp aV [⟨t1,i1,[],0⟩,⟨t2,i2,ifs,0⟩] scope pos) 1 it aP env)):=by rfl
theorem Y2(I:Nat->af->Prop)
  (cY:∀n s,I n s->ah (am prog w) A (dh it) (fun r s1=>match r with
   | none=>R (.ok .next) s1
   | some v=>ah (am prog w) A (le t2 it v) (fun _ fT=>ah (am prog w) A (assign t2 env v) (fun _ s2=>
     ah (am prog w) A (forIn ifs true fun c r=>if r=true then do let ok <- isTrue c env (eval c env);pure (ForInStep.yield ok) else pure (ForInStep.yield r)) (fun ok s3=>
      if ok=true then ah (am prog w) A (eval aV env) (fun x s4=>
       ah (am prog w) A (call (.builtin "list.append") [aP,x]) (fun _ s5=>∃m,m < n/\I m s5) (fun _ _=>False) s4) (fun _ _=>False) s3
      else ∃m,m < n/\I m s3) (fun _ _=>False) s2) (fun _ _=>False) fT) (fun _ _=>False) s1) (fun _ _=>False) s)
  (n:Nat) (h:I n s):cD (am prog w) A (.compLoop (.ListComp aV [⟨t1,i1,[],0⟩,⟨t2,i2,ifs,0⟩] scope pos) 1 it aP env) R s:=by
 have no:∀(x:ad) (s':af),False->rP (am prog w) A env (fun e s'=>R (.error e) s') x s':=fun _ _ z=>z.elim
 refine Dj rfl I (fun n s hI=>?_) n h
 show ah _ A ((rX (.ListComp aV [⟨t1,i1,[],0⟩,⟨t2,i2,ifs,0⟩] scope pos) 1 it aP env).onRaise (fun x=>do rQ x env;De x)) _ _ s
 refine C9 ?_
 rw[Y0]
 refine ae (ft (ae (bi (cY n s hI) (fun r s1 h1=>?_) no)))
 cases r with
 | none=>exact aq h1
 | some v=>
  refine ae (bi h1 (fun _ fT fH=>?_) no)
  refine ae (bi fH (fun _ s2 h2=>ae (bi h2 (fun ok s3 h3=>?_) no)) no)
  cases ok with
  | false=>exact aq ⟨rfl,h3⟩
  | true=>
   exact ae (ae (bi h3 (fun x s4 h4=>ae (bi h4 (fun _ s5 h5=>aq (aq ⟨rfl,h5⟩)) no)) no))
theorem YM 
  (h0:cD (am prog w) A (.compLoop (.ListComp aV [⟨t1,i1,[],0⟩,⟨t2,i2,ifs,0⟩] scope pos) 1 it aP env) R s)
  (h:ah (am prog w) A (mB it) (fun Am s'=>cD (am prog w) A (.compLoop (.ListComp aV [⟨t1,i1,[],0⟩,⟨t2,i2,ifs,0⟩] scope pos) 1 Am aP env) R s')
   (rP (am prog w) A env fun x s'=>R (.error x) s') s) :
  cD (am prog w) A (.compStart (.ListComp aV [⟨t1,i1,[],0⟩,⟨t2,i2,ifs,0⟩] scope pos) 1 it aP env) R s:=by
 refine Hv ?_
 show ah _ _ ((compStart (.ListComp aV [⟨t1,i1,[],0⟩,⟨t2,i2,ifs,0⟩] scope pos) 1 it aP env).onRaise (fun x=>do rQ x env;j_ theWindowsPlace)) _ _ s
 refine wpAny_notedAt ?_
 unfold compStart
 show ah _ _ (ask >>= _) _ _ s
 refine ae (mz (wpAny_ite ?_))
 split
 .first
   | exact ae (aq (aq (And.intro rfl h0)))
   | exact aq (And.intro rfl h0)
 .first
   | exact ae (iz (ae (ft (ae (bi h (fun Am s' h'=>aq (And.intro rfl h')) fun _ _ x=>x)))))
   | (refine ae (iz ?_);show ah _ _ (j_ i2.pos >>= _) _ _ s;exact ae (ft (ae (bi h (fun Am s' h'=>aq (And.intro rfl h')) fun _ _ x=>x))))
theorem Y3(dU:∀x,du i2 env x=pure x)(I:Nat->af->Prop)
  (cY:∀n s,I n s->ah (am prog w) A (dh it) (fun r s1=>match r with
   | none=>R (.ok .next) s1
   | some v=>ah (am prog w) A (le t1 it v) (fun _ fT=>ah (am prog w) A (assign t1 env v) (fun _ s2=>
     ah (am prog w) A (eval i2 env) (fun x s3=>ah (am prog w) A (mB x) (fun tD s4=>
      cD (am prog w) A (.compStart (.ListComp aV [⟨t1,i1,[],0⟩,⟨t2,i2,ifs,0⟩] scope pos) 1 tD aP env) (fun r s5=>match r with | .ok f=>∃m,m < n/\I m s5 | .error _=>False) s4) (fun _ _=>False) s3) (fun _ _=>False) s2) (fun _ _=>False) fT) (fun _ _=>False) s1) (fun _ _=>False) s)
  (n:Nat) (h:I n s):cD (am prog w) A (.compLoop (.ListComp aV [⟨t1,i1,[],0⟩,⟨t2,i2,ifs,0⟩] scope pos) 0 it aP env) R s:=by
 have no:∀(x:ad) (s':af),False->rP (am prog w) A env (fun e s'=>R (.error e) s') x s':=fun _ _ z=>z.elim
 refine Dj rfl I (fun n s hI=>?_) n h
 show ah _ A ((rX (.ListComp aV [⟨t1,i1,[],0⟩,⟨t2,i2,ifs,0⟩] scope pos) 0 it aP env).onRaise (fun x=>do rQ x env;De x)) _ _ s
 refine C9 ?_
 rw[Y1]
 refine ae (ft (ae (bi (cY n s hI) (fun r s1 h1=>?_) no)))
 cases r with
 | none=>exact aq h1
 | some v=>
  refine ae (bi h1 (fun _ fT fH=>?_) no)
  refine ae (bi fH (fun _ s2 h2=>ae (bi (wpAny_tests_nil (Q:=fun ok s3=>ok=true/\s3=s2) ⟨rfl,rfl⟩) (fun ok s3 h3=>?_) fun _ _ h'=>h')) no)
  obtain⟨rfl,rfl⟩:=h3
  rw[Tu rfl]
  refine ae (bi h2 (fun x s4 h4=>ae (ft (ae (vD (dU x) (ae (dr (bi h4 (fun tD s5 h5=>?_) no))))))) no)
  refine ae (wpAny_runOwn (lj h5 fun r s6 h6=>?_))
  cases r with
  | ok f=>exact aq ⟨rfl,h6⟩
  | error e=>exact h6.elim
end
def ji7(J:It)(p:aa)(g:TG)(tt:TT)(te:TE)(F:St->Hp->Prop)(σ:St)(H:Hp):Prop:=∃W:Nat->Nat->St->Hp->Prop,(∃m,W 0 m σ H)/\
 ∀i m σ' H',W i m σ' H'->(J.stop i H'/\F σ' H')\/(J.go i H'/\∃N:St->Hp->Prop,(∀σ3 H3,N σ3 H3->∃m',m' < m/\W (i+1) m' σ3 H3)/\∀x H2,J.yld i H' x H2->g x σ' H2 fun σ3 H3=>tt σ3 H3 fun c H4=>
  if c=true then te σ3 H4 fun y H5=>∃ys,H5 p=some (.lst ys)/\ys.length < aF/\N σ3 (upd H5 p (.lst (ys++[y]))) else N σ3 H4)
def jcN(J:It)(p:aa)(g:TG)(g9:TI)(g2:TG)(tt:TT)(te:TE)(Q:VK)(σ:St)(H:Hp):Prop:=∃W:Nat->Nat->St->Hp->Prop,(∃m,W 0 m σ H)/\
 ∀i m σ' H',W i m σ' H'->(J.stop i H'/\Q (.ref p) H')\/(J.go i H'/\∃N:St->Hp->Prop,(∀σ3 H3,N σ3 H3->∃m',m' < m/\W (i+1) m' σ3 H3)/\∀x H2,J.yld i H' x H2->g x σ' H2 fun σ3 H3=>g9 σ3 H3 fun J2 H4=>ji7 J2 p g2 tt te N σ3 H4)
def jed(own:List Str)(fr:List Nat)(wi:TI)(g:TG)(g9:TI)(g2:TG)(tt:TT)(te:TE):TE:=fun σ H Q=>wi σ H fun J H1=>∀p,H1 p=none->jcN J p g g9 g2 tt te Q (jb5 own fr σ) (upd H1 p (.lst []))
variable {g g2:TG}{tt:TT}{te:TE}
theorem jfq{X:Cx}{own:List Str}{fr:List Nat}{tg iter gF gH:aj}{wi g9:TI}{use:Option (ad->Sem Unit)}(hc:X.calm=true)(O:CompOk X scope fr)(hi:PI X tg iter wi)
  (hb:∀s H ex,PG (blk X scope own fr s H ex) tg g/\PI (blk X scope own fr s H ex) gF gH g9/\PG (blk X scope own fr s H ex) gF g2/\PTs (blk X scope own fr s H ex) ifs tt/\PE (blk X scope own fr s H ex) aV te)
  (hs:∀x,du iter X.env x=pure x) (dU:∀env x,du gH env x=pure x) {ac:List (aa×Obj)} {s:af} {σ:St} {H:Hp} {Q:VK} {R:ad->af->Prop} (I:Inv X ac σ H s) (h:jed own fr wi g g9 g2 tt te σ H Q) (hx:∀e s',X.xe e s'↔False)
  (fin:∀(p C:aa) (H':Hp) (s':af) (m:Str->Option ad),s'.heap.Ns C m->H' C=none->C≠X.env.locals->(∀x c,X.env.cells.lookup x=some c->c≠C)->Inv X ac σ H' s'->(∀h',cr C s'.heap h'->Inv X ac σ H' { s' with heap:=h' })->Q (.ref p) H'->
   li (am X.prog X.w) X.A X.xe use R (.ref p) C (.ok .next) s') :
  ah (am X.prog X.w) X.A (comprehension (.ListComp aV [⟨tg,iter,[],0⟩,⟨gF,gH,ifs,0⟩] scope pos) scope X.env (rW [⟨tg,iter,[],0⟩,⟨gF,gH,ifs,0⟩] pos) (vJ []) false (eval iter X.env) use) R X.xe s:=by
 have ia:∀x∈scope.names,x.2=.free->(X.env.cells.lookup x.1).isSome=true:=fun x aZ e=>by
  obtain⟨c,hc⟩:=I.ok.has x.1 (O.frees x aZ e);rw[hc];rfl
 have no:∀(E:ad->af->Prop) (x:ad) (s':af),X.xe x s'->E x s':=fun E x s' z=>((hx x s').mp z).elim
 refine Da (cl:=yH X.env.cells scope.names []) rfl hs (yG ia) O.kind O.loc ?_
 refine thn (hi ac s σ H _ I h) fun v s1 h1=>thn h1 fun m8 s2 h2=>?_
 obtain⟨it,fp,tn,J,H2,e,I2,T,eZ,f2,q2⟩:=h2
 subst e
 refine dY ?_
 have nw:H2 s2.heap.objs.size=none:=I2.fresh
 obtain⟨W,⟨m0,w0⟩,cY⟩:=q2 _ nw
 generalize hp:s2.heap.objs.size=p at *
 have I3:Inv X ac σ (upd H2 p (.lst [])) { s2 with heap:=s2.heap.push { cls:=.type "list",dict:=none,data:=.seq ([]:List ad).toArray } }:=by
  have:=I2.lnew (ys:=[]) (its:=[]) (t':=s2.toks) .nil (bA _);rw[hp]at this;exact this
 have fX:∀b∈fp,b < s2.heap.objs.size:=fun b hb=>by
  obtain⟨o,ho,_⟩:=T.obj _ _ eZ b hb;exact aL ho
 have gn:∀b∈fp,(upd H2 p (.lst [])) b=none:=fun b hb=>by
  rw[jp (by rw[<- hp];exact aT (fX b hb))];exact (f2 b hb).1
 generalize eC:({ s2 with heap:=s2.heap.push { cls:=.type "list",dict:=none,data:=.seq ([]:List ad).toArray } }:af)=s3 at *
 have lH:s3.heap.objs.size=p+1:=by
  rw[<- eC];show (s2.heap.push _).objs.size=_;rw[lA,hp]
 have eY:tn 0 s3.heap:=T.keep 0 _ _ eZ fun b hb o e=>by
  rw[<- eC];exact aQ _ e
 refine C_ O.nocell (by intro y hy;simp at hy) (fun h4 gg lS=>?_) O.kind
 have k4:∀b o,s3.heap.get? b=some o->h4.get? b=some o:=fun b o e=>lS.extBut b o (aT (aL e)) (aQ _ e)
 have lV:h4.Ns s3.heap.objs.size fun _=>none:=by
  have z:(fun x:Str=>([]:List (Str×ad)).reverse.lookup x)=fun _=>none:=by funext x;rfl
  rw[z]at gg;exact gg
 have fo:∀b∈fp,yK X ac (upd H2 p (.lst [])) b/\b < s3.heap.objs.size:=fun b hb=>⟨⟨gn b hb,(f2 b hb).2⟩,by rw[lH,<- hp];exact sq (fX b hb)⟩
 have I4:=K6 (own:=own) (fr:=fr) (t1:=s3.toks+([]:List (Str×ad)).length) I3 O fo lV k4
 have c_:tn 0 h4:=T.keep 0 _ _ eY fun b hb o e=>k4 b o e
 obtain⟨hg,AW,N8,ht,he⟩:=hb s3 (upd H2 p (.lst [])) fp
 have cZ:∀{H':Hp} {pn:List (aa×Obj)} {s':af} {σ':St},Inv (blk X scope own fr s3 (upd H2 p (.lst [])) fp) [] σ' H' s'->(∀b∈fp,H' b=none)->∀b∈fp,yK (blk X scope own fr s3 (upd H2 p (.lst [])) fp) [] H' b:=fun {H' pn s' σ'} J hn b aJ=>
  ⟨hn b aJ,(J.ok.exf b aJ).1,J.ok.exfs b aJ,.inl aJ,(J.ok.exf b aJ).2,fun p hp=>absurd hp (by simp[blk])⟩
 have lM:∀x c,X.env.cells.lookup x=some c->c≠s3.heap.objs.size:=fun x c e=>by
  obtain⟨v,q⟩:=I3.cell x c e;exact aT q.lt
 have fY:∀s5:af,s5={ s3 with heap:=h4,toks:=s3.toks+([]:List (Str×ad)).length }->
   cD (am X.prog X.w) X.A (.compLoop (.ListComp aV [⟨tg,iter,[],0⟩,⟨gF,gH,ifs,0⟩] scope pos) 0 (.ref it) (.ref p) (blk X scope own fr s3 (upd H2 p (.lst [])) fp).env) (li (am X.prog X.w) X.A X.xe use R (.ref p) s3.heap.objs.size) s5:=by
  rintro s5 rfl
  refine Y3 (fun x=>dU _ x) (fun n s'=>∃i σ' H',Inv (blk X scope own fr s3 (upd H2 p (.lst [])) fp) [] σ' H' s'/\tn i s'.heap/\(∀b∈fp,H' b=none)/\W i n σ' H') ?_ m0 ⟨0,_,_,I4,c_,gn,w0⟩
  rintro n s6 ⟨i,σ6,H6,I6,fP,gm,w6⟩
  rcases cY i n σ6 H6 w6 with⟨stop,qn⟩ | ⟨go,N,hN,step⟩
  .refine thn (T.done (blk X scope own fr s3 (upd H2 p (.lst [])) fp) rfl rfl rfl hc i [] s6 σ6 H6 _ I6 (cZ (pn:=[]) I6 gm) fP stop) fun r s7 ⟨hr,I7⟩=>?_
   subst hr
   obtain⟨m,hm,_⟩:=I7.loc
   exact fin p _ H6 s7 m hm I7.free (mK I3.lt) lM (zo I3 fo I7 (iH ..)) (fun h' b_=>zo I3 fo I7 b_) qn
  .refine thn (T.item (blk X scope own fr s3 (upd H2 p (.lst [])) fp) rfl rfl rfl hc i [] s6 σ6 H6 _ I6 (cZ (pn:=[]) I6 gm) fP go) fun r s7 ⟨u,hr,h7⟩=>?_
   subst hr
   refine thn h7 fun _ s8 hM=>?_
   obtain⟨x,H8,I8,r8,y8,dO,mh⟩:=hM
   have mm:=I8.pinned (cZ (pn:=[]) I8 mh) (T.obj _ _ dO)
   refine thn (hg _ s8 σ6 H8 x u _ mm r8 (step x H8 y8)) fun _ s9 hM=>?_
   obtain⟨σ9,H9,I9,q9⟩:=hM
   have again:∀{σ11:St} {bK:Hp} {bp:af},Inv (blk X scope own fr s3 (upd H2 p (.lst [])) fp) ([]++zq fp s8.heap) σ11 bK bp->(∃m',m' < n/\W (i+1) m' σ11 bK)->
     ∃m,m < n/\∃i σ' H',Inv (blk X scope own fr s3 (upd H2 p (.lst [])) fp) [] σ' H' bp/\tn i bp.heap/\(∀b∈fp,H' b=none)/\W i m σ' H':=fun {σ11 bK bp} ci ⟨m',hm,g_⟩=>by
    refine⟨m',hm,i+1,σ11,bK,ci.unpinned,T.keep _ _ _ dO fun b aJ o e=>(ci.pin (b,o) (b4 _ (b4 _ (kj aJ e)))).1,fun b aJ=>?_,g_⟩
    obtain⟨o,e,d⟩:=T.obj _ _ dO b aJ
    exact (ci.pin (b,o) (b4 _ (b4 _ (kj aJ e)))).2.1
   generalize ([]++zq fp s8.heap)=pinsO at *
   refine thn (AW _ s9 σ9 H9 _ I9 q9) fun v2 dP p_=>thn p_ fun itv2 sA hA=>?_
   obtain⟨tD,nD,Ea,J2,HA,e2,IA,T2,Eh,fA,WA,⟨mA,wA⟩,LD⟩:=hA
   subst e2
   have wG:∀{H':Hp},(∀b∈nD,H' b=none)->∀b∈nD,yK (blk X scope own fr s3 (upd H2 p (.lst [])) fp) pinsO H' b:=fun hn b hb=>⟨hn b hb,(fA b hb).2⟩
   have EU:cD (am X.prog X.w) X.A (.compLoop (.ListComp aV [⟨tg,iter,[],0⟩,⟨gF,gH,ifs,0⟩] scope pos) 1 (.ref tD) (.ref p) (blk X scope own fr s3 (upd H2 p (.lst [])) fp).env) (fun r s5=>match r with
     | .ok f=>∃m,m < n/\∃i σ' H',Inv (blk X scope own fr s3 (upd H2 p (.lst [])) fp) [] σ' H' s5/\tn i s5.heap/\(∀b∈fp,H' b=none)/\W i m σ' H'
     | .error _=>False) sA:=by
    refine Y2 (fun n2 s'=>∃j σ' H',Inv (blk X scope own fr s3 (upd H2 p (.lst [])) fp) pinsO σ' H' s'/\Ea j s'.heap/\(∀b∈nD,H' b=none)/\WA j n2 σ' H') ?_ mA ⟨0,_,_,IA,Eh,fun b hb=>(fA b hb).1,wA⟩
    rintro n2 sB ⟨j,σB,HB,IB,Eg,Gk,wB⟩
    rcases LD j n2 σB HB wB with⟨stop,qn⟩ | ⟨OM,N2,F9,LI⟩
    .refine thn (T2.done (blk X scope own fr s3 (upd H2 p (.lst [])) fp) rfl rfl rfl hc j pinsO sB σB HB _ IB (wG Gk) Eg stop) fun r s7 ⟨hr,I7⟩=>?_
     subst hr
     exact again I7 (hN _ _ qn)
    .refine thn (T2.item (blk X scope own fr s3 (upd H2 p (.lst [])) fp) rfl rfl rfl hc j pinsO sB σB HB _ IB (wG Gk) Eg OM) fun r s7 ⟨u2,hr,h7⟩=>?_
     subst hr
     refine thn h7 fun _ sC hM=>?_
     obtain⟨x2,HC,IC,rC,yC,stC,OP⟩:=hM
     have Pn:=IC.pinned (wG OP) (T2.obj _ _ stC)
     refine thn (N8 _ sC σB HC x2 u2 _ Pn rC (LI x2 HC yC)) fun _ sD hM=>?_
     obtain⟨σD,HD,ID,qD⟩:=hM
     refine thn (ht _ sD σD HD _ ID qD) fun ok sE hM=>?_
     obtain⟨HE,IE,qE⟩:=hM
     have GD:∀{bK:Hp} {bp:af},Inv (blk X scope own fr s3 (upd H2 p (.lst [])) fp) (pinsO++zq nD sC.heap) σD bK bp->(∃m',m' < n2/\WA (j+1) m' σD bK)->
       ∃m,m < n2/\∃i σ' H',Inv (blk X scope own fr s3 (upd H2 p (.lst [])) fp) pinsO σ' H' bp/\Ea i bp.heap/\(∀b∈nD,H' b=none)/\WA i m σ' H':=fun {bK bp} ci ⟨m',hm,g_⟩=>by
      refine⟨m',hm,j+1,σD,bK,ci.unpinned,T2.keep _ _ _ stC fun b aJ o e=>(ci.pin (b,o) (b4 _ (b4 _ (kj aJ e)))).1,fun b aJ=>?_,g_⟩
      obtain⟨o,e,d⟩:=T2.obj _ _ stC b aJ
      exact (ci.pin (b,o) (b4 _ (b4 _ (kj aJ e)))).2.1
     cases ok with
     | false=>
      rw[Tt bF]at qE |-
      exact GD IE (F9 _ _ qE)
     | true=>
      rw[Tu rfl]at qE |-
      refine thn (he _ sE σD HE _ IE qE) fun yv sF hM=>?_
      obtain⟨y,HF,IF,rF,ys,cI,hlen,qF⟩:=hM
      have ap:=kE (X:=blk X scope own fr s3 (upd H2 p (.lst [])) fp) (pinsO++zq nD sC.heap) sF σD HF (.ref p) [y] (.ref p) [yv] (fun _ mo=>∃m',m' < n2/\WA (j+1) m' σD mo) IF rfl (.cons rF .nil) ⟨p,ys,y,rfl,rfl,cI,hlen,F9 _ _ qF⟩
      exact thn ap fun _ sG ⟨_,HG,IG,_,qG⟩=>GD IG qG
   exact YM EU (T2.self X.A 0 _ _ _ Eh EU)
 refine QV (fY _ rfl) (T.self X.A 0 _ _ _ c_ (fY _ rfl))
theorem jcS{X:Cx}{tg iter gF gH:aj}{pos:Pos}{wi g9:TI}(own:List Str)(fr:List Nat)(hc:X.calm=true)(O:CompOk X scope fr)(hi:QI X.nox tg iter wi)
  (hb:∀s H ex,QG (blk X.nox scope own fr s H ex) tg g/\QI (blk X.nox scope own fr s H ex) gF gH g9/\QG (blk X.nox scope own fr s H ex) gF g2/\QTs (blk X.nox scope own fr s H ex) ifs tt/\QE (blk X.nox scope own fr s H ex) aV te)
  (hs:∀x,du iter X.env x=pure x:=by intro _;rfl) (dU:∀env x,du gH env x=pure x:=by intro _ _;rfl):QE X.nox (.ListComp aV [⟨tg,iter,[],0⟩,⟨gF,gH,ifs,0⟩] scope pos) (jed own fr wi g g9 g2 tt te):=by
 refine⟨?_⟩
 intro ac s σ H Q I h
 rw[eval_ListComp]
 refine jfq (X:=X.nox) (use:=none) (Q:=Q) hc ⟨O.kind,O.nocell,O.loc,O.frees,O.fr⟩ hi.h (fun s H ex=>⟨(hb s H ex).1.h,(hb s H ex).2.1.h,(hb s H ex).2.2.1.h,(hb s H ex).2.2.2.1.h,(hb s H ex).2.2.2.2.h⟩) hs dU I h (fun _ _=>Iff.rfl) fun p C H' s' m hm hC _ _ I' back q=>?_
 exact⟨m,hm,fun h' b_=>⟨.ref p,H',back h' b_,rfl,q⟩⟩
theorem jbk{K:av}{a b p:aa}{xs ys:List V}{tl:TE}{σ:St}{H:Hp}{Q:VK}(Po:Nat->St->Hp->Prop)(Pi:Nat->Nat->St->Hp->Prop)(h0:Po 0 σ H)(dH:∀i σ' H',Po i σ' H'->SqL K H' a xs)(pN:∀i j σ' H',Pi i j σ' H'->SqL K H' b ys)
  (Ny:∀{x:V} {σ':St} {H':Hp} {R R':St->Hp->Prop},(∀σ3 H3,R σ3 H3->R' σ3 H3)->g x σ' H' R->g x σ' H' R') (Nx:∀{σ':St} {H':Hp} {R R':VK},(∀v H3,R v H3->R' v H3)->tl σ' H' R->tl σ' H' R')
  (ho:∀i x σ' H',xs[i]?=some x->Po i σ' H'->g x σ' H' fun σ3 H3=>tl σ3 H3 fun v H4=>v=.ref b/\Pi i 0 σ3 H4)
  (ig:∀i x j y σ' H',xs[i]?=some x->ys[j]?=some y->Pi i j σ' H'->g2 y σ' H' fun σ3 H3=>tt σ3 H3 fun c H4=>if c=true then te σ3 H4 fun z H5=>∃zs,H5 p=some (.lst zs)/\zs.length < aF/\Pi i (j+1) σ3 (upd H5 p (.lst (zs++[z]))) else Pi i (j+1) σ3 H4)
  (hn:∀i σ' H',i < xs.length->Pi i ys.length σ' H'->Po (i+1) σ' H') (hd:∀σ' H',Po xs.length σ' H'->Q (.ref p) H'):jcN (Itl K a) p g (ja4 K tl) g2 tt te Q σ H:=by
 refine⟨fun i m σ H=>m=xs.length - i/\i<=xs.length/\Po i σ H,⟨xs.length,by simp,bA _,h0⟩,?_⟩
 rintro i m σ1 H1 ⟨rfl,hi,pv⟩
 have q:=dH _ _ _ pv
 by_cases a_:i < xs.length
 .refine .inr ⟨⟨xs,xs[i],q,by simp[a_]⟩,Po (i+1),fun σ3 H3 q=>⟨xs.length - (i+1),by omega,rfl,a_,q⟩,fun x H2 y=>?_⟩
  obtain⟨e1,e2⟩:=y
  subst e1
  have hx:xs[i]?=some x:=e2 xs q
  refine Ny (fun σ3 H3 h3=>?_) (ho i x σ1 _ hx pv)
  show ja4 K tl σ3 H3 _
  unfold ja4
  refine Nx (fun v H4 h4=>?_) h3
  obtain⟨rfl,Ev⟩:=h4
  have q4:=pN _ _ _ _ Ev
  refine⟨b,rfl,⟨_,q4⟩,?_⟩
  refine⟨fun j m σ H=>m=ys.length - j/\j<=ys.length/\Pi i j σ H,⟨ys.length,by simp,bA _,Ev⟩,?_⟩
  rintro j m σ5 H5 ⟨rfl,hj,wT⟩
  have q5:=pN _ _ _ _ wT
  by_cases hlt2:j < ys.length
  .refine .inr ⟨⟨ys,ys[j],q5,by simp[hlt2]⟩,Pi i (j+1),fun σ3 H3 q=>⟨ys.length - (j+1),by omega,rfl,hlt2,q⟩,fun y H6 y6=>?_⟩
   obtain⟨e3,e4⟩:=y6
   subst e3
   exact ig i x j y σ5 _ hx (e4 ys q5) wT
  .have e:j=ys.length:=by omega
   subst e
   exact .inl ⟨⟨ys,q5,aB _⟩,hn i _ _ a_ wT⟩
 .have e:i=xs.length:=by omega
  subst e
  exact .inl ⟨⟨xs,q,aB _⟩,hd _ _ pv⟩
end L2
namespace LW
open PySem L2
abbrev yU:aA:=top 34
abbrev qH:aA:=top 35
abbrev kq:aA:=top 36
theorem jfT{n:Nat}(h:n<=11000000):n < aF:=v8 h (by decide)
variable {H:Hp}
theorem jfN{a b:D}{v:V}(h:Held H (.tup [a,b]) v):∃t x y,v=.ref t/\H t=some (.tup [x,y])/\Held H a x/\Held H b y:=by
 obtain⟨t,xs,rfl,ht,hx⟩:=js h;obtain⟨x,r,rfl,h1,h2⟩:=jg hx;obtain⟨y,r,rfl,h3,h4⟩:=jg h2
 cases jv h4
 exact⟨t,x,y,rfl,ht,h1,h3⟩
theorem Zd{a b:D}{c:Int}{v:V}(h:Held H (.tup [a,b,.int c]) v):∃t x y,v=.ref t/\H t=some (.tup [x,y,.int c])/\Held H a x/\Held H b y:=by
 obtain⟨t,xs,rfl,ht,hx⟩:=js h;obtain⟨x,r,rfl,h1,h2⟩:=jg hx;obtain⟨y,r,rfl,h3,h4⟩:=jg h2;obtain⟨z,r,rfl,h5,h6⟩:=jg h4
 cases kI h5
 cases jv h6
 exact⟨t,x,y,rfl,ht,h1,h3⟩
inductive spGuard0(vs:List V)(H:Hp)(Q:VK)(E:XK):Prop
 | mk (g t:aa) (s:List D) (d e:Int) (x y:V) (_:vs=[.ref g,.ref t]) (_:H g=some (.lst [x,y])) (_:Held H (.tup [.tup s,.tup s,.int d]) x) (_:Held H (.tup [.tup s,.tup s,.int e]) y) (_:d < 0\/e < 0) (_:D.depthL s<=180) (_:∀l H',Same H H'->H l=none->H' l=some (.lst [])->Q (.ref l) H')
def kK(sp S:List P2):List (Prod P2 P2):=S.flatMap fun s=>(sp.filter fun z=>decide (s≠z)).map fun z=>(s,z)
def Yp(sp:List P2):List (Prod P2 P2):=kK sp sp
def Zn(q:Prod P2 P2):D:=.tup [p2 q.1,p2 q.2]
inductive spPairs(C:aa)(vs:List V)(H:Hp)(Q:VK)(E:XK):Prop
 | mk (n:Nat) (A:CA) (c:Cs) (sp:List P2) (_:vs=[.ref A.o]) (_:CsAt C n A c H) (_:n<=200) (_:c.l 2=sp.map p2) (_:(∀p∈sp,p.1.depth<=190)) (_:∀(l:aa) (zs:List V) (H':Hp),Same H H'->H l=none->H' l=some (.lst zs)->HeldL H' ((Yp sp).map Zn) zs->Q (.ref l) H')
theorem jbF{sp:List P2}{i:Nat}(hi:i < sp.length):kK sp (sp.take (i+1))=kK sp (sp.take i)++((sp.filter fun z=>decide (sp[i]≠z)).map fun z=>(sp[i],z)):=by
 unfold kK;rw[cE,aI hi,oB];simp
theorem jbc{α:Type}{p:α->Bool}{xs:List α}{i:Nat}(hi:i < xs.length):(xs.take (i+1)).filter p=(xs.take i).filter p++(if p xs[i]=true then [xs[i]] else []):=by
 rw[cE,aI hi,Ll];congr 1
 cases e:p xs[i] <;> simp[e]
theorem jg9{p q:P2}(h:p2 p=p2 q):p=q:=by
 obtain⟨a,b⟩:=p;obtain⟨c,d⟩:=q;unfold p2 at h
 cases h
 rfl
theorem jc9{sp:List P2}{q:Prod P2 P2}(h:q∈Yp sp):q.1∈sp/\q.2∈sp/\q.1≠q.2:=by
 obtain⟨s,h1,h2⟩:=SQ.mp h;obtain⟨z,h3,rfl⟩:=ck.mp h2;obtain⟨h4,h5⟩:=Li.mp h3;exact⟨h1,h4,Tq h5⟩
structure Flat(c:Cs):Prop where
 sp:∃(s:List D) (ds:List Int),c.l 2=ds.map (fun d=>p2 (.tup s,d))/\D.depthL s<=180/\ds.Pairwise (· < ·)
 l0:c.l 0=[]
 l3:c.l 3=[]
 l4:c.l 4=[]
 l5:c.l 5=[]
inductive spClE(C:aa)(vs:List V)(H:Hp)(Q:VK)(E:XK):Prop
 | mk (n:Nat) (A:CA) (c:Cs) (_:vs=[.ref A.o]) (_:CsAt C n A c H) (_:n<=110) (_:Flat c) (_:∀l H',Same H H'->H l=none->H' l=some (.lst [])->Q (.ref l) H')
variable {P:az}{w:ax}{K:av}{mg:Str->Option ad}{base:au}{C f:aa}{fd:aD}
section
theorem jdl(F:Fun K "guarded" "guarded" yU f fd)(B:Free0 mg):FnOk P w K mg base CX0 14 f fd ["guards","ties"] spGuard0:=by
 have sc:FnScope ["guards","ties","kept","guard"] ["guards","ties"] (ji yU):=fQ;refine F.okZ sc (fun ay A outer s H vs Q E hr h=>?_);have pC:(A.deeper (gB "guarded" (ji yU) s.heap.objs.size f ay)).units+1+200 < cLine:=by have:=hr.un;omega
 obtain⟨g,t,s,d,e,x,y,rfl,hg,hx,hy,tW,FW,q⟩:=h;refine⟨_,(ja (jt (i:=2) sc.nd rfl oQ (jK jc))
   (ja (jW cb rfl (jR (zpv 0)) (jj (i:=3) sc.nd rfl oQ) (jf (jQ (jw (Z7 200 pC) (jz jE (zpv 3) jl (fun _ _=>rfl)) (jz jE (zpv 3) jl (fun _ _=>rfl)) (jF _)) (jf jB) (jf (jQ (jw jeI (jz jE (zpv 3) jl (fun _ _=>rfl)) jl (jF _)) (jf (jr (jK jc))) jC)))))
   (jf jB))),?_⟩
 refine jV (σ':=[some (.ref g),some (.ref t),none,none]) rfl ?_
 try dsimp only[j5]
 refine zI ?_;intro _ _;refine⟨sm rfl,fun lk NM=>?_⟩;refine gQ ?_;have s1:=je NM (.lst []);generalize upd H lk (.lst [])=H1 at *;refine⟨_,rfl,g,rfl,⟨_,SqL.of (s1 _ _ hg)⟩,?_⟩;let Pv:Nat->L2.St->Hp->Prop:=fun i σ G=>∃u,σ=[some (.ref g),some (.ref t),some (.ref lk),u]/\Same H G/\(i=0\/i=1/\e < 0)
 refine kn (xs:=[x,y]) Pv ⟨none,rfl,s1,.inl rfl⟩ ?_ ?_ ?_
 .rintro i σ G _ ⟨u,rfl,sG,_⟩
  exact SqL.of (sG _ _ hg)
 .rintro i v σ G hv ⟨u,rfl,sG,hi⟩
  have bz:∃c:Int,Held G (.tup [.tup s,.tup s,.int c]) v/\(c < 0\/i=0/\e < 0):=by
   rcases hi with rfl | ⟨rfl,he⟩
   .cases hv
    exact⟨d,hx.mono sG,tW.imp id fun h=>⟨rfl,h⟩⟩
   .cases hv
    exact⟨e,hy.mono sG,.inl he⟩
  obtain⟨c,hc,Bb⟩:=bz;obtain⟨a,u1,u2,rfl,ha,h1,h2⟩:=Zd hc;obtain⟨b1,x1,rfl,k1,k2⟩:=js h1;obtain⟨b2,x2,rfl,k3,k4⟩:=js h2;refine gQ ?_;refine⟨_,rfl,a,_,_,_,rfl,rfl,SqT.of ha,jH (j:=0) rfl,_,rfl,a,_,_,_,rfl,rfl,SqT.of ha,jH (j:=1) rfl,b1,b2,x1,x2,s,s,rfl,rfl,k1,k3,by omega,k2,k4,_,rfl,?_⟩;rw[Tr rfl];refine yj ?_;refine⟨_,rfl,a,_,_,_,rfl,rfl,SqT.of ha,jH (j:=2) rfl,_,_,rfl,rfl,_,rfl,jZ (fun w=>?_) (fun w=>?_)⟩
  .refine⟨sm rfl,fun l hl=>?_⟩
   exact q l _ (sG.trans (je hl (.lst []))) (sG.free hl) jb
  .have hnc:¬c < 0:=fun z=>w (Tr z)
   exact⟨_,rfl,sG,.inr (by omega)⟩
 .rintro σ G ⟨u,rfl,sG,h⟩
  simp at h
theorem jeS(T:ClsC K C)(F:Fun K "spot_pairs" "spot_pairs" qH f fd):FnOk P w K mg base CX0 14 f fd ["case"] (spPairs C):=by
 have sc:FnScope ["case"] ["case"] (ji qH):=fQ;refine F.okZ sc (fun ay A outer s H vs Q E hr h=>?_);have pC:(A.deeper (gB "spot_pairs" (ji qH) s.heap.objs.size f ay)).units+1+200 < cLine:=by have:=hr.un;omega
 obtain⟨n,B,c,sp,rfl,I,hn,cQ,pV,q⟩:=h;refine⟨_,(jf (jr (jcS ["s","z"] [0] rfl (j9 (sc:=ji qH) (N:=["case"]) rfl rfl (by decide +kernel)) (jR (jL (zpv 0) rfl)) (fun s H ex=>⟨(jj (i:=0) (show bg (["s","z","case"]:List Str) by decide +kernel) rfl oQ),jcQ (K:=K) (jdY (K:=K) (zpv 2) rfl),(jj (i:=1) (show bg (["s","z","case"]:List Str) by decide +kernel) rfl oQ),(zC (jw (Z7 200 pC) (zpv 0) (zpv 1) (jF _))),(jM (jd (zpv 0) (jd (zpv 1) jc)))⟩)))),?_⟩
 try dsimp only[j5]
 obtain⟨xs,l1,l2,l3⟩:=I.l 2 (by decide);rw[cQ]at l2;have fc:=l2.length;rw[aC]at fc;refine⟨_,rfl,B.o,C,B.dx,_,_,rfl,I.o,T.c,T.n6,rfl,B.l 2,rfl,⟨_,SqL.of l1⟩,fun p hp=>?_⟩;have s1:=je hp (.lst []);let In:Nat->Nat->List (Prod P2 P2):=fun i j=>kK sp (sp.take i)++(match sp[i]? with | some s=>((sp.take j).filter fun z=>decide (s≠z)).map fun z=>(s,z) | none=>[])
 have Mt:∀i,(kK sp (sp.take i)).length<=200 * 200:=fun i=>by
  have h1:(kK sp (sp.take i)).length<=(sp.take i).length * sp.length:=by
   generalize sp.take i=S;induction S with
   | nil=>exact bA _
   | cons s S ih=>
    show (((sp.filter fun z=>decide (s≠z)).map fun z=>(s,z))++kK sp S).length<=(S.length+1) * sp.length;rw[aO,aC,Nat.add_mul,Nat.one_mul];have:=oz (fun z=>decide (s≠z)) sp;omega
  have h2:(sp.take i).length<=200:=by rw[cM];omega
  exact aU h1 (Nat.mul_le_mul h2 (by omega))
 refine jbk (xs:=xs) (ys:=xs) (a:=B.l 2) (b:=B.l 2) (fun i σ' G=>∃u w zs,σ'=[u,w,some (.ref B.o)]/\Same H G/\G p=some (.lst zs)/\HeldL G ((kK sp (sp.take i)).map Zn) zs) (fun i j σ' G=>∃x w zs,σ'=[some x,w,some (.ref B.o)]/\xs[i]?=some x/\Same H G/\G p=some (.lst zs)/\HeldL G ((In i j).map Zn) zs) ⟨none,none,[],rfl,s1,jb,jx⟩ ?_ ?_ ?_ ?_ ?_ ?_ ?_ ?_
 .rintro i σ' G ⟨u,w,zs,rfl,sG,_⟩
  exact SqL.of (sG _ _ l1)
 .rintro i j σ' G ⟨u,w,zs,rfl,_,sG,_⟩
  exact SqL.of (sG _ _ l1)
 .intro x σ' H' R R' k h
  exact k _ _ h
 .rintro σ' H' R R' k ⟨v,hv,a,C',dx,fs,v',e1,e2,e3,e4,e5,h⟩
  exact⟨v,hv,a,C',dx,fs,v',e1,e2,e3,e4,e5,k _ _ h⟩
 .rintro i x σ' G hx ⟨u,w,zs,rfl,sG,hG,hz⟩
  have hi:i < sp.length:=by rw[fc];exact (aY.mp hx).1
  unfold kO;refine⟨_,rfl,B.o,C,B.dx,_,_,rfl,sG _ _ I.o,T.c,T.n6,rfl,rfl,x,w,zs,rfl,hx,sG,hG,?_⟩;show HeldL G ((kK sp (sp.take i)++(match sp[i]? with | some s=>((sp.take 0).filter fun z=>decide (s≠z)).map fun z=>(s,z) | none=>[])).map Zn) zs;rw[aI hi];show HeldL G ((kK sp (sp.take i)++[]).map Zn) zs;rw[dl];exact hz
 .rintro i x j y σ' G hx hy ⟨x',w,zs,rfl,aZ,sG,hG,hz⟩
  obtain rfl:x=x':=by rw[hx]at aZ;cases aZ;rfl
  have hi:i < sp.length:=by rw[fc];exact (aY.mp hx).1
  have hj:j < sp.length:=by rw[fc];exact (aY.mp hy).1
  have m9:Held G (p2 sp[i]) x:=(zn l2 (by rw[bU,aI hi];rfl) hx).mono sG;have gI:Held G (p2 sp[j]) y:=(zn l2 (by rw[bU,aI hj];rfl) hy).mono sG;have ei:In i (j+1)=In i j++(if sp[i]≠sp[j] then [(sp[i],sp[j])] else []):=by
   show kK sp (sp.take i)++(match sp[i]? with | some s=>((sp.take (j+1)).filter fun z=>decide (s≠z)).map fun z=>(s,z) | none=>[])=(kK sp (sp.take i)++(match sp[i]? with | some s=>((sp.take j).filter fun z=>decide (s≠z)).map fun z=>(s,z) | none=>[]))++_;rw[aI hi];dsimp only;rw[jbc hj,bh,em];congr 2;by_cases z:sp[i]=sp[j] <;> simp[z]
  have hzl:zs.length<=50000:=by
   rw[<- hz.length,aC];show (kK sp (sp.take i)++(match sp[i]? with | some s=>((sp.take j).filter fun z=>decide (s≠z)).map fun z=>(s,z) | none=>[])).length<=50000;rw[aI hi];dsimp only;rw[aO,aC];have:=Mt i;have h2:=oz (fun z=>decide (sp[i]≠z)) (sp.take j);rw[cM]at h2;omega
  have di:=pV _ (gD hi);generalize sp[i]=s at *;generalize sp[j]=z at *;obtain⟨tx,u1,rfl,k1,k2⟩:=js (show Held G (.tup [s.1,.int s.2]) x from m9);obtain⟨ty,u2,rfl,k3,k4⟩:=js (show Held G (.tup [z.1,.int z.2]) y from gI);unfold kO;refine⟨_,rfl,_,rfl,tx,ty,u1,u2,_,_,rfl,rfl,k1,k3,?_,k2,k4,_,rfl,?_⟩
  .show max s.1.depth (max 0 0)<=200
   omega
  by_cases e:s=z
  .rw[Tr (show [s.1,D.int s.2]=[z.1,D.int z.2] by rw[e])]
   refine yj ⟨_,_,_,rfl,hx,sG,hG,?_⟩;rw[ei,Tt (fun y=>y e),dl];exact hz
  .rw[Ts (show ¬[s.1,D.int s.2]=[z.1,D.int z.2] from fun y=>e (jg9 (Tw D.tup y)))]
   refine kY ⟨_,rfl,_,rfl,sm rfl,fun tq M7=>?_⟩;have s4:=je M7 (.tup [.ref tx,.ref ty]);have mf:=s4 _ _ hG;have kt:TK (upd G tq (.tup [.ref tx,.ref ty])) (upd (upd G tq (.tup [.ref tx,.ref ty])) p (.lst (zs++[.ref tq]))):=fun b ws eb=>jk (jN eb mf (by intro z;cases z)) eb
   refine⟨_,mf,jfT (by omega),_,_,_,rfl,hx,fun b o e=>jk (jh e hp) (s4 _ _ (sG _ _ e)),jb,?_⟩;rw[ei,Tu e,bh];exact j0 (kt.heldL (hz.mono s4)) (jo (kt.held (kc jb (jo (m9.mono s4) (jo (gI.mono s4) jx)))) jx)
 .rintro i σ' G hi ⟨x,w,zs,rfl,hx,sG,hG,hz⟩
  refine⟨_,_,zs,rfl,sG,hG,?_⟩;rw[<- fc]at hi;rw[jbF hi];have:In i xs.length=kK sp (sp.take i)++((sp.filter fun z=>decide (sp[i]≠z)).map fun z=>(sp[i],z)):=by
   show kK sp (sp.take i)++(match sp[i]? with | some s=>((sp.take xs.length).filter fun z=>decide (s≠z)).map fun z=>(s,z) | none=>[])=_;rw[aI hi,<- fc,cV]
  rw[<- this];exact hz
 .rintro σ' G ⟨u,w,zs,rfl,sG,hG,hz⟩
  rw[<- fc,cV]at hz;exact q p zs G sG hp hG hz
theorem jeK(T:ClsC K C)(F:Fun K "version_clauses" "version_clauses" kq f fd)(Ce:Fn P w K mg base 14 "spot_pairs" ["case"] (spPairs C))(i_:Fn P w K mg base 1 "at_most" ["one","other"] spAtM)(my:Fn P w K mg base 1 "entry_of" ["version","spot"] spEnt)(CD:Fn P w K mg base 14 "guarded" ["guards","ties"] spGuard0):FnOk P w K mg base CX0 15 f fd ["case"] (spClE C):=by
 have sc:FnScope ["case","versions","told","s","z","ties"] ["case"] (ji kq):=fQ;refine F.okZ sc (fun ay A outer s H vs Q E hr h=>?_);obtain⟨n,B,c,rfl,I,hn,hf,q⟩:=h;obtain⟨sr,dz,el2,FW,_⟩:=hf.sp;let sp:List P2:=dz.map fun d=>(.tup sr,d)
 have cQ:c.l 2=sp.map p2:=by rw[el2];exact (sH (f:=fun d=>((.tup sr,d):P2)) (g:=p2) (l:=dz)).symm
 have pV:∀p∈sp,p.1=.tup sr:=fun p hp=>by
  obtain⟨d,_,rfl⟩:=ck.mp hp;rfl
 refine⟨_,(ja (jar (jt (i:=1) sc.nd rfl oQ (jG kW (k9 ["r"] [] rfl (j9 (sc:=ji kq) (N:=["case","versions","told","s","z","ties"]) rfl rfl (by decide +kernel)) (jdV (jL (zpv 0) rfl)) (fun s H ex=>⟨(jj (i:=0) (show bg (["r"]:List Str) by decide +kernel) rfl oQ),kf,(jM (jd jy (jd (zpv 0) jc)))⟩)) (jL (zpv 0) rfl))))
   (ja (jt (i:=2) sc.nd rfl oQ (jK jc))
   (ja (jW cb rfl (jR (jD Ce hr (jd (zpv 0) jc))) (jX rfl (jm (jj (i:=3) sc.nd rfl oQ) (jm (jj (i:=4) sc.nd rfl oQ) jJ))) (ja (kZ (i:=5) sc.nd rfl oQ ["version"] [3,4] rfl (j9 (sc:=ji kq) (N:=["case","versions","told","s","z","ties"]) rfl rfl (by decide +kernel)) (jR (zpv 1)) (fun s H ex=>⟨(jj (i:=0) (show bg (["version","s","z"]:List Str) by decide +kernel) rfl oQ),kf,(jD i_ hr (jd (jD my hr (jd (zpv 0) (jd (zpv 1) jc))) (jd (jD my hr (jd (zpv 0) (jd (zpv 2) jc))) jc)))⟩))
   (jf (j7 (ql dL r_ rZ zB (zpv 2) (jd (jD CD hr (jd (jK (jd (jD i_ hr (jd (zpv 3) (jd (zpv 4) jc))) (jd (jD i_ hr (jd (zpv 4) (jd (zpv 3) jc))) jc))) (jd (zpv 5) jc))) jc))))))
   (jf (jr (zpv 2)))))),?_⟩
 refine jV (σ':=[some (.ref B.o),none,none,none,none,none]) rfl ?_
 try dsimp only[j5]
 refine YE ?_;intro _ _ _;obtain⟨kvs,k1,k2,k3⟩:=I.na;obtain⟨hX,j1,j2,j3⟩:=I.l 0 (by decide);have Mg:B.o≠B.na:=jN I.o k1 (by intro z;cases z);have Mh:B.l 0≠B.na:=jN j1 k1 (by intro z;cases z);refine⟨_,rfl,B.o,C,B.dx,_,_,rfl,I.o,T.c,T.n3,rfl,B.na,kvs,rfl,k1,fun ob p hp=>?_⟩;have iS:p≠B.na:=by
  intro z;rw[z,jb]at hp
  cases hp
 have gf:H p=none:=by rw[<- hp,jp iS]
 have kl:kvs.length=c.na.length:=by
  have:=Tw lC k3;rw[aC,aC]at this;exact this
 refine Jm (Itd B.na ob kvs) kvs.length (fun i σ' G=>∃u rs,σ'=[u]/\G B.na=some (.frz ob (.dK kvs))/\(∀b o,b≠B.na->H b=some o->G b=some o)/\G p=some (.lst rs)/\HeldL G ((c.na.take i).map YX) rs) ⟨none,[],rfl,by rw[jp (br iS),jb],fun b o hb e=>by rw[jp (jh e gf),jp hb];exact e,jb,jx⟩ ?_ ?_ ?_ ?_
 .rintro σ' G ⟨u,rs,rfl,e,_⟩
  exact⟨e,aB _⟩
 .rintro i σ' G hi ⟨u,rs,rfl,e,_⟩
  exact⟨e,hi⟩
 .rintro i σ' G hi ⟨u,rs,rfl,e,sG,hG,fh⟩ x H2 ⟨rfl,k,v,e1,rfl⟩
  have cO:i < c.na.length:=by omega
  have ek:k=.inr c.na[i]:=by
   have:(kvs.map (·.1))[i]?=some k:=by rw[bU,e1];rfl
   rw[k3,bU,aI cO]at this;exact (bZ this).symm
  subst ek;have et:(c.na.take (i+1)).map YX=(c.na.take i).map YX++[YX c.na[i]]:=by rw[cE,aI cO,bh];rfl
  generalize c.na[i]=r at *;unfold kO Jo;refine kY ?_;refine⟨_,rfl,sm rfl,fun t ht=>?_⟩;have s4:=je ht (.tup [.str "row",.str r]);have mf:=s4 _ _ hG;have kt:TK (upd H2 t (.tup [.str "row",.str r])) (upd (upd H2 t (.tup [.str "row",.str r])) p (.lst (rs++[.ref t]))):=fun b ws eb=>jk (jN eb mf (by intro z;cases z)) eb
  have iR:rs.length<=1000:=by
   rw[<- fh.length,aC,cM];omega
  refine⟨_,mf,jS iR,_,_,rfl,jk (br iS) (s4 _ _ e),fun b o hb eb=>jk (jh eb gf) (s4 _ _ (sG b o hb eb)),jb,?_⟩;rw[et];exact j0 (kt.heldL (fh.mono s4)) (jo (kt.held (kc jb (jo j4 (jo j4 jx)))) jx)
 rintro σ' G ⟨u,rs,rfl,eF,sG,hG,fh⟩;rw[kl,cV]at fh;have iR:rs.length<=110:=by
  rw[<- fh.length,aC];omega
 have dH:HeldL G (c.l 0) hX:=(show TK H G from fun b xs e=>sG b _ (jN e k1 (by intro z;cases z)) e).heldL j2;refine⟨_,rfl,B.o,C,B.dx,_,_,rfl,sG _ _ Mg I.o,T.c,T.n4,rfl,p,B.l 0,rs,hX,rfl,rfl,hG,sG _ _ Mh j1,km (by omega),fun lv ie=>?_⟩;have tI:lv≠B.na:=fun z=>by rw[z,eF]at ie;cases ie
 have L4:∀(o:Obj) (z:HO),H B.na≠some (.frz o z):=fun o z e=>by rw[k1]at e;cases e
 refine⟨B.na,ob,kvs,(jp (br tI)).trans eF,L4,?_⟩;have FD:H lv=none:=by
  cases z:H lv with
  | none=>rfl
  | some o=>rw[sG lv o tI z]at ie;cases ie
 have hV:HeldL G (c.na.map YX++c.l 0) (rs++hX):=j0 fh dH;have hvl:(c.na.map YX++c.l 0).length<=220:=by
  rw[hV.length,aO];omega
 have s1:Same H (upd (upd G lv (.lst (rs++hX))) B.na (.dK kvs)):=fun b o e=>by
  by_cases z:b=B.na
  .rw[z,jb,<- k1,<- z]
   exact e
  .rw[jp z,jp (jh e FD)]
   exact sG b o z e
 have tG:TK G (upd (upd G lv (.lst (rs++hX))) B.na (.dK kvs)):=fun b xs e=>by
  rw[jp (jN e eF (by intro z;cases z)),jp (jh e ie)];exact e
 have Ox:=tG.heldL hV;have e1:upd (upd G lv (.lst (rs++hX))) B.na (.dK kvs) lv=some (.lst (rs++hX)):=by rw[jp tI,jb]
 generalize upd (upd G lv (.lst (rs++hX))) B.na (.dK kvs)=H1 at *;generalize rs++hX=us at *;generalize (c.na.map YX++c.l 0)=vs at *;clear fh dH hV tG ie FD tI eF sG hG hp gf iS;refine gQ ?_;refine⟨sm rfl,fun lt a_=>?_⟩;refine gQ ?_;have s2:=je a_ (.lst []);have e2:upd H1 lt (.lst []) lt=some (.lst []):=jb;have mi:=s2 _ _ e1;have Ow:=Ox.mono s2;generalize upd H1 lt (.lst [])=H2 at *;have bv:=s1.trans s2;have NJ:H lt=none:=s1.free a_;refine⟨_,rfl,n,B,c,sp,rfl,I.same bv,by omega,cQ,fun p hp=>by rw[pV p hp];show D.depthL sr+1<=190;omega,fun lq qz H3 s3 FF FG Fm=>?_⟩;have cG:=bv.trans s3;have uh:=s3 _ _ mi;have gS:=s3 _ _ e2;have Ov:=Ow.mono s3;have Fp:=Fm.length;rw[aC]at Fp;refine⟨lq,rfl,⟨_,SqL.of FG⟩,?_⟩;have nql:lq≠lt:=fun z=>by rw[z,e2]at FF;cases FF
 let Pv:Nat->L2.St->Hp->Prop:=fun i σ G=>∃u3 u4 u5,σ=[some (.ref B.o),some (.ref lv),some (.ref lt),u3,u4,u5]/\Same H3 G
 refine kn (xs:=qz) Pv ⟨none,none,none,rfl,fun _ _ e=>e⟩ ?_ ?_ ?_
 .rintro i σ G _ ⟨u3,u4,u5,rfl,sG⟩
  exact SqL.of (sG _ _ FG)
 .rintro i x σ G hx ⟨u3,u4,u5,rfl,sG⟩
  have hi:i < (Yp sp).length:=by rw[Fp];exact (aY.mp hx).1
  have m9:Held G (Zn (Yp sp)[i]) x:=(zn Fm (by rw[bU,aI hi];rfl) hx).mono sG;have il:=jc9 (gD hi);have c1:=pV _ il.1;have c2:=pV _ il.2.1;have c3:=il.2.2;generalize (Yp sp)[i]=pq at *;obtain⟨⟨q1,z1⟩,⟨q2,z2⟩⟩:=pq;obtain rfl:q1=.tup sr:=c1;obtain rfl:q2=.tup sr:=c2;have c4:z1≠z2:=fun z=>c3 (by rw[z])
  obtain⟨a,x1,x2,rfl,ha,h1,h2⟩:=jfN (show Held G (.tup [p2 (.tup sr,z1),p2 (.tup sr,z2)]) x from m9);refine y7 ?_;intro _;refine⟨a,_,rfl,SqT.of ha,rfl,x1,_,rfl,x2,_,rfl,rfl,?_⟩;refine gQ ?_;have F7:=Ov.mono sG;have Gr:G lv=some (.lst us):=sG _ _ uh;have hG:=sG _ _ gS;have cv:=F7.length;refine⟨_,rfl,lv,rfl,⟨_,SqL.of Gr⟩,fun p hp=>?_⟩;have s4:=je hp (.lst []);refine kU (xs:=us) (fun j σ' G'=>∃u ts,σ'=[u,some x1,some x2]/\Same G G'/\G' p=some (.lst ts)/\ts.length=j) ⟨none,[],rfl,s4,jb,rfl⟩ ?_ ?_ ?_
  .rintro j σ' G' _ ⟨u,ts,rfl,cu,_⟩
   exact SqL.of (cu _ _ Gr)
  .rintro j y σ' G' hy ⟨u,ts,rfl,cu,dG,Fd⟩
   have hj:j < vs.length:=by rw[cv];exact (aY.mp hy).1
   have gI:Held G' vs[j] y:=(zn F7 (aI hj) hy).mono cu;have Ni:ts.length<=1000:=by omega
   generalize vs[j]=v at *;unfold kO Jo;refine kY ?_;refine⟨_,rfl,_,rfl,y,x1,v,(.tup sr,z1),rfl,gI,h1.mono cu,fun OS G4 s5 pU=>?_⟩;refine⟨_,rfl,_,rfl,y,x2,v,(.tup sr,z2),rfl,gI.mono s5,(h2.mono cu).mono s5,fun OR G5 s6 Oc=>?_⟩;refine⟨OS,OR,_,_,rfl,pU.mono s6,Oc,fun tt G6 s7 ht=>?_⟩;have Er:=s5.trans (s6.trans s7);have No:=Er _ _ dG;refine⟨_,No,jS Ni,_,_,rfl,fun b o e=>jk (jh e hp) (Er _ _ (cu _ _ e)),jb,by rw[aO,Fd];rfl⟩
  rintro σ' G' ⟨u,ts,rfl,cu,dG,Fd⟩;refine gQ ?_;refine⟨_,rfl,.inl ⟨rfl,_,SqL.of (cu _ _ hG)⟩,?_⟩;refine⟨_,rfl,_,rfl,x1,x2,(.tup sr,z1),(.tup sr,z2),rfl,h1.mono cu,h2.mono cu,fun ta Ga sa M_=>?_⟩;have wP:=cu.trans sa;refine⟨_,rfl,_,rfl,x2,x1,(.tup sr,z2),(.tup sr,z1),rfl,h2.mono wP,h1.mono wP,fun tb Gb sb M9=>⟨sm rfl,fun lg NO=>?_⟩⟩;have wJ:=je NO (.lst [ta,tb]);have LL:=wP.trans (sb.trans wJ);refine⟨_,rfl,lg,p,sr,z2 - z1,z1 - z2,ta,tb,rfl,jb,(M_.mono sb).mono wJ,M9.mono wJ,by omega,FW,fun l9 G9 s9 hn9 e9=>?_⟩;have El:=LL.trans s9;have OE:=El _ _ hG;refine⟨lt,l9,[],[],rfl,rfl,OE,e9,sm rfl,_,_,_,rfl,fun b o e=>?_⟩;by_cases z:b=lt
  .rw[z,gS]at e
   rw[z,jb];exact e
  .rw[jp z]
   exact El _ _ (sG _ _ e)
 .rintro σ G ⟨u3,u4,u5,rfl,sG⟩
  exact⟨_,rfl,q lt G (cG.trans sG) NJ (sG _ _ gS)⟩
end
abbrev zw:aA:=top 37
abbrev zg:aA:=top 38
abbrev ze:aA:=top 39
abbrev K3:aA:=top 15
structure CaseT(R:List Rw)(k:Cl)(x y:List D)(c:Int):Prop where
 r:∀r∈R,∃x t c,r=Rw.set x t c
 g:∃a b c,k=Cl.least a b c
 f:Flat (qj R k)
 t:(qj R k).l 1=[.tup [.tup x,.tup y,.int c]]
 dx:D.depthL x<=180
 dy:D.depthL y<=180
theorem CaseT.ok{R:List Rw}{k:Cl}{x y:List D}{c:Int}(h:CaseT R k x y c):CaseOk R k:=by
 obtain⟨s,ds,e,hd,hp⟩:=h.f.sp;exact⟨h.r,h.g,⟨s,ds,e,hd,hp⟩,h.f.l4,h.f.l5⟩
inductive spBook(vs:List V)(H:Hp)(Q:VK)(E:XK):Prop
 | mk (a:aa) (R:List Rw) (k:Cl) (v:V) (x y:List D) (c:Int) (_:vs=[.ref a,v]) (_:jaq H a R k v) (_:CaseT R k x y c) (_:∀t la lb z H',Same H H'->H' t=some (.tup [.ref la,.ref lb])->H' la=some (.lst [z])->Held H' (.tup [.tup x,.tup y,.int c]) z->H' lb=some (.lst [])->Q (.ref t) H')
section
theorem jeQ(T:ClsC K C)(F:Fun K "put_clauses" "put_clauses" zw f fd):FnOk P w K mg base CX0 15 f fd ["case"] (spClE C):=by
 have sc:FnScope ["case","told","spot","ahead","value","behind","s","new","stays"] ["case"] (ji zw):=fQ;refine F.okZ sc (fun ay A outer s H vs Q E hr h=>?_);obtain⟨n,B,c,rfl,I,hn,hf,q⟩:=h;refine⟨_,(ja (jt (i:=1) sc.nd rfl oQ (jK jc))
   (ja (jW cb rfl (jR (jL (zpv 0) rfl)) (jX rfl (jm (jj (i:=2) sc.nd rfl oQ) (jm (jj (i:=3) sc.nd rfl oQ) (jm (jj (i:=4) sc.nd rfl oQ) (jm (jj (i:=5) sc.nd rfl oQ) jJ))))) (jf jB))
   (jf (jr (zpv 1))))),?_⟩
 refine qN ?_;obtain⟨xs,l1,l2,_⟩:=I.l 3 (by decide);rw[hf.l3]at l2
 cases jv l2
 refine⟨sm rfl,fun l hl=>?_⟩;have s1:=je hl (.lst []);refine gQ ?_;refine⟨_,rfl,B.o,C,B.dx,_,_,rfl,s1 _ _ I.o,T.c,T.n7,rfl,B.l 3,rfl,⟨_,SqL.of (s1 _ _ l1)⟩,?_⟩;refine kn (xs:=[]) (fun i σ G=>σ[1]?=some (some (.ref l))/\G=upd H l (.lst [])) ⟨rfl,rfl⟩ ?_ ?_ ?_
 .rintro i σ G _ ⟨_,rfl⟩
  exact SqL.of (s1 _ _ l1)
 .rintro i x σ G hx _
  cases hx
 rintro σ G ⟨h1,rfl⟩;exact⟨_,h1,q l _ s1 hl jb⟩
theorem jdm(T:ClsC K C)(F:Fun K "each_clauses" "each_clauses" zg f fd):FnOk P w K mg base CX0 15 f fd ["case"] (spClE C):=by
 have sc:FnScope ["case","told","t","u","body","s"] ["case"] (ji zg):=fQ;refine F.okZ sc (fun ay A outer s H vs Q E hr h=>?_);obtain⟨n,B,c,rfl,I,hn,hf,q⟩:=h;refine⟨_,(ja (jt (i:=1) sc.nd rfl oQ (jK jc))
   (ja (jW cb rfl (jR (jL (zpv 0) rfl)) (jX rfl (jm (jj (i:=2) sc.nd rfl oQ) (jm (jj (i:=3) sc.nd rfl oQ) (jm (jj (i:=4) sc.nd rfl oQ) jJ)))) (jf jB))
   (jf (jr (zpv 1))))),?_⟩
 refine qN ?_;obtain⟨xs,l1,l2,_⟩:=I.l 4 (by decide);rw[hf.l4]at l2
 cases jv l2
 refine⟨sm rfl,fun l hl=>?_⟩;have s1:=je hl (.lst []);refine gQ ?_;refine⟨_,rfl,B.o,C,B.dx,_,_,rfl,s1 _ _ I.o,T.c,T.n8,rfl,B.l 4,rfl,⟨_,SqL.of (s1 _ _ l1)⟩,?_⟩;refine kn (xs:=[]) (fun i σ G=>σ[1]?=some (some (.ref l))/\G=upd H l (.lst [])) ⟨rfl,rfl⟩ ?_ ?_ ?_
 .rintro i σ G _ ⟨_,rfl⟩
  exact SqL.of (s1 _ _ l1)
 .rintro i x σ G hx _
  cases hx
 rintro σ G ⟨h1,rfl⟩;exact⟨_,h1,q l _ s1 hl jb⟩
theorem jde(T:ClsC K C)(F:Fun K "rise_clauses" "rise_clauses" ze f fd):FnOk P w K mg base CX0 15 f fd ["case"] (spClE C):=by
 have sc:FnScope ["case","told","t","u","version","s","z","tie"] ["case"] (ji ze):=fQ;refine F.okZ sc (fun ay A outer s H vs Q E hr h=>?_);obtain⟨n,B,c,rfl,I,hn,hf,q⟩:=h;refine⟨_,(ja (jt (i:=1) sc.nd rfl oQ (jK jc))
   (ja (jW cb rfl (jR (jL (zpv 0) rfl)) (jX rfl (jm (jj (i:=2) sc.nd rfl oQ) (jm (jj (i:=3) sc.nd rfl oQ) (jm (jj (i:=4) sc.nd rfl oQ) jJ)))) (jf jB))
   (jf (jr (zpv 1))))),?_⟩
 refine qN ?_;obtain⟨xs,l1,l2,_⟩:=I.l 5 (by decide);rw[hf.l5]at l2
 cases jv l2
 refine⟨sm rfl,fun l hl=>?_⟩;have s1:=je hl (.lst []);refine gQ ?_;refine⟨_,rfl,B.o,C,B.dx,_,_,rfl,s1 _ _ I.o,T.c,T.n9,rfl,B.l 5,rfl,⟨_,SqL.of (s1 _ _ l1)⟩,?_⟩;refine kn (xs:=[]) (fun i σ G=>σ[1]?=some (some (.ref l))/\G=upd H l (.lst [])) ⟨rfl,rfl⟩ ?_ ?_ ?_
 .rintro i σ G _ ⟨_,rfl⟩
  exact SqL.of (s1 _ _ l1)
 .rintro i x σ G hx _
  cases hx
 rintro σ G ⟨h1,rfl⟩;exact⟨_,h1,q l _ s1 hl jb⟩
theorem jdr(T:ClsC K C)(F:Fun K "booked" "booked" K3 f fd)(nP:Fn P w K mg base 15 "gathered" ["rows","goal"] (spGath C))(Ca:Fn P w K mg base 15 "version_clauses" ["case"] (spClE C))(Cm:Fn P w K mg base 15 "put_clauses" ["case"] (spClE C))(CH:Fn P w K mg base 15 "each_clauses" ["case"] (spClE C))(Cj:Fn P w K mg base 15 "rise_clauses" ["case"] (spClE C))(gU:Fn P w K mg base 14 "each_once" ["things"] spOnce):FnOk P w K mg base CX0 16 f fd ["rows","goal"] spBook:=by
 have sc:FnScope ["rows","goal","case","found"] ["rows","goal"] (ji K3):=fQ;refine F.okZ sc (fun ay A outer s H vs Q E hr h=>?_);obtain⟨a,R,k,v,x,y,c,rfl,hg,ok,q⟩:=h;refine⟨_,(ja (jt (i:=2) sc.nd rfl oQ (jD nP hr (jd (zpv 0) (jd (zpv 1) jc))))
   (ja (jt (i:=3) sc.nd rfl oQ (jG kW (jG kW (jG kW (jD Ca hr (jd (zpv 2) jc)) (jD Cm hr (jd (zpv 2) jc))) (jD CH hr (jd (zpv 2) jc))) (jD Cj hr (jd (zpv 2) jc))))
   (jf (jr (jM (jd (jD gU hr (jd (jL (zpv 2) rfl) jc)) (jd (jD gU hr (jd (zpv 3) jc)) jc))))))),?_⟩
 refine qN ?_
 try dsimp only[j5]
 refine zI ?_;intro _ _;have h12:=hg.2.1;refine⟨_,rfl,_,rfl,a,R,k,v,rfl,hg,ok.ok,fun B H1 s1 I=>?_⟩;refine gQ ?_;refine⟨_,rfl,_,B,_,rfl,I,by omega,ok.f,fun l1 H2 s2 n2 e2=>?_⟩;refine⟨_,rfl,_,B,_,rfl,I.same s2,by omega,ok.f,fun l2 H3 s3 n3 e3=>?_⟩;refine⟨l1,l2,[],[],rfl,rfl,s3 _ _ e2,e3,sm rfl,fun l3 cg=>?_⟩;obtain⟨s4,e4⟩:Same H3 (upd H3 l3 (.lst ([]++[])))/\upd H3 l3 (.lst ([]++[])) l3=some (.lst []):=⟨je cg _,jb⟩
 generalize upd H3 l3 (.lst ([]++[]))=H4 at *;have s_:=s2.trans (s3.trans s4);refine⟨_,rfl,_,B,_,rfl,I.same s_,by omega,ok.f,fun l5 H5 s5 n5 e5=>?_⟩;refine⟨l3,l5,[],[],rfl,rfl,s5 _ _ e4,e5,sm rfl,fun l6 AS=>?_⟩;obtain⟨s6,e6⟩:Same H5 (upd H5 l6 (.lst ([]++[])))/\upd H5 l6 (.lst ([]++[])) l6=some (.lst []):=⟨je AS _,jb⟩
 generalize upd H5 l6 (.lst ([]++[]))=H6 at *;have Et:=s_.trans (s5.trans s6);refine⟨_,rfl,_,B,_,rfl,I.same Et,by omega,ok.f,fun l7 H7 s7 n7 e7=>?_⟩;refine⟨l6,l7,[],[],rfl,rfl,s7 _ _ e6,e7,sm rfl,fun l8 NS=>?_⟩;obtain⟨s8,e8⟩:Same H7 (upd H7 l8 (.lst ([]++[])))/\upd H7 l8 (.lst ([]++[])) l8=some (.lst []):=⟨je NS _,jb⟩
 generalize upd H7 l8 (.lst ([]++[]))=H8 at *;have Es:=Et.trans (s7.trans s8);refine gQ ?_;have I8:=I.same Es;obtain⟨ts,t1,t2,_⟩:=I8.l 1 (by decide);rw[ok.t]at t2;refine⟨_,rfl,B.o,C,B.dx,_,_,rfl,I8.o,T.c,T.n5,rfl,JQ (d:=[]) (is:=[]) t1 t2 (bA _) (fun z=>absurd (show 2<=1 from z) (by decide)) .nil (by show 1<=1000;decide) fun la zs H9 s9 n9 w3 w4=>?_⟩;obtain⟨z,r,rfl,z1,z2⟩:=jg w4
 cases jv z2
 refine⟨_,rfl,JQ (d:=[]) (is:=[]) (s9 _ _ e8) jx (bA _) (fun z=>absurd z (by decide)) .nil (by show 0<=1000;decide) fun lb zs mq dP Mm w5 w6=>⟨sm rfl,fun t ht=>?_⟩⟩
 cases jv w6
 have bp:=je ht (.tup [.ref la,.ref lb]);exact q t la lb z _ (s1.trans (Es.trans (s9.trans (dP.trans bp)))) jb (bp _ _ (dP _ _ w3)) (z1.mono (dP.trans bp)) (bp _ _ w5)
end
abbrev kr:aA:=JU (top 46) 0
abbrev K2:aA:=top 47
structure ClsT(K:av)(C:aa):Prop where
 c:Cls K C
 n1:NoAttr K C "amounts"
 n2:NoAttr K C "bounds"
 n3:NoAttr K C "taken"
structure TA where
 o:aa
 dx:aa
 la:aa
 lb:aa
 lt:aa
 b0:aa
 b1:aa
def jiz(A:TA):List (Str×V):=[("amounts",.ref A.la),("bounds",.ref A.lb),("taken",.ref A.lt)]
def TA.l(A:TA):List aa:=[A.la,A.lb,A.lt,A.b0,A.b1]
structure TalAt(C:aa)(H:Hp)(A:TA)(m:Int)(x0 x1 tk:List V):Prop where
 o:H A.o=some (.ins C A.dx (jiz A))
 la:H A.la=some (.lst [.int 0,.int m])
 lb:H A.lb=some (.lst [.ref A.b0,.ref A.b1])
 lt:H A.lt=some (.lst tk)
 b0:H A.b0=some (.lst x0)
 b1:H A.b1=some (.lst x1)
 nd:A.l.Nodup
theorem TalAt.same{H':Hp}{A:TA}{m:Int}{x0 x1 tk:List V}(h:TalAt C H A m x0 x1 tk)(s:Same H H'):TalAt C H' A m x0 x1 tk:=⟨s _ _ h.o,s _ _ h.la,s _ _ h.lb,s _ _ h.lt,s _ _ h.b0,s _ _ h.b1,h.nd⟩
inductive spTally(C:aa)(vs:List V)(H:Hp)(Q:VK)(E:XK):Prop
 | mk (b dx:aa) (_:vs=[.ref b,.int 2]) (_:H b=some (.ins C dx [])) (_:∀A H',A.o=b->(∀a o,a≠b->H a=some o->H' a=some o)->(∀a∈A.l,H a=none)->TalAt C H' A 0 [] [] []->Q .non H')
inductive spBreaks(vs:List V)(H:Hp)(Q:VK)(E:XK):Prop
 | mk (t l:aa) (x y:Nat) (c m0 m1:Int) (_:vs=[.ref t,.ref l]) (_:H t=some (.tup [.int x,.int y,.int c])) (_:H l=some (.lst [.int m0,.int m1])) (_:x < 2) (_:y < 2) (_:Q (.bl (decide ((if x=0 then m0 else m1) > (if y=0 then m0 else m1)+c))) H)
variable {b dx:aa}{os:List (Prod aa HO)}{G:Hp}
theorem Ini.more{fs:List (Str×V)}{G':Hp}(I:Ini H b C dx fs os G)(s:Same G G'){p:aa}{o:HO}(hp:G p=none)(e:G' p=some o)(ib:∀q∈os,q.1≠p):Ini H b C dx fs (os++[(p,o)]) G':=by
 refine⟨s _ _ I.hb,fun a u bI ha=>s _ _ (I.k a u bI ha),fun q hq=>?_,fun q hq=>?_,?_,fun a ha=>I.f a (s.free ha)⟩
 .rcases bB.mp hq with hq | hq
  .exact⟨s _ _ (I.o q hq).1,(I.o q hq).2⟩
  .cases bf.mp hq
   exact⟨e,I.f _ hp⟩
 .rcases bB.mp hq with hq | hq
  .exact I.ne q hq
  .cases bf.mp hq
   exact (jh I.hb hp).symm
 .rw[bh,g5]
  refine⟨I.nd,by simp,fun x hx y hy=>?_⟩
  cases bf.mp hy
  obtain⟨q,q1,rfl⟩:=ck.mp hx;exact ib q q1
theorem Ini.also{fs:List (Str×V)}(I:Ini H b C dx fs os G){p:aa}{o:HO}(e:G p=some o)(hp:H p=none)(hb:p≠b)(ib:∀q∈os,q.1≠p):Ini H b C dx fs (os++[(p,o)]) G:=by
 refine⟨I.hb,I.k,fun q hq=>?_,fun q hq=>?_,?_,I.f⟩
 .rcases bB.mp hq with hq | hq
  .exact I.o q hq
  .cases bf.mp hq
   exact⟨e,hp⟩
 .rcases bB.mp hq with hq | hq
  .exact I.ne q hq
  .cases bf.mp hq
   exact hb
 .rw[bh,g5]
  refine⟨I.nd,by simp,fun x hx y hy=>?_⟩
  cases bf.mp hy
  obtain⟨q,q1,rfl⟩:=ck.mp hx;exact ib q q1
theorem Ini.fld{fs:List (Str×V)}(I:Ini H b C dx fs os G)(io:List (Str×V)):Ini H b C dx io os (upd G b (.ins C dx io)):=by
 refine⟨jb,fun a u bI ha=>jk bI (I.k a u bI ha),fun q hq=>⟨jk (I.ne q hq) (I.o q hq).1,(I.o q hq).2⟩,I.ne,I.nd,fun a ha=>?_⟩;by_cases z:a=b
 .rw[z,jb]at ha;cases ha
 .rw[jp z]at ha;exact I.f _ ha
section
theorem jeM(T:ClsT K C)(F:Fun K "__init__" "Tally.__init__" kr f fd)(B:Free0 mg):FnOk P w K mg base CX0 1 f fd ["self","count"] (spTally C):=by
 have sc:FnScope ["self","count"] ["self","count"] (ji kr):=fQ;refine F.okZ sc (fun ay A outer s H vs Q E hr h=>?_);obtain⟨b,dx,rfl,hb,q⟩:=h;refine⟨_,(ja (kb (zpv 0) (k9 ["unknown"] [] rfl (j9 (sc:=ji kr) (N:=["self","count"]) rfl rfl (by decide +kernel)) (yo (by rfl) B.range_ (jd (zpv 1) jc)) (fun s H ex=>⟨(jj (i:=0) (show bg (["unknown"]:List Str) by decide +kernel) rfl oQ),kf,jl⟩)) rfl)
   (ja (kb (zpv 0) (k9 ["unknown"] [] rfl (j9 (sc:=ji kr) (N:=["self","count"]) rfl rfl (by decide +kernel)) (yo (by rfl) B.range_ (jd (zpv 1) jc)) (fun s H ex=>⟨(jj (i:=0) (show bg (["unknown"]:List Str) by decide +kernel) rfl oQ),kf,(jK jc)⟩)) rfl)
   (jf (kb (zpv 0) (jK jc) rfl)))),?_⟩
 refine qN ?_
 try dsimp only[j5]
 refine zI ?_;intro _ _;refine⟨_,rfl,_,rfl,by decide,by decide,fun p1 h1=>?_⟩;refine yF (fun i σ' G=>∃v,σ'=[v]/\G=upd H p1 (.lst (DT i (.int 0)))) ⟨none,rfl,rfl⟩ ?_ ?_
 .rintro i σ' G hi ⟨v,rfl,rfl⟩
  unfold kO Jo;refine kY ?_;exact⟨_,jb,(by rw[SX];exact jS (by omega)),_,rfl,by rw[jfL,SM]⟩
 rintro σ' G ⟨v,rfl,rfl⟩;refine⟨_,rfl,b,C,dx,_,rfl,jk (jh hb h1) hb,T.c,T.n1,by show 0 < 1000;decide,?_⟩;have I0:Ini H b C dx [] [] H:=⟨hb,fun _ _ _ e=>e,fun _ h=>(nomatch h),fun _ h=>(nomatch h),fO,fun _ e=>e⟩
 have I1:=I0.step h1 (.lst [.int 0,.int 0]) [("amounts",.ref p1)];refine (?_:jO _ _ _ _ (upd (upd H p1 (.lst [.int 0,.int 0])) b (.ins C dx [("amounts",.ref p1)])));generalize upd (upd H p1 (.lst [.int 0,.int 0])) b (.ins C dx [("amounts",.ref p1)])=G1 at *;refine⟨_,rfl,_,rfl,by decide,by decide,fun p2 h2=>?_⟩;refine yF (fun i σ' G=>∃v bs,σ'=[v]/\bs.length=i/\G p2=some (.lst (bs.map V.ref))/\(∀x∈bs,G x=some (.lst [])/\G1 x=none)/\(p2 :: bs).Nodup/\Same G1 G) ⟨none,[],rfl,rfl,jb,fun _ h=>(nomatch h),by simp,je h2 _⟩ ?_ ?_
 .rintro i σ' G hi ⟨v,bs,rfl,hl,hG,aJ,nd,sG⟩
  unfold kO Jo;refine kY ⟨sm rfl,fun l nn=>?_⟩;have s4:=je nn (.lst []);have mf:=s4 _ _ hG;have n0:l≠p2:=fun z=>by rw[z,hG]at nn;cases nn
  have nb:l ∉ bs:=fun z=>by rw[(aJ l z).1]at nn;cases nn
  obtain⟨EN,gG⟩:=cW.mp nd;refine⟨_,mf,(by rw[aC];exact jS (by omega)),_,bs++[l],rfl,by rw[aO,hl];rfl,by rw[jb,bh];rfl,fun x hx=>?_,?_,fun a o e=>jk (jh e h2) (s4 _ _ (sG _ _ e))⟩
  .rcases bB.mp hx with hx | hx
   .exact⟨jk (fun z=>EN (by rw[<- z];exact hx)) (s4 _ _ (aJ x hx).1),(aJ x hx).2⟩
   .rw[bf.mp hx]
    exact⟨jk n0 jb,sG.free nn⟩
  .refine cW.mpr ⟨fun z=>?_,g5.mpr ⟨gG,by simp,fun x hx y hy=>?_⟩⟩
   .rcases bB.mp z with z | z
    .exact EN z
    .exact n0 (bf.mp z).symm
   .rw[bf.mp hy]
    exact fun z=>nb (by rw[<- z];exact hx)
 rintro σ' G2 ⟨v,bs,rfl,hl,hG,aJ,nd,sG⟩;obtain⟨x0,x1,rfl⟩:∃x0 x1,bs=[x0,x1]:=by
  match bs,hl with
  | [x0,x1],_=>exact⟨x0,x1,rfl⟩
 obtain⟨b0,c0⟩:=aJ x0 (by simp);obtain⟨b1,c1⟩:=aJ x1 (by simp);have sRefl:∀{G:Hp},Same G G:=fun _ _ e=>e
 have n1:∀q∈[(p1,HO.lst [.int 0,.int 0])],∀p,G1 p=none->q.1≠p:=fun q hq p hp=>jh (I1.o q (by simpa using hq)).1 hp
 have gG:=nd;simp only[cW,aN,eV,or_false,not_or]at gG;obtain⟨⟨d1,d2⟩,d3,_⟩:=gG;have I2:Ini H b C dx [("amounts",.ref p1)] ((([]++[(p1,HO.lst [.int 0,.int 0])])++[(p2,.lst [.ref x0,.ref x1])])) G2:=I1.more sG h2 hG fun q hq=>n1 q hq _ h2
 have nb:∀p,G1 p=none->p≠b:=fun p hp=>(jh I1.hb hp).symm
 have J1:=I2.also b0 (I1.f _ c0) (nb _ c0) fun q hq=>by
  rcases bB.mp hq with hq | hq
  .exact n1 q hq _ c0
  .rw[bf.mp hq];exact d1
 have J2:=J1.also b1 (I1.f _ c1) (nb _ c1) fun q hq=>by
  rcases bB.mp hq with hq | hq
  .rcases bB.mp hq with hq | hq
   .exact n1 q hq _ c1
   .rw[bf.mp hq];exact d2
  .rw[bf.mp hq];exact d3
 refine⟨_,rfl,b,C,dx,_,rfl,J2.hb,T.c,T.n2,by show 1 < 1000;decide,?_⟩;have J3:=J2.fld [("amounts",.ref p1),("bounds",.ref p2)];rw[show qW "bounds" (V.ref p2) [("amounts",V.ref p1)]=([("amounts",.ref p1),("bounds",.ref p2)]:List (Str×V)) from rfl];generalize upd G2 b (.ins C dx [("amounts",.ref p1),("bounds",.ref p2)])=G3 at *;refine⟨sm rfl,fun p3 h3=>⟨_,rfl,b,C,dx,_,rfl,jk (jh J3.hb h3) J3.hb,T.c,T.n3,by show 2 < 1000;decide,?_⟩⟩;have J4:=J3.step h3 (.lst []) [("amounts",.ref p1),("bounds",.ref p2),("taken",.ref p3)];rw[show qW "taken" (V.ref p3) [("amounts",V.ref p1),("bounds",V.ref p2)]=([("amounts",.ref p1),("bounds",.ref p2),("taken",.ref p3)]:List (Str×V)) from rfl];generalize upd (upd G3 p3 (.lst [])) b (.ins C dx [("amounts",.ref p1),("bounds",.ref p2),("taken",.ref p3)])=G4 at *;have os:∀p∈[(p1,HO.lst [.int 0,.int 0]),(p2,.lst [.ref x0,.ref x1]),(x0,.lst []),(x1,.lst []),(p3,.lst [])],G4 p.1=some p.2/\H p.1=none:=fun p hp=>J4.o p hp
 have EM:=J4.nd;simp only[bh,bE,oy,lB,bW,cW,aN,eV,or_false,not_or]at EM;obtain⟨⟨a1,a2,a3,a4⟩,⟨a5,a6,a7⟩,⟨a8,a9⟩,i6,_⟩:=EM;refine q ⟨b,dx,p1,p2,p3,x0,x1⟩ G4 rfl J4.k (fun a ha=>?_) ⟨J4.hb,(os (p1,.lst [.int 0,.int 0]) (by simp)).1,(os (p2,.lst [.ref x0,.ref x1]) (by simp)).1,(os (p3,.lst []) (by simp)).1,(os (x0,.lst []) (by simp)).1,(os (x1,.lst []) (by simp)).1,?_⟩
 .have ha:a∈[p1,p2,p3,x0,x1]:=ha
  simp only[aN,eV,or_false]at ha;rcases ha with rfl | rfl | rfl | rfl | rfl
  .exact (os (a,.lst [.int 0,.int 0]) (by simp)).2
  .exact (os (a,.lst [.ref x0,.ref x1]) (by simp)).2
  .exact (os (a,.lst []) (by simp)).2
  .exact (os (a,.lst []) (by simp)).2
  .exact (os (a,.lst []) (by simp)).2
 .show [p1,p2,p3,x0,x1].Nodup
  simp only[cW,aN,eV,or_false,not_or];exact⟨⟨a1,a4,a2,a3⟩,⟨a7,a5,a6⟩,⟨br a9,br i6⟩,a8,fun h=>h.elim,fO⟩
theorem jdq(F:Fun K "breaks" "breaks" K2 f fd):FnOk P w K mg base CX0 1 f fd ["tie","amounts"] spBreaks:=by
 have sc:FnScope ["tie","amounts","x","y","c"] ["tie","amounts"] (ji K2):=fQ;refine F.okZ sc (fun ay A outer s H vs Q E hr h=>?_);obtain⟨t,l,x,y,c,m0,m1,rfl,ht,hl,hx,hy,q⟩:=h;refine⟨_,(ja (kX (zpv 0) (jX rfl (jm (jj (i:=2) sc.nd rfl oQ) (jm (jj (i:=3) sc.nd rfl oQ) (jm (jj (i:=4) sc.nd rfl oQ) jJ)))))
   (jf (jr (yM Yq (jz qx (zpv 1) (zpv 2) (fun _ _=>rfl)) (jG yz (jz qx (zpv 1) (zpv 3) (fun _ _=>rfl)) (zpv 4)) (jF _))))),?_⟩
 refine qN ?_;refine⟨_,rfl,t,_,rfl,SqT.of ht,rfl,_,_,rfl,_,_,rfl,_,_,rfl,rfl,?_⟩;refine gQ ?_;have GB:∀n:Nat,n < 2->atI [V.int m0,V.int m1] (n:Int)=some (.int (if n=0 then m0 else m1)):=fun n hn=>by
  rcases (show n=0\/n=1 by omega) with rfl | rfl <;> rfl
 exact⟨_,rfl,_,rfl,l,_,_,_,rfl,rfl,SqL.of hl,GB x hx,_,rfl,_,rfl,l,_,_,_,rfl,rfl,SqL.of hl,GB y hy,_,rfl,_,_,rfl,rfl,_,_,rfl,rfl,q⟩
end
end LW
namespace L2
open PySem PySem.Spec PyProof.Rows PySem.W
end L2
namespace PySem.W
open PySem PySem.Calls PyProof.Rows PyProof.V PySem.Spec
end PySem.W
namespace L2
open PySem PySem.Spec PyProof.Rows PySem.W
theorem jil{P:az}{w:ax}{k:Key}{v:ad}(h:(j6 P w).is k v=true):RelV (kV k) v:=by
 rw[jbR]at h;rcases kg h with⟨i,t,rfl,rfl⟩ | ⟨x,t,rfl,rfl⟩
 .exact⟨t,rfl⟩
 .exact⟨t,rfl⟩
theorem ja1{P:az}{w:ax}:∀{kvs:List (Key×V)} {vs:List (Key×ad)} {us:List ad},KV kvs vs->us.length=vs.length->(∀(j:Nat) (v:ad),us[j]?=some v->∃k x,vs[j]?=some (k,x)/\(j6 P w).is k v=true)->Vals ((kvs.map (·.1)).map kV) us
 | [],[],us,_,hl,_=>by cases us with
  | nil=>exact .nil
  | cons _ _=>cases hl
 | p :: r,q :: t,[],_,hl,_=>by cases hl
 | p :: r,q :: t,u :: us,h,hl,hs=>by
  unfold KV at h
  cases h with
  | cons h1 h2=>
   obtain⟨k,x,e,z⟩:=hs 0 u rfl;have e:q=(k,x):=bZ e;refine .cons ?_ (ja1 h2 (sk hl) fun j v e=>hs (j+1) v e);have e5:p.1=k:=h1.1.trans (by rw[e]);show RelV (kV p.1) u;rw[e5];exact jil z
theorem YR{X:Cx}(hc:X.calm=true):qX X (.type "list") (fun xs H Q=>∃(d:aa) (kvs:List (Key×V)),xs=[.ref d]/\H d=some (.dK kvs)/\∀l,H l=none->Q (.ref l) (upd H l (.lst ((kvs.map (·.1)).map kV)))):=by
 intro ac s σ H xs us Q I r h;obtain⟨d,kvs,rfl,hd,q⟩:=h;obtain⟨u,rfl,rx⟩:=yP r
 cases rx
 obtain⟨hz,lo,vs,bG,hD⟩:=I.hok d _ hd;obtain⟨ep,nz⟩:=hD.dictAt;have hlen:kvs.length=vs.length:=bG.length;refine kdl_call (kdl_dict (knd:=j6 X.prog X.w) (kvs:=vs) (ep:=ep) lo) (I.ok.hd hc) nz (by rw[<- hlen];exact hz) fun h' tk aP c hk hl ha=>?_
 refine⟨.ref s.heap.objs.size,_,I.laid (t':=tk) hk (aB _) (show ObjOk X.prog X.w _ _ _ (.lst ((kvs.map (·.1)).map kV)) from⟨by rw[aC,aC];exact hz,aP.toList,c,ja1 bG (by rw[cF];exact ha.1) (fun j v e=>ha.2 j v (by rw[<- Ls];exact e)),by rw[Tj];exact hl⟩),rfl,q _ (I.hok.fresh (aB _))⟩
end L2
namespace LW
open PySem L2
abbrev zf:aA:=top 49
abbrev JH:aA:=top 48
inductive spLower(C:aa)(vs:List V)(H:Hp)(Q:VK)(E:XK):Prop
 | mk (A:TA) (m:Int) (x0 tk:List V) (d:aa) (v:V) (_:vs=[.ref A.o,.int 0,.ref d]) (_:TalAt C H A m x0 [] tk) (_:H d=some (.dK [(.inl 1,v)])) (_:∀H',Same H H'->Q .non H')
inductive spTakeIn(C:aa)(vs:List V)(H:Hp)(Q:VK)(E:XK):Prop
 | mk (A:TA) (t:aa) (y:Nat) (c w:Int) (_:vs=[.ref A.o,.ref t,.int w]) (_:TalAt C H A 0 [] [] []) (_:y < 2) (_:H t=some (.tup [.int 1,.int y,.int c])) (_:∀H' m x0 x1 tk,(∀b o,b ∉ A.l->H b=some o->H' b=some o)->TalAt C H' A m x0 x1 tk->¬(y=1/\c < 0)->Q .non H') (_:y=1->c < 0->∀l p H',(∀b o,b ∉ A.l->H b=some o->H' b=some o)->H' l=some (.lst [.ref p])->H' p=some (.tup [.ref t,.int w])->Q (.ref l) H')
structure TaNe(A:TA):Prop where
 ab:A.la≠A.lb
 a_t:A.la≠A.lt
 a0:A.la≠A.b0
 a1:A.la≠A.b1
 b_t:A.lb≠A.lt
 bb0:A.lb≠A.b0
 bb1:A.lb≠A.b1
 t0:A.lt≠A.b0
 t1:A.lt≠A.b1
 b01:A.b0≠A.b1
variable {C:aa}{H:Hp}{A:TA}{x0 x1:List V}
theorem TalAt.ne{m:Int}{tk:List V}(I:TalAt C H A m x0 x1 tk):TaNe A:=by
 have h:[A.la,A.lb,A.lt,A.b0,A.b1].Nodup:=I.nd;simp only[cW,aN,eV,or_false,not_or]at h;obtain⟨⟨a1,a2,a3,a4⟩,⟨a5,a6,a7⟩,⟨a8,a9⟩,i6,_⟩:=h;exact⟨a1,a2,a3,a4,a5,a6,a7,a8,a9,i6⟩
theorem TalAt.bnd{m:Int}{tk:List V}(I:TalAt C H A m x0 x1 tk){y:Nat}(hy:y=0\/y=1)(ys:List V):∃sO oG,TalAt C (upd H (if y=0 then A.b0 else A.b1) (.lst ys)) A m sO oG tk/\(y=0->oG=x1):=by
 have n:=I.ne;rcases hy with rfl | rfl
 .exact⟨ys,x1,⟨jk (jN I.o I.b0 (by intro z;cases z)) I.o,jk n.a0 I.la,jk n.bb0 I.lb,jk n.t0 I.lt,jb,jk n.b01.symm I.b1,I.nd⟩,fun _=>rfl⟩
 .exact⟨x0,ys,⟨jk (jN I.o I.b1 (by intro z;cases z)) I.o,jk n.a1 I.la,jk n.bb1 I.lb,jk n.t1 I.lt,jk n.b01 I.b0,jb,I.nd⟩,fun h=>(nomatch h)⟩
theorem TalAt.tkn{m:Int}{tk:List V}(I:TalAt C H A m x0 x1 tk)(ys:List V):TalAt C (upd H A.lt (.lst ys)) A m x0 x1 ys:=
 ⟨jk (jN I.o I.lt (by intro z;cases z)) I.o,jk I.ne.a_t I.la,jk I.ne.b_t I.lb,jb,jk I.ne.t0.symm I.b0,jk I.ne.t1.symm I.b1,I.nd⟩
theorem TalAt.amt{m:Int}{tk:List V}(I:TalAt C H A m x0 x1 tk)(m':Int):TalAt C (upd H A.la (.lst [.int 0,.int m'])) A m' x0 x1 tk:=
 ⟨jk (jN I.o I.la (by intro z;cases z)) I.o,jb,jk I.ne.ab.symm I.lb,jk I.ne.a_t.symm I.lt,jk I.ne.a0.symm I.b0,jk I.ne.a1.symm I.b1,I.nd⟩
section
variable {P:az}{w:ax}{K:av}{mg:Str->Option ad}{base:au}
def jij(σ:L2.St):Nat:=match σ[5]? with | some (some (V.int k))=>(1 - k).toNat | _=>0
theorem jeW{f:aa}{fd:aD}(T:ClsT K C)(F:Fun K "lower_behind" "lower_behind" zf f fd)(B:Free0 mg):FnOk P w K mg base CX0 1 f fd ["tally","first","reasons"] (spLower C):=by
 have sc:FnScope ["tally","first","reasons","amounts","waiting","at","bound","z","y","c"] ["tally","first","reasons"] (ji zf):=fQ;refine F.okZ sc (fun ay A outer s H vs Q E hr h=>?_);obtain⟨A,m,x0,tk,d,v,rfl,I,hd,q⟩:=h;refine⟨_,(ja (jt (i:=3) sc.nd rfl oQ (jL (zpv 0) rfl))
   (ja (jt (i:=4) sc.nd rfl oQ (yO (YR rfl) (by rfl) B.list_ jal (jd (zpv 2) jc)))
   (ja (jt (i:=5) sc.nd rfl oQ jl)
   (ja (jcO cb (jw jeI (zpv 5) (qa ko (by rfl) B.len_ yJ (jd (zpv 4) jc)) (jF _)) (ja (jW cb rfl (jR (jz qx (jL (zpv 0) rfl) (jz qx (zpv 4) (zpv 5) (fun _ _=>rfl)) (fun _ _=>rfl))) (jj (i:=6) sc.nd rfl oQ) (ja jB
   (jf jB)))
   (jf (jfF (i:=5) sc.nd rfl oQ jl jht))))
   (jf (jr qk)))))),?_⟩
 refine qN ?_
 try dsimp only[j5]
 refine YD ?_;intro r4 r3 r2 r1;refine⟨_,rfl,A.o,C,A.dx,_,_,rfl,I.o,T.c,T.n1,rfl,?_⟩;refine gQ ?_;refine⟨_,rfl,d,_,rfl,hd,fun lw AN=>?_⟩;have s1:=je AN (.lst [.int 1]);have e1:upd H lw (.lst [.int 1]) lw=some (.lst [.int 1]):=jb;refine (?_:kO 4 (.ref lw) _ (upd H lw (.lst [.int 1])) _);generalize upd H lw (.lst [.int 1])=H1 at *;refine gQ ?_;show jO (jby (tC (V.int 0)) (kO 5)) r3 _ _ _;refine gQ ?_;have I1:=I.same s1;refine jd5 (fun σ G=>∃(k:Nat) (u:Option V),σ=[some (V.ref A.o),some (V.int 0),some (V.ref d),some (V.ref A.la),some (V.ref lw),some (V.int k),u,none,none,none]/\G=H1/\k<=1) (fun σ _=>jij σ) ⟨0,none,rfl,rfl,bA _⟩ ?_ ?_
 .rintro σ G ⟨k,u,rfl,rfl,hk⟩
  refine⟨_,rfl,_,rfl,lw,_,rfl,.inl (SqL.of e1),_,_,rfl,rfl,_,rfl,jZ (fun dd=>?_) (fun dd=>?_)⟩
  .have d':k < 1:=by
    have:=Tq dd;simp at this;omega
   obtain rfl:k=0:=by omega
   refine⟨_,rfl,A.o,C,A.dx,_,_,rfl,I1.o,T.c,T.n2,rfl,_,rfl,_,rfl,lw,_,_,_,rfl,rfl,SqL.of e1,jH (j:=0) rfl,A.lb,_,_,_,rfl,rfl,SqL.of I1.lb,jH (j:=1) rfl,A.b1,rfl,⟨_,SqL.of I1.b1⟩,?_⟩;refine kn (xs:=[]) (fun i σ G'=>σ=[some (V.ref A.o),some (V.int 0),some (V.ref d),some (V.ref A.la),some (V.ref lw),some (V.int 0),u,none,none,none]/\G'=G) ⟨rfl,rfl⟩ ?_ ?_ ?_
   .rintro i σ G' _ ⟨rfl,rfl⟩
    exact SqL.of I1.b1
   .rintro i x σ G' hx _
    cases hx
   rintro σ G' ⟨rfl,rfl⟩;refine⟨_,rfl,_,_,rfl,rfl,⟨1,_,rfl,rfl,aB _⟩,?_⟩;show (1 - (0+1:Int)).toNat < (1 - (0:Int)).toNat;decide
  .exact q _ s1
 .intro σ H1 Q1 Q2 hm h
  obtain⟨v1,e1,v2,e2,a1,a2,a3,a4,a5,a6,a7,h1,h2,h3,h⟩:=h;exact⟨v1,e1,v2,e2,a1,a2,a3,a4,a5,a6,a7,h1,h2,h3,hm _ _ h⟩
theorem jdc{f:aa}{fd:aD}(T:ClsT K C)(F:Fun K "take_in" "take_in" JH f fd)(CU:Fn P w K mg base 1 "breaks" ["tie","amounts"] spBreaks)(Cy:Fn P w K mg base 1 "lower_behind" ["tally","first","reasons"] (spLower C)):FnOk P w K mg base CX0 2 f fd ["tally","tie","why"] (spTakeIn C):=by
 have sc:FnScope ["tally","tie","why","x","y","c"] ["tally","tie","why"] (ji JH):=fQ;refine F.okZ sc (fun ay A outer s H vs Q E hr h=>?_);obtain⟨A,t,y,c,w,rfl,I,hy,ht,q1,q2⟩:=h;refine⟨_,(ja (kX (zpv 1) (jX rfl (jm (jj (i:=3) sc.nd rfl oQ) (jm (jj (i:=4) sc.nd rfl oQ) (jm (jj (i:=5) sc.nd rfl oQ) jJ)))))
   (ja (j7 (ql dL iJ iI kE (jz qx (jL (zpv 0) rfl) (zpv 4) (fun _ _=>rfl)) (jd (jM (jd (zpv 1) (jd (zpv 2) jc))) jc)))
   (ja (j7 (ql dL iJ iI kE (jL (zpv 0) rfl) (jd (zpv 4) jc)))
   (ja (jQ (jb7 (jfD (jD CU hr (jd (zpv 1) (jd (jL (zpv 0) rfl) jc))))) (jf (jr qk)) jC)
   (ja (jQ (jw ka (zpv 3) (zpv 4) (jF _)) (jf (jr (jK (jd (jM (jd (zpv 1) (jd (zpv 2) jc))) jc)))) jC)
   (ja (kX (jG yz (jz qx (jL (zpv 0) rfl) (zpv 4) (fun _ _=>rfl)) (zpv 5)) (jfG (jL (zpv 0) rfl) (zpv 3) jej))
   (jf (jr (jD Cy hr (jd (zpv 0) (jd (zpv 4) (jd (jdZ (jcP (zpv 3) (jM (jd (zpv 1) (jd (zpv 2) jc))) jdU) rfl rfl (by simp) (by decide)) jc)))))))))))),?_⟩
 refine qN ?_
 try dsimp only[j5]
 refine jfc ?_;intro r6 r5 r4 r3 r2 r1;refine⟨_,rfl,t,_,rfl,SqT.of ht,rfl,_,_,rfl,_,_,rfl,_,_,rfl,rfl,?_⟩;refine gQ ?_;have pi:y=0\/y=1:=by omega
 let b:=if y=0 then A.b0 else A.b1
 have hb:atI [V.ref A.b0,V.ref A.b1] (y:Int)=some (.ref b):=by rcases pi with rfl | rfl <;> rfl
 have i3:H b=some (.lst []):=by
  rcases pi with rfl | rfl
  .exact I.b0
  .exact I.b1
 refine⟨_,rfl,A.o,C,A.dx,_,_,rfl,I.o,T.c,T.n2,rfl,_,rfl,A.lb,_,_,_,rfl,rfl,SqL.of I.lb,hb,.inl ⟨rfl,_,SqL.of i3⟩,?_⟩;refine⟨_,rfl,_,rfl,sm rfl,fun p hp=>?_⟩;have s1:=je hp (.tup [.ref t,.int w]);have e1:upd H p (.tup [.ref t,.int w]) p=some (.tup [.ref t,.int w]):=jb;have I1:=I.same s1;have fg:=s1 _ _ ht;generalize upd H p (.tup [.ref t,.int w])=H1 at *;refine⟨b,[],_,rfl,rfl,s1 _ _ i3,by decide,?_⟩;obtain⟨x0,x1,I2,E7⟩:=I1.bnd pi [V.ref p];have k2:∀b' o,b' ∉ A.l->H b'=some o->upd H1 b (.lst [V.ref p]) b'=some o:=fun b' o h e=>jk (fun z=>h (by rw[z];show (if y=0 then A.b0 else A.b1)∈[A.la,A.lb,A.lt,A.b0,A.b1];split <;> simp)) (s1 _ _ e)
 have bn:b∈A.l:=by show (if y=0 then A.b0 else A.b1)∈[A.la,A.lb,A.lt,A.b0,A.b1];split <;> simp
 have pn:p ∉ A.l:=fun z=>by
  have z:p∈[A.la,A.lb,A.lt,A.b0,A.b1]:=z;simp only[aN,eV,or_false]at z;rcases z with z | z | z | z | z <;> rw[z]at hp
  .rw[I.la]at hp;cases hp
  .rw[I.lb]at hp;cases hp
  .rw[I.lt]at hp;cases hp
  .rw[I.b0]at hp;cases hp
  .rw[I.b1]at hp;cases hp
 have e2:upd H1 b (.lst [V.ref p]) p=some (.tup [.ref t,.int w]):=jk (fun z=>pn (by rw[z];exact bn)) e1;rw[lB];have I2:TalAt C (upd H1 b (.lst [V.ref p])) A 0 x0 x1 []:=I2;generalize upd H1 b (.lst [V.ref p])=H2 at *;refine⟨_,rfl,A.o,C,A.dx,_,_,rfl,I2.o,T.c,T.n3,rfl,.inl ⟨rfl,_,SqL.of I2.lt⟩,_,rfl,A.lt,[],_,rfl,rfl,I2.lt,by decide,?_⟩;have I3:=I2.tkn [V.int y];have ln:A.lt∈A.l:=by show A.lt∈[A.la,A.lb,A.lt,A.b0,A.b1];simp
 have k3:∀b' o,b' ∉ A.l->H b'=some o->upd H2 A.lt (.lst [V.int y]) b'=some o:=fun b' o h e=>jk (fun z=>h (by rw[z];exact ln)) (k2 _ _ h e)
 have e3:upd H2 A.lt (.lst [V.int y]) p=some (.tup [.ref t,.int w]):=jk (fun z=>pn (by rw[z];exact ln)) e2;have tn:t ∉ A.l:=fun z=>by
  have z:t∈[A.la,A.lb,A.lt,A.b0,A.b1]:=z;simp only[aN,eV,or_false]at z;rcases z with z | z | z | z | z <;> rw[z]at ht
  .rw[I.la]at ht;cases ht
  .rw[I.lb]at ht;cases ht
  .rw[I.lt]at ht;cases ht
  .rw[I.b0]at ht;cases ht
  .rw[I.b1]at ht;cases ht
 have h_:=k3 _ _ tn ht;rw[lB];generalize upd H2 A.lt (.lst [V.int y])=H3 at *;refine⟨_,rfl,_,rfl,A.o,C,A.dx,_,_,rfl,I3.o,T.c,T.n1,rfl,t,A.la,1,y,c,0,0,rfl,h_,I3.la,by decide,hy,?_⟩;have ed:decide ((if (1:Nat)=0 then (0:Int) else 0) > (if y=0 then 0 else 0)+c)=decide (c < 0):=by
  rw[Tt (by decide),ite_self,Tf]
 rw[ed];refine⟨_,rfl,?_⟩;by_cases hc:c < 0
 .rw[Tr hc]
  refine yj ?_;refine⟨_,rfl,_,rfl,rfl,_,rfl,jZ (fun d=>?_) (fun d=>?_)⟩
  .have y1:y=1:=by
    have:=Tq d;simp at this;omega
   refine⟨_,rfl,_,rfl,sm rfl,fun p' cN=>⟨sm rfl,fun l hl=>?_⟩⟩;have s4:=(je cN (.tup [V.ref t,V.int w])).trans (je hl (.lst [V.ref p']));refine q2 y1 hc l p' _ (fun b' o aJ e=>s4 _ _ (k3 _ _ aJ e)) jb (jk (fun z=>by rw[<- z,jb]at hl;cases hl) jb)
  .have y0:y=0:=by
    have:=fun z=>d (Tr z)
    simp at this;omega
   subst y0;refine⟨_,rfl,A.o,C,A.dx,_,_,rfl,I3.o,T.c,T.n1,rfl,_,rfl,A.la,_,_,_,rfl,rfl,SqL.of I3.la,jH (j:=0) rfl,_,rfl,_,_,rfl,rfl,?_⟩;refine⟨_,rfl,A.o,C,A.dx,_,_,rfl,I3.o,T.c,T.n1,rfl,_,rfl,A.la,_,1,1,rfl,rfl,I3.la,rfl,?_⟩;have I4:=I3.amt (0+c);have Mx:A.la∈A.l:=by show A.la∈[A.la,A.lb,A.lt,A.b0,A.b1];simp
   have k4:∀b' o,b' ∉ A.l->H b'=some o->upd H3 A.la (.lst [.int 0,.int (0+c)]) b'=some o:=fun b' o h e=>jk (fun z=>h (by rw[z];exact Mx)) (k3 _ _ h e)
   rw[show ([V.int 0,V.int 0]:List V).set 1 (V.int (0+c))=[.int 0,.int (0+c)] from rfl];generalize upd H3 A.la (.lst [.int 0,.int (0+c)])=H4 at *;refine⟨_,rfl,_,rfl,fun d2 fD=>?_⟩;obtain rfl:x1=[]:=E7 rfl;refine⟨_,rfl,_,rfl,_,rfl,sm rfl,fun p' cN=>⟨by rw[jp (fun z=>by rw[z,jb]at cN;cases cN),jb],[(.inl 1,.ref p')],rfl,by show 1<=15;decide,?_⟩⟩;have s5:=(je fD (.dK [])).trans (je cN (.tup [V.ref t,V.int w]));have s6:Same H4 (upd (upd (upd H4 d2 (.dK [])) p' (.tup [V.ref t,V.int w])) d2 (.dK (Kp [] [(.inl 1,.ref p')]))):=fun b' o e=>jk (jh e fD) (s5 _ _ e)
   refine⟨A,0+c,x0,[V.int 0],d2,.ref p',rfl,I4.same s6,jb,fun H' s'=>?_⟩;exact q1 H' (0+c) x0 [] _ (fun b' o aJ e=>s' _ _ (s6 _ _ (k4 _ _ aJ e))) ((I4.same s6).same s') fun z=>by cases z.1
 .rw[Ts hc]
  refine kY ?_;exact q1 H3 0 x0 x1 _ k3 I3 fun z=>hc z.2
end
end LW
namespace L2
open PySem PySem.Spec PyProof.Rows
variable {X:Cx}
end L2
namespace LW
open PySem L2
abbrev ku:aA:=JU (top 54) 0
abbrev qZ:aA:=top 57
abbrev Jc:aA:=top 58
abbrev Z1:aA:=top 69
abbrev qQ:aA:=top 68
abbrev JL:aA:=top 66
structure ClsN(K:av)(C:aa):Prop where
 c:Cls K C
 n1:NoAttr K C "sources"
 n2:NoAttr K C "places"
def jhl(sl pl:aa):List (Str×V):=[("sources",.ref sl),("places",.ref pl)]
structure NbAt(C:aa)(H:Hp)(no dx sl pl:aa)(xs:List V)(kvs:List (Key×V)):Prop where
 o:H no=some (.ins C dx (jhl sl pl))
 s:H sl=some (.lst xs)
 p:H pl=some (.dK kvs)
variable {C:aa}{H H':Hp}
theorem NbAt.same{no dx sl pl:aa}{xs:List V}{kvs:List (Key×V)}(h:NbAt C H no dx sl pl xs kvs)(s:Same H H'):NbAt C H' no dx sl pl xs kvs:=⟨s _ _ h.o,s _ _ h.s,s _ _ h.p⟩
theorem jcK:eL "repr" = some (.builtin "repr"):=by decide +kernel
structure Src(d:D):Prop where
 t:∃ds,d=.tup ds
 dep:d.depth<=180
 k:OkD d
 big:d.big<=100000
def kQ(d:D):Key:=.inr d.py.shown
inductive spNumbering(C:aa)(vs:List V)(H:Hp)(Q:VK)(E:XK):Prop
 | mk (b dx:aa) (_:vs=[.ref b]) (_:H b=some (.ins C dx [])) (_:∀sl pl H',(∀a o,a≠b->H a=some o->H' a=some o)->H sl=none->H pl=none->NbAt C H' b dx sl pl [] []->Q .non H')
inductive spNumOf(C:aa)(vs:List V)(H:Hp)(Q:VK)(E:XK):Prop
 | mk (no dx sl pl:aa) (xs:List V) (kvs:List (Key×V)) (v:V) (d:D) (_:vs=[.ref no,v]) (_:NbAt C H no dx sl pl xs kvs) (_:xs.length<=10) (_:kvs.length<=10) (_:Held H d v) (_:Src d) (_:∀i,qm kvs (kQ d)=some i->Q i H) (_:qm kvs (kQ d)=none->∀H',(∀b o,b≠sl->b≠pl->H b=some o->H' b=some o)->NbAt C H' no dx sl pl (xs++[v]) (kB kvs (kQ d) (.int xs.length))->Q (.int xs.length) H')
inductive spNumbered(C:aa)(vs:List V)(H:Hp)(Q:VK)(E:XK):Prop
 | mk (no dx sl pl t:aa) (v0 x y:V) (n s u:D) (c:Int) (yN:Nat) (_:vs=[.ref no,.ref t]) (_:NbAt C H no dx sl pl [v0] [(kQ n,.int 0)]) (_:H t=some (.tup [x,y,.int c])) (_:Held H s x) (_:Held H u y) (_:Src s) (_:Src u) (_:kQ s≠kQ n) (_:u=s/\yN=1\/u=n/\yN=0) (_:∀H' p,(∀b o,b≠sl->b≠pl->H b=some o->H' b=some o)->NbAt C H' no dx sl pl [v0,x] [(kQ n,.int 0),(kQ s,.int 1)]->H' p=some (.tup [.int 1,.int yN,.int c])->Q (.ref p) H')
inductive spNamedT(vs:List V)(H:Hp)(Q:VK)(E:XK):Prop
 | mk (t sl:aa) (c:Int) (v0 v1:V) (_:vs=[.ref t,.ref sl]) (_:H t=some (.tup [.int 1,.int 1,.int c])) (_:H sl=some (.lst [v0,v1])) (_:∀v H',Same H H'->Q v H')
inductive spNamedP(vs:List V)(H:Hp)(Q:VK)(E:XK):Prop
 | mk (p l t sl:aa) (c:Int) (v0 v1:V) (_:vs=[.ref p,.ref sl]) (_:H p=some (.tup [.str "ring",.ref l])) (_:H l=some (.lst [.ref t])) (_:H t=some (.tup [.int 1,.int 1,.int c])) (_:H sl=some (.lst [v0,v1])) (_:∀v H',Same H H'->Q v H')
inductive spClosed(vs:List V)(H:Hp)(Q:VK)(E:XK):Prop
 | mk (l p t:aa) (w:Int) (_:vs=[.ref l]) (_:H l=some (.lst [.ref p])) (_:H p=some (.tup [.ref t,.int w])) (_:∀q pp l2 b H',Same H H'->H' q=some (.tup [.ref pp,.int b])->H' pp=some (.tup [.str "ring",.ref l2])->H' l2=some (.lst [.ref t])->Q (.ref q) H')
variable {P:az}{w:ax}{K:av}{mg:Str->Option ad}{base:au}{f:aa}{fd:aD}
section
theorem Z9(T:ClsN K C)(F:Fun K "__init__" "Numbering.__init__" ku f fd):FnOk P w K mg base CX0 1 f fd ["self"] (spNumbering C):=by
 have sc:FnScope ["self"] ["self"] (ji ku):=fQ;refine F.okZ sc (fun ay A outer s H vs Q E hr h=>?_);obtain⟨b,dx,rfl,hb,q⟩:=h;refine⟨_,(ja (kb (zpv 0) (jK jc) rfl)
   (jf (kb (zpv 0) ye rfl))),?_⟩
 refine qN ?_;have I0:Ini H b C dx [] [] H:=⟨hb,fun _ _ _ e=>e,fun _ h=>(nomatch h),fun _ h=>(nomatch h),fO,fun _ e=>e⟩
 refine⟨sm rfl,fun p1 h1=>⟨_,rfl,b,C,dx,_,rfl,jk (jh I0.hb h1) I0.hb,T.c,T.n1,by show 0 < 1000;decide,?_⟩⟩;have I1:=I0.step h1 (.lst []) [("sources",.ref p1)];rw[show qW "sources" (V.ref p1) []=([("sources",.ref p1)]:List (Str×V)) from rfl];generalize upd (upd H p1 (.lst [])) b (.ins C dx [("sources",.ref p1)])=G1 at *;refine fun p2 h2=>⟨_,rfl,b,C,dx,_,rfl,jk (jh I1.hb h2) I1.hb,T.c,T.n2,by show 1 < 1000;decide,?_⟩
 have I2:=I1.step h2 (.dK []) (jhl p1 p2);rw[show qW "places" (V.ref p2) [("sources",V.ref p1)]=(jhl p1 p2:List (Str×V)) from rfl];have o1:=I2.o (p1,.lst []) (by simp);have o2:=I2.o (p2,.dK []) (by simp);exact q p1 p2 _ I2.k o1.2 o2.2 ⟨I2.hb,o1.1,o2.1⟩
theorem jeT(T:ClsN K C)(F:Fun K "number_of" "number_of" qZ f fd)(B:Free0 mg)(nI:mg "repr" = none):FnOk P w K mg base CX0 14 f fd ["numbering","source"] (spNumOf C):=by
 have sc:FnScope ["numbering","source","key"] ["numbering","source"] (ji qZ):=fQ;refine F.okZ sc (fun ay A outer s H vs Q E hr h=>?_);have hu:(A.deeper (gB "number_of" (ji qZ) s.heap.objs.size f ay)).units+1 < cLine:=by have:=hr.units;omega
 have pD:(A.deeper (gB "number_of" (ji qZ) s.heap.objs.size f ay)).units+2+180 < cLine:=by have:=hr.un;omega
 obtain⟨no,dx,sl,pl,xs,kvs,v,d,rfl,I,hx,hk,hv,hd,q1,q2⟩:=h;refine⟨_,(ja (jt (i:=2) sc.nd rfl oQ (qa (ZE (n:=180) hr.gd pD) (by rfl) nI jcK (jd (zpv 1) jc)))
   (ja (jQ (jfE (jbs hu (zpv 2) (jL (zpv 0) rfl))) (ja (JC hu (jL (zpv 0) rfl) (zpv 2) (qa ko (by rfl) B.len_ yJ (jd (jL (zpv 0) rfl) jc)) rfl)
   (jf (j7 (ql dL iJ iI kE (jL (zpv 0) rfl) (jd (zpv 1) jc))))) jC)
   (jf (jr (jd0 hu (jL (zpv 0) rfl) (zpv 2) (fun _ _=>rfl)))))),?_⟩
 refine qN ?_
 try dsimp only[j5]
 refine zI ?_;intro r2 r1;obtain⟨ds,rfl⟩:=hd.t;obtain⟨a,us,rfl,ha,cf⟩:=js hv;refine⟨_,rfl,a,.tup ds,rfl,hv,hd.dep,hd.k,hd.big,?_⟩;refine gQ ?_;refine⟨_,rfl,_,rfl,no,C,dx,_,_,rfl,I.o,T.c,T.n2,rfl,pl,_,rfl,.k (k:=kQ (.tup ds)) I.p,?_⟩
 cases e:qm kvs (kQ (.tup ds)) with
 | some i=>
  refine⟨_,rfl,yj ?_⟩;exact⟨_,rfl,no,C,dx,_,_,rfl,I.o,T.c,T.n2,rfl,_,rfl,pl,i,rfl,by rw[<- e];exact .k (k:=kQ (.tup ds)) I.p,q1 i e⟩
 | none=>
  refine⟨_,rfl,kY ?_⟩;refine⟨_,rfl,no,C,dx,_,_,rfl,I.o,T.c,T.n1,rfl,sl,_,rfl,.inl (SqL.of I.s),_,rfl,no,C,dx,_,_,rfl,I.o,T.c,T.n2,rfl,_,rfl,pl,_,rfl,.k (k:=kQ (.tup ds)) I.p (jS (by omega)),?_⟩;have sp:sl≠pl:=jN I.s I.p (by intro z;cases z);have np:no≠pl:=jN I.o I.p (by intro z;cases z);have ns:no≠sl:=jN I.o I.s (by intro z;cases z);refine⟨_,rfl,no,C,dx,_,_,rfl,jk np I.o,T.c,T.n1,rfl,.inl ⟨rfl,_,SqL.of (jk sp I.s)⟩,_,rfl,sl,xs,_,rfl,rfl,jk sp I.s,jS (by omega),?_⟩;have I2:NbAt C (upd (upd H pl (.dK (kB kvs (kQ (.tup ds)) (.int xs.length)))) sl (.lst (xs++[V.ref a]))) no dx sl pl (xs++[V.ref a]) (kB kvs (kQ (.tup ds)) (.int xs.length)):=⟨jk ns (jk np I.o),jb,jk sp.symm jb⟩
  refine⟨_,rfl,no,C,dx,_,_,rfl,I2.o,T.c,T.n2,rfl,_,rfl,pl,.int xs.length,rfl,?_,q2 e _ (fun b o h1 h2 hb=>jk h1 (jk h2 hb)) I2⟩;rw[show some (V.int xs.length)=qm (kB kvs (kQ (.tup ds)) (.int xs.length)) (kQ (.tup ds)) by rw[JD,Tu rfl]];exact .k (k:=kQ (.tup ds)) I2.p
theorem Ja{k x:Key}{v:V}{r:List (Key×V)}:qm ((k,v) :: r) x=if k=x then some v else qm r x:=by
 unfold qm;by_cases h:k=x
 .rw[mO,Tr h,Tu h]
  rfl
 .rw[mO,Ts h,Tt h]
theorem jaR(F:Fun K "numbered" "numbered" Jc f fd)(mx:Fn P w K mg base 14 "number_of" ["numbering","source"] (spNumOf C)):FnOk P w K mg base CX0 15 f fd ["numbering","tie"] (spNumbered C):=by
 have sc:FnScope ["numbering","tie","x","y","c"] ["numbering","tie"] (ji Jc):=fQ;refine F.okZ sc (fun ay A outer s H vs Q E hr h=>?_);obtain⟨no,dx,sl,pl,t,v0,x,y,n,s,u,c,yN,rfl,I,ht,hx,hy,hs,hu,aW,MC,q⟩:=h;refine⟨_,(ja (kX (zpv 1) (jX rfl (jm (jj (i:=2) sc.nd rfl oQ) (jm (jj (i:=3) sc.nd rfl oQ) (jm (jj (i:=4) sc.nd rfl oQ) jJ)))))
   (jf (jr (jM (jd (jD mx hr (jd (zpv 0) (jd (zpv 2) jc))) (jd (jD mx hr (jd (zpv 0) (jd (zpv 3) jc))) (jd (zpv 4) jc))))))),?_⟩
 refine qN ?_;refine⟨_,rfl,t,_,rfl,SqT.of ht,rfl,_,_,rfl,_,_,rfl,_,_,rfl,rfl,?_⟩;refine gQ ?_;have v1:qm [(kQ n,V.int 0)] (kQ s)=none:=by
  rw[Ja,Tt aW.symm];rfl
 refine⟨_,rfl,_,rfl,no,dx,sl,pl,[v0],_,x,s,rfl,I,by show 1<=10;decide,by show 1<=10;decide,hx,hs,fun i e=>(by rw[v1]at e;cases e),fun _ H1 k1 I1=>?_⟩;have ep:kB [(kQ n,V.int 0)] (kQ s) (V.int ([v0]:List V).length)=[(kQ n,.int 0),(kQ s,.int 1)]:=by
  unfold kB;rw[Tt]
  .rfl
  .show ¬(decide (kQ n=kQ s) || false)=true
   rw[Bool.or_false,decide_eq_true_iff];exact aW.symm
 rw[ep]at I1;have tk:TK H H1:=fun b us e=>k1 _ _ (jN e I.s (by intro z;cases z)) (jN e I.p (by intro z;cases z)) e
 have oM:qm [(kQ n,V.int 0),(kQ s,V.int 1)] (kQ u)=some (.int yN):=by
  rcases MC with⟨rfl,rfl⟩ | ⟨rfl,rfl⟩
  .rw[Ja,Tt aW.symm,Ja,Tu rfl]
   rfl
  .rw[Ja,Tu rfl]
   rfl
 refine⟨_,rfl,_,rfl,no,dx,sl,pl,_,_,y,u,rfl,I1,by show 2<=10;decide,by show 2<=10;decide,tk.held hy,hu,fun i e=>?_,fun e=>by rw[oM]at e;cases e⟩;rw[oM]at e
 cases e
 refine⟨_,rfl,sm rfl,fun p hp=>?_⟩;have s2:=je hp (.tup [V.int 1,V.int yN,V.int c]);exact q _ p (fun b o h1 h2 e=>s2 _ _ (k1 b o h1 h2 e)) (I1.same s2) jb
theorem jdg(F:Fun K "named" "named" Z1 f fd):FnOk P w K mg base CX0 1 f fd ["tie","sources"] spNamedT:=by
 have sc:FnScope ["tie","sources","x","y","c"] ["tie","sources"] (ji Z1):=fQ;refine F.okZ sc (fun ay A outer s H vs Q E hr h=>?_);obtain⟨t,sl,c,v0,v1,rfl,ht,hs,q⟩:=h;refine⟨_,(ja (kX (zpv 0) (jX rfl (jm (jj (i:=2) sc.nd rfl oQ) (jm (jj (i:=3) sc.nd rfl oQ) (jm (jj (i:=4) sc.nd rfl oQ) jJ)))))
   (jf (jr (jM (jd (jz qx (zpv 1) (zpv 2) (fun _ _=>rfl)) (jd (jz qx (zpv 1) (zpv 3) (fun _ _=>rfl)) (jd (zpv 4) jc))))))),?_⟩
 refine qN ?_;refine⟨_,rfl,t,_,rfl,SqT.of ht,rfl,_,_,rfl,_,_,rfl,_,_,rfl,rfl,?_⟩;refine gQ ?_;exact⟨_,rfl,_,rfl,sl,_,_,_,rfl,rfl,SqL.of hs,jH (j:=1) rfl,_,rfl,_,rfl,sl,_,_,_,rfl,rfl,SqL.of hs,jH (j:=1) rfl,_,rfl,sm rfl,fun p hp=>q _ _ (je hp _)⟩
theorem jdh(F:Fun K "named_paper" "named_paper" qQ f fd)(Cv:Fn P w K mg base 1 "named" ["tie","sources"] spNamedT):FnOk P w K mg base CX0 2 f fd ["paper","sources"] spNamedP:=by
 have sc:FnScope ["paper","sources","tie","yes","no"] ["paper","sources"] (ji qQ):=fQ;refine F.okZ sc (fun ay A outer s H vs Q E hr h=>?_);obtain⟨p,l,t,sl,c,v0,v1,rfl,hp,hl,ht,hs,q⟩:=h;refine⟨_,(ja (jQ (jw ka (jz jE (zpv 0) jl (fun _ _=>rfl)) jy (jF _)) (jf (jr (jM (jd jy (jd (k9 ["tie"] [1] rfl (j9 (sc:=ji qQ) (N:=["paper","sources","tie","yes","no"]) rfl rfl (by decide +kernel)) (jR (jz jE (zpv 0) jl (fun _ _=>rfl))) (fun s H ex=>⟨(jj (i:=0) (show bg (["tie","sources"]:List Str) by decide +kernel) rfl oQ),kf,(jD Cv hr (jd (zpv 0) (jd (zpv 1) jc)))⟩)) jc))))) jC)
   (ja jB
   (jf jB))),?_⟩
 refine qN ?_;refine⟨_,rfl,p,_,_,_,rfl,rfl,SqT.of hp,jH (j:=0) rfl,rfl,_,rfl,kY ?_⟩;refine⟨_,rfl,p,_,_,_,rfl,rfl,SqT.of hp,jH (j:=1) rfl,l,rfl,⟨_,SqL.of hl⟩,fun o ho=>?_⟩;have so:=je ho (.lst []);refine kU (xs:=[V.ref t]) (fun i σ' G=>∃u us,σ'=[u,some (.ref sl)]/\Same H G/\G o=some (.lst us)/\us.length=i) ⟨none,[],rfl,so,jb,rfl⟩ ?_ ?_ ?_
 .rintro i σ' G _ ⟨u,us,rfl,sG,_⟩
  exact SqL.of (sG _ _ hl)
 .rintro i x σ' G hx ⟨u,us,rfl,sG,hG,hu⟩
  obtain rfl:i=0:=by have:=(aY.mp hx).1;simpa using this
  cases hx
  unfold kO Jo;refine kY ?_;refine⟨_,rfl,_,rfl,t,sl,c,v0,v1,rfl,sG _ _ ht,sG _ _ hs,fun v G2 s2=>?_⟩;exact⟨us,s2 _ _ hG,by rw[hu];decide,_,_,rfl,fun b o' e=>jk (jh e ho) (s2 _ _ (sG _ _ e)),jb,by rw[aO,hu];rfl⟩
 rintro σ' G ⟨u,us,rfl,sG,hG,hu⟩;exact⟨sm rfl,fun p' cN=>q _ _ (sG.trans (je cN _))⟩
theorem jdo(F:Fun K "closed" "closed" JL f fd):FnOk P w K mg base CX0 1 f fd ["ring"] spClosed:=by
 have sc:FnScope ["ring","bits","tie","why"] ["ring"] (ji JL):=fQ;refine F.okZ sc (fun ay A outer s H vs Q E hr h=>?_);obtain⟨l,p,t,w,rfl,hl,hp,q⟩:=h;refine⟨_,(ja (jt (i:=1) sc.nd rfl oQ jl)
   (ja (jW cb rfl (jR (zpv 0)) (jX rfl (jm (jj (i:=2) sc.nd rfl oQ) (jm (jj (i:=3) sc.nd rfl oQ) jJ))) (jf (jt (i:=1) sc.nd rfl oQ (jG jie (zpv 1) (zpv 3)))))
   (jf (jr (jM (jd (jM (jd jy (jd (k9 ["tie","why"] [] rfl (j9 (sc:=ji JL) (N:=["ring","bits","tie","why"]) rfl rfl (by decide +kernel)) (jR (zpv 0)) (fun s H ex=>⟨(qL (K:=K) (n:=2) rfl (jm (jj (i:=0) (show bg (["tie","why"]:List Str) by decide +kernel) rfl oQ) (jm (jj (i:=1) (show bg (["tie","why"]:List Str) by decide +kernel) rfl oQ) jJ))),kf,(zpv 0)⟩)) jc))) (jd (zpv 1) jc))))))),?_⟩
 try dsimp only[j5]
 refine zI ?_;intro _ _;refine qN ?_;refine gQ ?_;refine⟨_,rfl,l,rfl,⟨_,SqL.of hl⟩,?_⟩;refine kn (xs:=[V.ref p]) (fun i σ G=>∃b u v,σ=[some (.ref l),some (.int b),u,v]/\G=H) ⟨0,none,none,rfl,rfl⟩ ?_ ?_ ?_
 .rintro i σ G _ ⟨b,u,v,rfl,rfl⟩
  exact SqL.of hl
 .rintro i x σ G hx ⟨b,u,v,rfl,rfl⟩
  obtain rfl:i=0:=by have:=(aY.mp hx).1;simpa using this
  cases hx
  refine⟨p,_,rfl,SqT.of hp,rfl,_,_,rfl,_,_,rfl,rfl,?_⟩;exact⟨_,rfl,_,rfl,_,_,rfl,rfl,_,_,_,rfl,rfl⟩
 rintro σ G ⟨b,u,v,rfl,rfl⟩;refine⟨_,rfl,l,rfl,⟨_,SqL.of hl⟩,fun o ho=>?_⟩;have so:=je ho (.lst []);refine kU (xs:=[V.ref p]) (fun i σ' G'=>∃u v us,σ'=[u,v]/\Same G G'/\G' o=some (.lst us)/\us=if i=0 then [] else [V.ref t]) ⟨none,none,[],rfl,so,jb,rfl⟩ ?_ ?_ ?_
 .rintro i σ' G' _ ⟨u,v,us,rfl,sG,_⟩
  exact SqL.of (sG _ _ hl)
 .rintro i x σ' G' hx ⟨u,v,us,rfl,sG,hG,hu⟩
  obtain rfl:i=0:=by have:=(aY.mp hx).1;simpa using this
  cases hx
  obtain rfl:us=[]:=hu;refine⟨p,_,rfl,SqT.of (sG _ _ hp),rfl,_,_,rfl,_,_,rfl,rfl,?_⟩;unfold Jo;refine kY ?_;exact⟨_,rfl,[],hG,by decide,_,_,_,rfl,fun b o' e=>jk (jh e ho) (sG _ _ e),jb,rfl⟩
 rintro σ' G' ⟨u,v,us,rfl,sG,hG,hu⟩;obtain rfl:us=[.ref t]:=hu;refine⟨sm rfl,fun pp dB=>⟨_,rfl,sm rfl,fun q' lT=>?_⟩⟩;have s1:=je dB (.tup [.str "ring",.ref o]);have s2:=je lT (.tup [.ref pp,.int b]);exact q q' pp o b _ (sG.trans (s1.trans s2)) jb (s2 _ _ jb) (s2 _ _ (s1 _ _ hG))
end
abbrev kD:aA:=JU (top 55) 0
abbrev jch:aA:=top 64
abbrev jaH:aA:=top 62
abbrev zR:aA:=top 67
abbrev JJ:aA:=top 60
abbrev Ym:aA:=top 59
structure ClsS(K:av)(C:aa):Prop where
 c:Cls K C
 n1:NoAttr K C "tally"
 n2:NoAttr K C "clauses"
 n3:NoAttr K C "lacking"
 n4:NoAttr K C "hanging"
 n5:NoAttr K C "held"
structure SA where
 o:aa
 dx:aa
 lc:aa
 ll:aa
 lh:aa
 ld:aa
def jiJ(S:SA)(A:TA):List (Str×V):=[("tally",.ref A.o),("clauses",.ref S.lc),("lacking",.ref S.ll),("hanging",.ref S.lh),("held",.ref S.ld)]
structure SeAt(C CT:aa)(H:Hp)(S:SA)(A:TA)(m:Int)(x0 x1 tk:List V)(kvs:List (List Key×V)):Prop where
 o:H S.o=some (.ins C S.dx (jiJ S A))
 c:H S.lc=some (.lst [])
 l:H S.ll=some (.lst [])
 h:H S.lh=some (.dT [])
 d:H S.ld=some (.dT kvs)
 hd:S.lh≠S.ld
 t:TalAt CT H A m x0 x1 tk
 nc:S.lc ∉ A.l
 nl:S.ll ∉ A.l
 oo:S.o≠A.o
variable {CT:aa}{S:SA}{A:TA}{x0 x1:List V}{kvs:List (List Key×V)}
theorem SeAt.same{m:Int}{tk:List V}(h:SeAt C CT H S A m x0 x1 tk kvs)(s:Same H H'):SeAt C CT H' S A m x0 x1 tk kvs:=⟨s _ _ h.o,s _ _ h.c,s _ _ h.l,s _ _ h.h,s _ _ h.d,h.hd,h.t.same s,h.nc,h.nl,h.oo⟩
theorem TalAt.keepB{m:Int}{tk:List V}(I:TalAt C H A m x0 x1 tk){b C' OY:aa}{io:List (Str×V)}(hb:H b=some (.ins C' OY io))(hn:A.o≠b)(k:∀a o,a≠b->H a=some o->H' a=some o):TalAt C H' A m x0 x1 tk:=
 ⟨k _ _ hn I.o,k _ _ (jN I.la hb (by intro z;cases z)) I.la,k _ _ (jN I.lb hb (by intro z;cases z)) I.lb,k _ _ (jN I.lt hb (by intro z;cases z)) I.lt,k _ _ (jN I.b0 hb (by intro z;cases z)) I.b0,k _ _ (jN I.b1 hb (by intro z;cases z)) I.b1,I.nd⟩
inductive spSearch(C CT:aa)(vs:List V)(H:Hp)(Q:VK)(E:XK):Prop
 | mk (b dx lc:aa) (_:vs=[.ref b,.int 2,.ref lc]) (_:H b=some (.ins C dx [])) (_:H lc=some (.lst [])) (_:∀S A H',S.o=b->(∀a o,a≠b->H a=some o->H' a=some o)->(∀a∈A.l,H a=none)->H S.ld=none->SeAt C CT H' S A 0 [] [] [] []->Q .non H')
section
theorem Y7{X:Cx}{pos:Pos}:QE X (.Dict [] [] pos) jg0:=⟨fun ac s σ H Q I h=>
 P6 ⟨.ref s.heap.objs.size,_,I.laid (a:=s.heap.objs.size) (o:=.dT []) (t':=s.toks) (fun _ _ q=>aQ _ q) (aB _) (jfl s.heap I.big),rfl,h _ (I.hok.fresh (aB _))⟩⟩
theorem jdd(T:ClsS K C)(F:Fun K "__init__" "Search.__init__" kD f fd)(B:Free0 mg)(bJ:mg "enumerate" = none)(B5:MkFn P w K mg base 1 "Tally" CT ["self","count"] (spTally CT)):FnOk P w K mg base CX0 3 f fd ["self","count","clauses"] (spSearch C CT):=by
 have sc:FnScope ["self","count","clauses","n","guards","tie","guard"] ["self","count","clauses"] (ji kD):=fQ;refine F.okZ sc (fun ay A outer s H vs Q E hr h=>?_);obtain⟨b,dx,lc,rfl,hb,gh,q⟩:=h;refine⟨_,(ja (kb (zpv 0) (jdX B5 hr (jd (zpv 1) jc)) rfl)
   (ja (kb (zpv 0) (zpv 2) rfl)
   (ja (kb (zpv 0) (k9 ["guards","tie"] [] rfl (j9 (sc:=ji kD) (N:=["self","count","clauses","n","guards","tie","guard"]) rfl rfl (by decide +kernel)) (jR (zpv 2)) (fun s H ex=>⟨(qL (K:=K) (n:=2) rfl (jm (jj (i:=0) (show bg (["guards","tie"]:List Str) by decide +kernel) rfl oQ) (jm (jj (i:=1) (show bg (["guards","tie"]:List Str) by decide +kernel) rfl oQ) jJ))),kf,yd⟩)) rfl)
   (ja (kb (zpv 0) Y7 rfl)
   (ja (jW cb rfl (zD (by rfl) bJ (jd (zpv 2) jc)) (jX rfl (jm (jj (i:=3) sc.nd rfl oQ) (jm (jX rfl (jm (jj (i:=4) sc.nd rfl oQ) (jm (jj (i:=5) sc.nd rfl oQ) jJ))) jJ))) (jf jB))
   (jf (kb (zpv 0) Y7 rfl))))))),?_⟩
 refine qN ?_
 try dsimp only[j5]
 refine jcz ?_;intro _ _ _ _ _;refine⟨_,rfl,fun x wF hx Ff aW=>⟨x,wF,rfl,jb,fun A0 H2 eo k2 hn I2=>⟨rfl,?_⟩⟩⟩;subst eo;have s2:Same H H2:=fun a o e=>k2 _ _ (jh e hx) (by rw[jp (jh e hx),jp (jh e Ff)];exact e)
 have fresh:∀a,upd (upd H wF (.own A0.o)) A0.o (.ins CT wF []) a=none->H a=none:=fun a ha=>by
  cases e:H a with
  | none=>rfl
  | some o=>rw[jp (jh e hx),jp (jh e Ff),e]at ha;cases ha
 have gO:=s2 _ _ hb;have nx:A0.o≠b:=fun z=>by rw[z,hb]at hx;cases hx
 have I0:Ini H2 b C dx [] [] H2:=⟨gO,fun _ _ _ e=>e,fun _ h=>(nomatch h),fun _ h=>(nomatch h),fO,fun _ e=>e⟩
 refine⟨_,rfl,b,C,dx,_,rfl,gO,T.c,T.n1,by show 0 < 1000;decide,?_⟩;have I1:=I0.fld [("tally",.ref A0.o)];rw[show qW "tally" (V.ref A0.o) []=([("tally",.ref A0.o)]:List (Str×V)) from rfl];generalize upd H2 b (.ins C dx [("tally",.ref A0.o)])=G1 at *;refine⟨_,rfl,_,rfl,b,C,dx,_,rfl,I1.hb,T.c,T.n2,by show 1 < 1000;decide,?_⟩;have I3:=I1.fld [("tally",.ref A0.o),("clauses",.ref lc)];rw[show qW "clauses" (V.ref lc) [("tally",V.ref A0.o)]=([("tally",.ref A0.o),("clauses",.ref lc)]:List (Str×V)) from rfl];generalize upd G1 b (.ins C dx [("tally",.ref A0.o),("clauses",.ref lc)])=G3 at *;have bl:lc≠b:=fun z=>by rw[z,hb]at gh;cases gh
 have c3:G3 lc=some (.lst []):=I3.k _ _ bl (s2 _ _ gh);refine⟨_,rfl,lc,rfl,⟨_,SqL.of c3⟩,fun p hp=>?_⟩;refine kU (xs:=[]) (fun i σ' G=>∃u v,σ'=[u,v]/\G=upd G3 p (.lst [])) ⟨none,none,rfl,rfl⟩ ?_ ?_ ?_
 .rintro i σ' G _ ⟨u,v,rfl,rfl⟩
  exact SqL.of (je hp _ _ _ c3)
 .rintro i x σ' G hx _
  cases hx
 rintro σ' G ⟨u,v,rfl,rfl⟩;have I4:=I3.step hp (.lst []) [("tally",.ref A0.o),("clauses",.ref lc),("lacking",.ref p)];refine⟨_,rfl,b,C,dx,_,rfl,jk (jh I3.hb hp) I3.hb,T.c,T.n3,by show 2 < 1000;decide,?_⟩;rw[show qW "lacking" (V.ref p) [("tally",V.ref A0.o),("clauses",V.ref lc)]=([("tally",.ref A0.o),("clauses",.ref lc),("lacking",.ref p)]:List (Str×V)) from rfl];generalize upd (upd G3 p (.lst [])) b (.ins C dx [("tally",.ref A0.o),("clauses",.ref lc),("lacking",.ref p)])=G4 at *;refine fun p2 h2=>⟨_,rfl,b,C,dx,_,rfl,jk (jh I4.hb h2) I4.hb,T.c,T.n4,by show 3 < 1000;decide,?_⟩
 have I5:=I4.step h2 (.dT []) [("tally",.ref A0.o),("clauses",.ref lc),("lacking",.ref p),("hanging",.ref p2)];rw[show qW "hanging" (V.ref p2) [("tally",V.ref A0.o),("clauses",V.ref lc),("lacking",V.ref p)]=([("tally",.ref A0.o),("clauses",.ref lc),("lacking",.ref p),("hanging",.ref p2)]:List (Str×V)) from rfl];generalize upd (upd G4 p2 (.dT [])) b (.ins C dx [("tally",.ref A0.o),("clauses",.ref lc),("lacking",.ref p),("hanging",.ref p2)])=G5 at *;have c5:=I5.k _ _ bl (s2 _ _ gh);refine⟨_,rfl,lc,rfl,⟨_,SqL.of c5⟩,?_⟩;refine y9 (xs:=[]) (fun i σ G=>σ[0]?=some (some (.ref b))/\G=G5) ⟨rfl,rfl⟩ ?_ ?_ ?_
 .rintro i σ G _ ⟨_,rfl⟩
  exact SqL.of c5
 .rintro i y σ G t hy _
  cases hy
 rintro σ G ⟨h0,rfl⟩;refine fun p3 h3=>⟨_,h0,b,C,dx,_,rfl,jk (jh I5.hb h3) I5.hb,T.c,T.n5,by show 4 < 1000;decide,?_⟩
 have I6:=I5.step h3 (.dT []) [("tally",.ref A0.o),("clauses",.ref lc),("lacking",.ref p),("hanging",.ref p2),("held",.ref p3)];rw[show qW "held" (V.ref p3) [("tally",V.ref A0.o),("clauses",V.ref lc),("lacking",V.ref p),("hanging",V.ref p2)]=([("tally",.ref A0.o),("clauses",.ref lc),("lacking",.ref p),("hanging",.ref p2),("held",.ref p3)]:List (Str×V)) from rfl];have o1:=I6.o (p,.lst []) (by simp);have o2:=I6.o (p2,.dT []) (by simp);have o3:=I6.o (p3,.dT []) (by simp);have OJ:p2≠p3:=fun z=>by
  have:=(I5.o (p2,.dT []) (by simp)).1;rw[z,h3]at this
  cases this
 have nc:lc ∉ A0.l:=fun z=>by
  have:=fresh _ (hn lc z);rw[gh]at this
  cases this
 have nl:p ∉ A0.l:=fun z=>by
  have h2:∃o,H2 p=some o:=by
   have z:p∈[A0.la,A0.lb,A0.lt,A0.b0,A0.b1]:=z;simp only[aN,eV,or_false]at z;rcases z with rfl | rfl | rfl | rfl | rfl
   .exact⟨_,I2.la⟩
   .exact⟨_,I2.lb⟩
   .exact⟨_,I2.lt⟩
   .exact⟨_,I2.b0⟩
   .exact⟨_,I2.b1⟩
  obtain⟨o,h2⟩:=h2;rw[I3.f _ hp]at h2
  cases h2
 refine q ⟨b,dx,lc,p,p2,p3⟩ A0 _ rfl (fun a o ha e=>I6.k a o ha (s2 _ _ e)) (fun a ha=>fresh a (hn a ha)) (s2.free (I5.f _ h3)) ⟨I6.hb,I6.k _ _ bl (s2 _ _ gh),o1.1,o2.1,o3.1,OJ,I2.keepB gO nx I6.k,nc,nl,nx.symm⟩
end
inductive spHeed(vs:List V)(H:Hp)(Q:VK)(E:XK):Prop
 | mk (v:V) (lf:aa) (_:vs=[v,.ref lf]) (_:H lf=some (.lst [])) (_:Q .non H)
def Jt(S:SA)(A:TA)(H H':Hp):Prop:=∀b o,b ∉ A.l->b≠S.ld->H b=some o->H' b=some o
inductive spHold(C CT:aa)(vs:List V)(H:Hp)(Q:VK)(E:XK):Prop
 | mk (S:SA) (A:TA) (t:aa) (y:Nat) (c:Int) (_:vs=[.ref S.o,.ref t,.int 0]) (_:SeAt C CT H S A 0 [] [] [] []) (_:y < 2) (_:H t=some (.tup [.int 1,.int y,.int c])) (_:∀H' m x0 x1 tk kvs,Jt S A H H'->SeAt C CT H' S A m x0 x1 tk kvs->¬(y=1/\c < 0)->Q .non H') (_:y=1->c < 0->∀l p H',Jt S A H H'->H' l=some (.lst [.ref p])->H' p=some (.tup [.ref t,.int 0])->Q (.ref l) H')
inductive spOpen(C CT:aa)(vs:List V)(H:Hp)(Q:VK)(E:XK):Prop
 | mk (S:SA) (A:TA) (m:Int) (x0 x1 tk:List V) (kvs:List (List Key×V)) (_:vs=[.ref S.o]) (_:SeAt C CT H S A m x0 x1 tk kvs) (_:Q .non H)
inductive spGone(C CT:aa)(vs:List V)(H:Hp)(Q:VK)(E:XK):Prop
 | mk (S:SA) (A:TA) (m:Int) (x0 x1 tk:List V) (kvs:List (List Key×V)) (_:vs=[.ref S.o,.int 0]) (_:SeAt C CT H S A m x0 x1 tk kvs) (_:Q .non H)
section
theorem jgg(F:Fun K "heed" "heed" jch f fd):FnOk P w K mg base CX0 1 f fd ["search","full"] spHeed:=by
 have sc:FnScope ["search","full","n","guards","tie","ring"] ["search","full"] (ji jch):=fQ;refine F.okZ sc (fun ay A outer s H vs Q E hr h=>?_);obtain⟨v,lf,rfl,hl,q⟩:=h;refine⟨_,(ja (jW cb rfl (jR (zpv 1)) (jj (i:=2) sc.nd rfl oQ) (ja jB
   (ja jB
   (jf jB))))
   (jf (jr qk))),?_⟩
 refine qN ?_;refine⟨_,rfl,lf,rfl,⟨_,SqL.of hl⟩,?_⟩;refine kn (xs:=[]) (fun i σ G=>G=H) rfl ?_ ?_ ?_
 .rintro i σ G _ rfl
  exact SqL.of hl
 .rintro i y σ G hy _
  cases hy
 rintro σ G rfl;exact q
theorem jgb(T:ClsS K C)(TT:ClsT K CT)(F:Fun K "open_guard" "open_guard" zR f fd)(B:Free0 mg)(bJ:mg "enumerate" = none):FnOk P w K mg base CX0 1 f fd ["search"] (spOpen C CT):=by
 have sc:FnScope ["search","best","amounts","n","guards","tie"] ["search"] (ji zR):=fQ;refine F.okZ sc (fun ay A outer s H vs Q E hr h=>?_);obtain⟨S,A,m,x0,x1,tk,kvs,rfl,I,q⟩:=h;refine⟨_,(ja (jt (i:=1) sc.nd rfl oQ qk)
   (ja (jt (i:=2) sc.nd rfl oQ (jL (jL (zpv 0) rfl) rfl))
   (ja (jW cb rfl (zD (by rfl) bJ (jd (jL (zpv 0) rfl) jc)) (jX rfl (jm (jj (i:=3) sc.nd rfl oQ) (jm (jX rfl (jm (jj (i:=4) sc.nd rfl oQ) (jm (jj (i:=5) sc.nd rfl oQ) jJ))) jJ))) (jf jB))
   (ja (jQ (jw jbI (zpv 1) qk (jF _)) (jf (jr qk)) jC)
   (jf jB))))),?_⟩
 refine qN ?_
 try dsimp only[j5]
 refine YD ?_;intro _ _ _ _;refine gQ ?_;refine⟨_,rfl,S.o,C,S.dx,_,_,rfl,I.o,T.c,T.n1,rfl,A.o,CT,A.dx,_,_,rfl,I.t.o,TT.c,TT.n1,rfl,?_⟩;refine gQ ?_;refine⟨_,rfl,S.o,C,S.dx,_,_,rfl,I.o,T.c,T.n2,rfl,S.lc,rfl,⟨_,SqL.of I.c⟩,?_⟩;refine y9 (xs:=[]) (fun i σ G=>σ[1]?=some (some .non)/\G=H) ⟨rfl,rfl⟩ ?_ ?_ ?_
 .rintro i σ G _ ⟨_,rfl⟩
  exact SqL.of I.c
 .rintro i y σ G t hy _
  cases hy
 rintro σ G ⟨h1,rfl⟩;refine⟨_,h1,rfl,_,rfl,jZ (fun _=>q) (fun d=>absurd (Tr rfl) d)⟩
theorem jgh(F:Fun K "gone_on" "gone_on" JJ f fd)(Cp:Fn P w K mg base 1 "open_guard" ["search"] (spOpen C CT)):FnOk P w K mg base CX0 2 f fd ["search","level"] (spGone C CT):=by
 have sc:FnScope ["search","level","guard","many","amounts","bit","yes","no"] ["search","level"] (ji JJ):=fQ;refine F.okZ sc (fun ay A outer s H vs Q E hr h=>?_);obtain⟨S,A,m,x0,x1,tk,kvs,rfl,I,q⟩:=h;refine⟨_,(ja (jt (i:=2) sc.nd rfl oQ (jD Cp hr (jd (zpv 0) jc)))
   (ja (jQ (jw jbI (zpv 2) qk (jF _)) (jf (jr qk)) jC)
   (ja jB
   (ja jB
   (ja jB
   (ja jB
   (ja jB
   (ja jB
   (ja jB
   (ja jB
   (jf jB))))))))))),?_⟩
 refine qN ?_;refine⟨_,rfl,S,A,m,x0,x1,tk,kvs,rfl,I,?_⟩;refine gQ ?_;exact⟨_,rfl,rfl,_,rfl,jZ (fun _=>q) (fun d=>absurd (Tr rfl) d)⟩
end
inductive spBegun(C CT:aa)(vs:List V)(H:Hp)(Q:VK)(E:XK):Prop
 | mk (S:SA) (A:TA) (l t:aa) (y:Nat) (c:Int) (_:vs=[.ref S.o,.ref l]) (_:SeAt C CT H S A 0 [] [] [] []) (_:y < 2) (_:H l=some (.lst [.ref t])) (_:l ∉ A.l) (_:H t=some (.tup [.int 1,.int y,.int c])) (_:∀H' m x0 x1 tk kvs,Jt S A H H'->SeAt C CT H' S A m x0 x1 tk kvs->¬(y=1/\c < 0)->Q .non H') (_:y=1->c < 0->∀q pp l2 b H',Jt S A H H'->H' q=some (.tup [.ref pp,.int b])->H' pp=some (.tup [.str "ring",.ref l2])->H' l2=some (.lst [.ref t])->Q (.ref q) H')
theorem SeAt.held{m:Int}{tk:List V}(I:SeAt C CT H S A m x0 x1 tk kvs)(kv:List (List Key×V)):SeAt C CT (upd H S.ld (.dT kv)) S A m x0 x1 tk kv/\Jt S A H (upd H S.ld (.dT kv)):=
 have k:∀{b:aa} {o:HO},H b=some o->(∀z,o≠.dT z)->upd H S.ld (.dT kv) b=some o:=fun e n=>jk (fun z=>by rw[z,I.d]at e;exact n kvs (bZ e).symm) e
 ⟨⟨k I.o (fun _ z=>nomatch z),k I.c (fun _ z=>nomatch z),k I.l (fun _ z=>nomatch z),jk I.hd I.h,jb,I.hd,⟨k I.t.o (fun _ z=>nomatch z),k I.t.la (fun _ z=>nomatch z),k I.t.lb (fun _ z=>nomatch z),k I.t.lt (fun _ z=>nomatch z),k I.t.b0 (fun _ z=>nomatch z),k I.t.b1 (fun _ z=>nomatch z),I.t.nd⟩,I.nc,I.nl,I.oo⟩,fun b o _ hd e=>jk hd e⟩
theorem SeAt.taken{m m':Int}{tk sO oG Ec:List V}(I:SeAt C CT H S A m x0 x1 tk kvs)(k:∀b o,b ∉ A.l->H b=some o->H' b=some o)(t:TalAt CT H' A m' sO oG Ec):SeAt C CT H' S A m' sO oG Ec kvs:=by
 have lst:∀b∈A.l,∃xs,H b=some (.lst xs):=fun b hb=>by
  have hb:b∈[A.la,A.lb,A.lt,A.b0,A.b1]:=hb;simp only[aN,eV,or_false]at hb;rcases hb with rfl | rfl | rfl | rfl | rfl
  .exact⟨_,I.t.la⟩
  .exact⟨_,I.t.lb⟩
  .exact⟨_,I.t.lt⟩
  .exact⟨_,I.t.b0⟩
  .exact⟨_,I.t.b1⟩
 have n:∀{b:aa} {o:HO},H b=some o->(∀z,o≠.lst z)->b ∉ A.l:=fun e hn z=>by
  obtain⟨xs,h⟩:=lst _ z;rw[h]at e;exact hn xs (bZ e).symm
 exact⟨k _ _ (n I.o (fun _ z=>nomatch z)) I.o,k _ _ I.nc I.c,k _ _ I.nl I.l,k _ _ (n I.h (fun _ z=>nomatch z)) I.h,k _ _ (n I.d (fun _ z=>nomatch z)) I.d,I.hd,t,I.nc,I.nl,I.oo⟩
section
theorem jgf(T:ClsS K C)(F:Fun K "hold" "hold" jaH f fd)(Cc:Fn P w K mg base 2 "take_in" ["tally","tie","why"] (spTakeIn CT))(nO:Fn P w K mg base 1 "heed" ["search","full"] spHeed):FnOk P w K mg base CX0 3 f fd ["search","tie","bits"] (spHold C CT):=by
 have sc:FnScope ["search","tie","bits","full","n","ring"] ["search","tie","bits"] (ji jaH):=fQ;refine F.okZ sc (fun ay A outer s H vs Q E hr h=>?_);have hu:(A.deeper (gB "hold" (ji jaH) s.heap.objs.size f ay)).units+1 < cLine:=by have:=hr.units;omega
 obtain⟨S,A,t,y,c,rfl,I,hy,ht,q1,q2⟩:=h;refine⟨_,(ja (JC hu (jL (zpv 0) rfl) (zpv 1) (zpv 2) rfl)
   (ja (jt (i:=3) sc.nd rfl oQ (jK jc))
   (ja (jW cb rfl (jR (Kf hu (jL (zpv 0) rfl) (zpv 1) (jK jc) ⟨rfl,rfl,rfl,rfl⟩)) (jj (i:=4) sc.nd rfl oQ) (ja jB
   (jf jB)))
   (ja (jt (i:=5) sc.nd rfl oQ (jD Cc hr (jd (jL (zpv 0) rfl) (jd (zpv 1) (jd (zpv 2) jc)))))
   (ja (jQ (jw Z5 (zpv 5) qk (jF _)) (jf (jr (zpv 5))) jC)
   (jf (jr (jD nO hr (jd (zpv 0) (jd (zpv 3) jc)))))))))),?_⟩
 refine qN ?_
 try dsimp only[j5]
 refine jcz ?_;intro r5 r4 r3 r2 r1;refine⟨_,rfl,_,rfl,S.o,C,S.dx,_,_,rfl,I.o,T.c,T.n5,rfl,_,rfl,S.ld,_,rfl,.inr ⟨[],[.inl 1,.inl y,.inl c],t,I.d,rfl,ht,by decide,rfl⟩,?_⟩;obtain⟨I1,k1⟩:=I.held (kB [] ([.inl 1,.inl (y:Int),.inl c]:List Key) (V.int 0));have fg:upd H S.ld (HO.dT (kB [] ([.inl 1,.inl (y:Int),.inl c]:List Key) (V.int 0))) t=some (.tup [.int 1,.int y,.int c]):=jk (jN ht I.d (by intro z;cases z)) ht;generalize kB [] ([.inl 1,.inl (y:Int),.inl c]:List Key) (V.int 0)=kv at *;generalize upd H S.ld (HO.dT kv)=H1 at *;refine⟨sm rfl,fun lf AQ=>?_⟩;refine gQ ?_;have s2:=je AQ (.lst []);have e2:upd H1 lf (.lst []) lf=some (.lst []):=jb;have I2:=I1.same s2;have fe:=s2 _ _ fg;have fn:lf ∉ A.l:=fun z=>by
  obtain⟨xs,h⟩:∃o,H1 lf=some o:=by
   have z:lf∈[A.la,A.lb,A.lt,A.b0,A.b1]:=z;simp only[aN,eV,or_false]at z;rcases z with rfl | rfl | rfl | rfl | rfl
   .exact⟨_,I1.t.la⟩
   .exact⟨_,I1.t.lb⟩
   .exact⟨_,I1.t.lt⟩
   .exact⟨_,I1.t.b0⟩
   .exact⟨_,I1.t.b1⟩
  rw[h]at AQ
  cases AQ
 generalize upd H1 lf (.lst [])=H2 at *;refine⟨_,rfl,S.o,C,S.dx,_,_,rfl,I2.o,T.c,T.n4,rfl,S.lh,rfl,.inr ⟨_,.inl I2.h⟩,_,rfl,sm rfl,fun l0 h0=>?_⟩;have s3:=je h0 (.lst []);have e3:upd H2 l0 (.lst []) l0=some (.lst []):=jb;have I3:=I2.same s3;have h_:=s3 _ _ fe;have OV:=s3 _ _ e2;generalize upd H2 l0 (.lst [])=H3 at *;refine⟨none,.inr ⟨[],[.inl 1,.inl y,.inl c],t,.inl I3.h,rfl,h_,rfl⟩,l0,rfl,⟨_,SqL.of e3⟩,?_⟩;refine kn (xs:=[]) (fun i σ G=>∃u,σ=[some (.ref S.o),some (.ref t),some (.int 0),some (.ref lf),u,none]/\G=H3) ⟨none,rfl,rfl⟩ ?_ ?_ ?_
 .rintro i σ G _ ⟨u,rfl,rfl⟩
  exact SqL.of e3
 .rintro i x σ G hx _
  cases hx
 rintro σ G ⟨u,rfl,rfl⟩;have kG:∀b o,b ∉ A.l->b≠S.ld->H b=some o->G b=some o:=fun b o h1 h2 e=>s3 _ _ (s2 _ _ (k1 b o h1 h2 e))
 refine⟨_,rfl,S.o,C,S.dx,_,_,rfl,I3.o,T.c,T.n1,rfl,_,rfl,_,rfl,A,t,y,c,0,rfl,I3.t,hy,h_,fun H4 m x0 x1 tk k4 I4 hn=>?_,fun y1 hc l p H4 k4 e4 e5=>?_⟩
 .refine gQ ?_
  refine⟨_,rfl,rfl,_,rfl,jZ (fun d=>absurd d (by rw[Tr rfl];exact Lo)) (fun _=>?_)⟩;exact⟨_,rfl,_,rfl,_,lf,rfl,k4 _ _ fn OV,q1 H4 m x0 x1 tk _ (fun b o h1 h2 e=>k4 _ _ h1 (kG b o h1 h2 e)) (I3.taken k4 I4) hn⟩
 .refine gQ ?_
  refine⟨_,rfl,rfl,_,rfl,jZ (fun _=>?_) (fun d=>absurd (by rw[Ts (fun z=>nomatch z)];rfl) d)⟩;exact⟨_,rfl,q2 y1 hc l p H4 (fun b o h1 h2 e=>k4 _ _ h1 (kG b o h1 h2 e)) e4 e5⟩
theorem je0(T:ClsS K C)(F:Fun K "begun" "begun" Ym f fd)(bJ:mg "enumerate" = none)(nO:Fn P w K mg base 1 "heed" ["search","full"] spHeed)(CC:Fn P w K mg base 3 "hold" ["search","tie","bits"] (spHold C CT))(CP:Fn P w K mg base 1 "closed" ["ring"] spClosed)(CF:Fn P w K mg base 2 "gone_on" ["search","level"] (spGone C CT)):FnOk P w K mg base CX0 4 f fd ["search","ties"] (spBegun C CT):=by
 have sc:FnScope ["search","ties","free","ring","tie"] ["search","ties"] (ji Ym):=fQ;refine F.okZ sc (fun ay A outer s H vs Q E hr h=>?_);obtain⟨S,A,l,t,y,c,rfl,I,hy,hl,dX,ht,q1,q2⟩:=h;refine⟨_,(ja (kZ (i:=2) sc.nd rfl oQ ["n","lacking"] [] rfl (j9 (sc:=ji Ym) (N:=["search","ties","free","ring","tie"]) rfl rfl (by decide +kernel)) (zD (by rfl) bJ (jd (jL (zpv 0) rfl) jc)) (fun s H ex=>⟨(qL (K:=K) (n:=2) rfl (jm (jj (i:=0) (show bg (["n","lacking"]:List Str) by decide +kernel) rfl oQ) (jm (jj (i:=1) (show bg (["n","lacking"]:List Str) by decide +kernel) rfl oQ) jJ))),(zC (jw ka (zpv 1) jl (jF _))),(zpv 0)⟩))
   (ja (jt (i:=3) sc.nd rfl oQ (jD nO hr (jd (zpv 0) (jd (zpv 2) jc))))
   (ja (jW cb rfl (jR (zpv 1)) (jj (i:=4) sc.nd rfl oQ) (jf (jQ (jw jbI (zpv 3) qk (jF _)) (jf (jt (i:=3) sc.nd rfl oQ (jD CC hr (jd (zpv 0) (jd (zpv 4) (jd jl jc)))))) jC)))
   (ja (jQ (jw Z5 (zpv 3) qk (jF _)) (jf (jr (jD CP hr (jd (zpv 3) jc)))) jC)
   (jf (jr (jD CF hr (jd (zpv 0) (jd jl jc))))))))),?_⟩
 refine qN ?_
 try dsimp only[j5]
 refine YD ?_;intro r4 r3 r2 r1;refine⟨_,rfl,S.o,C,S.dx,_,_,rfl,I.o,T.c,T.n3,rfl,S.ll,rfl,⟨_,SqL.of I.l⟩,fun p hp=>?_⟩;have s1:=je hp (.lst []);have I1:=I.same s1;have fi:=s1 _ _ hl;have fg:=s1 _ _ ht;have e1:upd H p (.lst []) p=some (.lst []):=jb;refine Jm (Ite K S.ll) 0 (fun i σ' G=>G=upd H p (.lst [])) rfl ?_ (fun i _ _ h=>absurd h (IW i)) (fun i _ _ h=>absurd h (IW i)) ?_
 .rintro σ' G rfl
  exact⟨[],SqL.of I1.l,aB _⟩
 rintro σ' G rfl;generalize upd H p (.lst [])=H1 at *;refine gQ ?_;refine⟨_,rfl,_,rfl,_,p,rfl,e1,?_⟩;refine gQ ?_;refine⟨_,rfl,l,rfl,⟨_,SqL.of fi⟩,?_⟩;have kS:∀{G:Hp},Jt S A H1 G->Jt S A H G:=fun k b o h1 h2 e=>k b o h1 h2 (s1 _ _ e)
 have EW:l≠S.ld:=fun z=>by have:=I1.d;rw[<- z,fi]at this;cases this
 refine kn (xs:=[V.ref t]) (fun i σ G=>∃u v,σ=[some (.ref S.o),some (.ref l),some (.ref p),some v,u]/\G l=some (.lst [.ref t])/\((i=0/\v=.non/\G=H1)\/i=1/\((v=.non/\¬(y=1/\c < 0)/\Jt S A H1 G/\∃m x0 x1 tk kvs,SeAt C CT G S A m x0 x1 tk kvs)\/(y=1/\c < 0/\Jt S A H1 G/\∃r q,v=.ref r/\G r=some (.lst [.ref q])/\G q=some (.tup [.ref t,.int 0]))))) ⟨none,.non,rfl,fi,.inl ⟨rfl,rfl,rfl⟩⟩ ?_ ?_ ?_
 .rintro i σ G _ ⟨u,v,rfl,h,_⟩
  exact SqL.of h
 .rintro i x σ G hx ⟨u,v,rfl,_,h⟩
  obtain rfl:i=0:=by have:=(aY.mp hx).1;simpa using this
  cases hx
  obtain⟨_,rfl,rfl⟩:=h.resolve_right fun z=>absurd z.1 (by decide)
  refine gQ ?_;refine⟨_,rfl,rfl,_,rfl,jZ (fun _=>?_) (fun d=>absurd (Tr rfl) d)⟩;refine⟨_,rfl,_,rfl,S,A,t,y,c,rfl,I1,hy,fg,fun H2 m x0 x1 tk kvs k2 I2 hn=>?_,fun y1 hc r q H2 k2 e2 e3=>?_⟩
  .exact⟨_,_,rfl,k2 _ _ dX EW fi,.inr ⟨rfl,.inl ⟨rfl,hn,k2,m,x0,x1,tk,kvs,I2⟩⟩⟩
  .exact⟨_,_,rfl,k2 _ _ dX EW fi,.inr ⟨rfl,.inr ⟨y1,hc,k2,r,q,rfl,e2,e3⟩⟩⟩
 rintro σ G ⟨u,v,rfl,_,h⟩;rcases (h.resolve_left fun z=>absurd z.1 (show ¬1=0 by decide)).2 with⟨rfl,hn,k2,m,x0,x1,tk,kvs,I2⟩ | ⟨y1,hc,k2,r,q,rfl,e2,e3⟩
 .refine⟨_,rfl,rfl,_,rfl,jZ (fun d=>absurd d (by rw[Tr rfl];exact Lo)) (fun _=>?_)⟩
  exact⟨_,rfl,S,A,m,x0,x1,tk,kvs,rfl,I2,q1 G m x0 x1 tk kvs (kS k2) I2 hn⟩
 .refine⟨_,rfl,rfl,_,rfl,jZ (fun _=>?_) (fun d=>absurd (by rw[Ts (fun z=>nomatch z)];rfl) d)⟩
  exact⟨_,rfl,r,q,t,0,rfl,e2,e3,fun q' pp l2 b H3 s3 a1 a2 a3=>q2 y1 hc q' pp l2 b H3 (kS fun b o h1 h2 e=>s3 _ _ (k2 b o h1 h2 e)) a1 a2 a3⟩
end
abbrev zA:aA:=top 56
abbrev zl:D:=.tup [.str "nought"]
inductive spSearched(o1:aa)(vs:List V)(H:Hp)(Q:VK)(E:XK):Prop
 | mk (t la lb z:aa) (x y:V) (s u:D) (c:Int) (_:vs=[.ref t]) (_:H t=some (.tup [.ref la,.ref lb])) (_:H la=some (.lst [.ref z])) (_:H lb=some (.lst [])) (_:H z=some (.tup [x,y,.int c])) (_:Held H s x) (_:Held H u y) (_:Held H zl (.ref o1)) (_:Src s) (_:Src u) (_:kQ s≠kQ zl) (_:u=s\/u=zl) (_:u=s->c < 0->∀p v H',Same H H'->H' p=some (.tup [.str "paper",v])->Q (.ref p) H') (_:¬(u=s/\c < 0)->∀p l a b i j H',Same H H'->H' p=some (.tup [.str "amounts",.ref l])->H' l=some (.lst [.ref a,.ref b])->H' a=some (.tup [.ref o1,.int i])->H' b=some (.tup [x,.int j])->Q (.ref p) H')
theorem zM:Src zl:=⟨⟨_,rfl⟩,by decide,⟨(show ∀c∈("nought" : Str).cps.toList,(97<=c/\c<=122)\/c=46 by decide +kernel),trivial⟩,by decide +kernel⟩
section
variable {CN CS o1:aa}
theorem jaQ(T:ClsN K CN)(TS:ClsS K CS)(TT:ClsT K CT)(G1:mg "NOUGHT" = some (.ref o1))(F:Fun K "searched" "searched" zA f fd)(B:Free0 mg)(bJ:mg "enumerate" = none)(B7:MkFn P w K mg base 1 "Numbering" CN ["self"] (spNumbering CN))(B6:MkFn P w K mg base 3 "Search" CS ["self","count","clauses"] (spSearch CS CT))(mx:Fn P w K mg base 14 "number_of" ["numbering","source"] (spNumOf CN))(Ct:Fn P w K mg base 15 "numbered" ["numbering","tie"] (spNumbered CN))(CY:Fn P w K mg base 4 "begun" ["search","ties"] (spBegun CS CT))(Cu:Fn P w K mg base 2 "named_paper" ["paper","sources"] spNamedP):FnOk P w K mg base CX0 16 f fd ["book"] (spSearched o1):=by
 have sc:FnScope ["book","numbering","nought","ties","clauses","guards","tie","search","found","amounts"] ["book"] (ji zA):=fQ;refine F.okZ sc (fun ay A outer s H vs Q E hr h=>?_);obtain⟨t,la,lb,z,x,y,s,u,c,rfl,ht,fC,nk,hz,hx,hy,ho,hs,db,aW,Np,q1,q2⟩:=h;refine⟨_,(ja (jt (i:=1) sc.nd rfl oQ (jb9 B7 hr))
   (ja (jt (i:=2) sc.nd rfl oQ (jD mx hr (jd (zpv 1) (jd (qq (v:=.ref o1) (by rfl) G1 rfl) jc))))
   (ja (kZ (i:=3) sc.nd rfl oQ ["tie"] [1] rfl (j9 (sc:=ji zA) (N:=["book","numbering","nought","ties","clauses","guards","tie","search","found","amounts"]) rfl rfl (by decide +kernel)) (jR (jz jE (zpv 0) jl (fun _ _=>rfl))) (fun s H ex=>⟨(jj (i:=0) (show bg (["tie","numbering"]:List Str) by decide +kernel) rfl oQ),kf,(jD Ct hr (jd (zpv 1) (jd (zpv 0) jc)))⟩))
   (ja (jt (i:=4) sc.nd rfl oQ (jK jc))
   (ja (jW cb rfl (jR (jz jE (zpv 0) jl (fun _ _=>rfl))) (jX rfl (jm (jj (i:=5) sc.nd rfl oQ) (jm (jj (i:=6) sc.nd rfl oQ) jJ))) (jf jB))
   (ja (jt (i:=7) sc.nd rfl oQ (jdX B6 hr (jd (qa ko (by rfl) B.len_ yJ (jd (jL (zpv 1) rfl) jc)) (jd (zpv 4) jc))))
   (ja (jt (i:=8) sc.nd rfl oQ (jD CY hr (jd (zpv 7) (jd (zpv 3) jc))))
   (ja (jQ (jw Z5 (zpv 8) qk (jF _)) (jf (jr (jM (jd jy (jd (jD Cu hr (jd (jz jE (zpv 8) jl (fun _ _=>rfl)) (jd (jL (zpv 1) rfl) jc))) jc))))) jC)
   (ja (jt (i:=9) sc.nd rfl oQ (jL (jL (zpv 7) rfl) rfl))
   (jf (jr (jM (jd jy (jd (k9 ["n","source"] [2,9] rfl (j9 (sc:=ji zA) (N:=["book","numbering","nought","ties","clauses","guards","tie","search","found","amounts"]) rfl rfl (by decide +kernel)) (zD (by rfl) bJ (jd (jL (zpv 1) rfl) jc)) (fun s H ex=>⟨(qL (K:=K) (n:=2) rfl (jm (jj (i:=0) (show bg (["n","source","nought","amounts"]:List Str) by decide +kernel) rfl oQ) (jm (jj (i:=1) (show bg (["n","source","nought","amounts"]:List Str) by decide +kernel) rfl oQ) jJ))),kf,(jM (jd (zpv 1) (jd (jG Z4 (jz (ja3 (K:=K)) (zpv 3) (zpv 0) (fun _ _=>rfl)) (jz (ja3 (K:=K)) (zpv 3) (zpv 2) (fun _ _=>rfl))) jc)))⟩)) jc)))))))))))))),?_⟩
 refine qN ?_
 try dsimp only[j5]
 refine jiq ?_;intro r7 r6 r5 r4 r3 r2 r1;refine (fun no fw lW FA hne0=>⟨no,fw,rfl,jb,fun sl pl H1 k1 Fi cy I1=>⟨rfl,?_⟩⟩);have s1:Same H H1:=fun a o e=>k1 _ _ (jh e lW) (by rw[jp (jh e lW),jp (jh e FA)];exact e)
 have fresh:∀a,upd (upd H fw (.own no)) no (.ins CN fw []) a=none->H a=none:=fun a ha=>by
  cases e:H a with
  | none=>rfl
  | some o=>rw[jp (jh e lW),jp (jh e FA),e]at ha;cases ha
 have Fh:=fresh _ Fi;have Fs:=fresh _ cy;clear fresh Fi cy k1;refine gQ ?_;refine⟨_,rfl,no,fw,sl,pl,[],[],.ref o1,zl,rfl,I1,by decide,by decide,ho.mono s1,zM,fun i e=>(nomatch e),fun _ H2 k2 I2=>?_⟩;have s2:Same H H2:=fun a o e=>k2 a o (jh e Fh) (jh e Fs) (s1 _ _ e)
 have I2:NbAt CN H2 no fw sl pl [.ref o1] [(kQ zl,.int 0)]:=I2;clear k2 I1 s1;refine gQ ?_;refine⟨_,rfl,t,_,_,_,rfl,rfl,SqT.of (s2 _ _ ht),jH (j:=0) rfl,la,rfl,⟨_,SqL.of (s2 _ _ fC)⟩,fun p hp=>?_⟩;have sp:=je hp (.lst []);have gf:=s2.free hp;have yN:∃yN:Nat,u=s/\yN=1\/u=zl/\yN=0:=by
  rcases Np with h | h
  .exact⟨1,.inl ⟨h,rfl⟩⟩
  .exact⟨0,.inr ⟨h,rfl⟩⟩
 obtain⟨yN,tE⟩:=yN;have EC:p≠sl:=fun z=>by rw[z,I2.s]at hp;cases hp
 have EB:p≠pl:=fun z=>by rw[z,I2.p]at hp;cases hp
 refine kU (xs:=[V.ref z]) (fun i σ' G=>∃v,σ'=[v,some (.ref no)]/\Same H G/\(i=0/\NbAt CN G no fw sl pl [.ref o1] [(kQ zl,.int 0)]/\G p=some (.lst [])\/i=1/\NbAt CN G no fw sl pl [.ref o1,x] [(kQ zl,.int 0),(kQ s,.int 1)]/\∃tp,G p=some (.lst [.ref tp])/\G tp=some (.tup [.int 1,.int yN,.int c]))) ⟨none,rfl,s2.trans sp,.inl ⟨rfl,I2.same sp,jb⟩⟩ ?_ ?_ ?_
 .rintro i σ' G _ ⟨v,rfl,sG,_⟩
  exact SqL.of (sG _ _ fC)
 .rintro i v σ' G hv ⟨w0,rfl,sG,h⟩
  obtain rfl:i=0:=by have:=(aY.mp hv).1;simpa using this
  cases hv
  obtain⟨_,IG,hG⟩:=h.resolve_right fun z=>absurd z.1 (show ¬0=1 by decide)
  unfold kO Jo;refine kY ?_;refine⟨_,rfl,_,rfl,no,fw,sl,pl,z,.ref o1,x,y,zl,s,u,c,yN,rfl,IG,sG _ _ hz,hx.mono sG,hy.mono sG,hs,db,aW,tE,fun H3 tp k3 I3 e3=>?_⟩;have gP:=k3 _ _ EC EB hG;refine⟨[],gP,by decide,_,rfl,fun b o e=>jk (jh e gf) (k3 _ _ (jh e Fh) (jh e Fs) (sG _ _ e)),.inr ⟨rfl,⟨jk (jN I3.o gP (by intro z;cases z)) I3.o,jk EC.symm I3.s,jk EB.symm I3.p⟩,tp,jb,jk (jN e3 gP (by intro z;cases z)) e3⟩⟩
 rintro σ' G ⟨w0,rfl,sG,h⟩;obtain⟨_,IG,tp,hG,ng⟩:=h.resolve_left fun z=>absurd z.1 (show ¬1=0 by decide)
 refine gQ ?_;clear I2 s2 hp sp;refine⟨sm rfl,fun lc gh=>?_⟩;refine gQ ?_;have s3:=je gh (.lst []);have e3:upd G lc (.lst []) lc=some (.lst []):=jb;have I3:=IG.same s3;have AD:=s3 _ _ hG;have Fe:=s3 _ _ ng;have oW:=sG.trans s3;generalize upd G lc (.lst [])=H3 at *;clear IG hG ng gh sG s3;refine⟨_,rfl,t,_,_,_,rfl,rfl,SqT.of (oW _ _ ht),jH (j:=1) rfl,lb,rfl,⟨_,SqL.of (oW _ _ nk)⟩,?_⟩;refine kn (xs:=[]) (fun i σ G=>∃u v,σ=[some (.ref t),some (.ref no),some (.int 0),some (.ref p),some (.ref lc),u,v,none,none,none]/\G=H3) ⟨none,none,rfl,rfl⟩ ?_ ?_ ?_
 .rintro i σ G _ ⟨_,_,rfl,rfl⟩
  exact SqL.of (oW _ _ nk)
 .rintro i v σ G hv _
  cases hv
 rintro σ G ⟨u5,u6,rfl,rfl⟩;refine⟨_,rfl,no,CN,fw,_,_,rfl,I3.o,T.c,T.n1,rfl,sl,_,rfl,.inl (SqL.of I3.s),_,rfl,fun so wI lR tL Fz=>?_⟩;refine⟨so,wI,lc,rfl,jb,jk (jh e3 lR) (jk (jh e3 tL) e3),fun S A H5 eo k5 AI bX I5=>⟨rfl,?_⟩⟩;have s5:Same G H5:=fun a o e=>k5 _ _ (jh e lR) (by rw[jp (jh e lR),jp (jh e tL)];exact e)
 have fresh:∀a,upd (upd G wI (.own so)) so (.ins CS wI []) a=none->G a=none:=fun a ha=>by
  cases e:G a with
  | none=>rfl
  | some o=>rw[jp (jh e lR),jp (jh e tL),e]at ha;cases ha
 have kk:∀{H6:Hp},Jt S A H5 H6->Same G H6:=fun k b o e=>k b o (fun z=>by rw[fresh _ (AI b z)]at e;cases e) (fun z=>by rw[z,fresh _ bX]at e;cases e) (s5 _ _ e)
 have Nn:p ∉ A.l:=fun z=>by rw[fresh _ (AI p z)]at AD;cases AD
 clear fresh AI bX k5 lR tL Fz e3;subst eo;refine gQ ?_;have MD:yN < 2:=by rcases tE with h | h <;> omega
 refine⟨_,rfl,_,rfl,S,A,p,tp,yN,c,rfl,I5,MD,s5 _ _ AD,Nn,s5 _ _ Fe,fun H6 m x0 x1 tk kvs k6 I6 hn=>?_,fun y1 hc q pp l2 b H6 k6 e1 e2 e4=>?_⟩
 .have s6:=kk k6
  refine gQ ?_;refine⟨_,rfl,rfl,_,rfl,jZ (fun d=>absurd d (by rw[Tr rfl];exact Lo)) (fun _=>?_)⟩;refine⟨_,rfl,S.o,CS,S.dx,_,_,rfl,I6.o,TS.c,TS.n1,rfl,A.o,CT,A.dx,_,_,rfl,I6.t.o,TT.c,TT.n1,rfl,?_⟩;refine gQ ?_;have i7:=I3.same s6;refine⟨_,rfl,no,CN,fw,_,_,rfl,i7.o,T.c,T.n1,rfl,sl,rfl,⟨_,SqL.of i7.s⟩,fun pc Ft=>?_⟩;have LJ:=je Ft (.lst []);refine Jm (Ite K sl) 2 (fun i σ' G'=>∃u v us,σ'=[u,v,some (.int 0),some (.ref A.la)]/\Same H6 G'/\G' pc=some (.lst us)/\(i=0/\us=[]\/i=1/\(∃a j,us=[.ref a]/\G' a=some (.tup [.ref o1,.int j]))\/i=2/\∃a b j k,us=[.ref a,.ref b]/\G' a=some (.tup [.ref o1,.int j])/\G' b=some (.tup [x,.int k]))) ⟨none,none,[],rfl,LJ,jb,.inl ⟨rfl,rfl⟩⟩ ?_ ?_ ?_ ?_
  .rintro σ' G' ⟨_,_,_,rfl,sG,_⟩
   exact⟨_,SqL.of (sG _ _ i7.s),aB _⟩
  .rintro i σ' G' hi ⟨_,_,_,rfl,sG,_⟩
   refine⟨_,[V.ref o1,x][i],SqL.of (sG _ _ i7.s),aI (show i < 2 from hi)⟩
  .rintro i σ' G' hi ⟨w1,w2,us,rfl,sG,hG,h⟩ xv H7 ⟨tt,yy,M6,pi,rfl,rfl⟩
   have st:=je M6 (.tup [.int i,yy]);have et:upd G' tt (.tup [.int i,yy]) tt=some (.tup [.int i,yy]):=jb;have Gp:=pi _ (SqL.of (sG _ _ i7.s));have Bn:=st _ _ hG;have Em:=sG.trans st;have h7:i=0/\us=[]/\yy=.ref o1\/i=1/\yy=x/\∃a j,us=[.ref a]/\upd G' tt (.tup [.int i,yy]) a=some (.tup [.ref o1,.int j]):=by
    rcases h with⟨rfl,rfl⟩ | ⟨rfl,a,j,e,ea⟩ | ⟨rfl,_⟩
    .exact .inl ⟨rfl,rfl,(bZ Gp).symm⟩
    .exact .inr ⟨rfl,(bZ Gp).symm,a,j,e,st _ _ ea⟩
    .omega
   generalize upd G' tt (.tup [.int i,yy])=G7 at *;refine⟨tt,_,rfl,SqT.of et,rfl,_,_,rfl,_,_,rfl,rfl,?_⟩;unfold Jo;refine kY ?_;have E1:=Em _ _ I6.t.la;have e0:atI [V.int 0,V.int m] (i:Int)=some (.int (if i=0 then 0 else m)):=by
    rcases (show i=0\/i=1 by omega) with rfl | rfl <;> rfl
   refine⟨_,rfl,_,rfl,_,rfl,A.la,_,_,_,rfl,rfl,SqL.of E1,e0,_,rfl,_,rfl,A.la,_,_,_,rfl,rfl,SqL.of E1,rfl,_,_,rfl,rfl,sm rfl,fun pt dA=>?_⟩;have s8:=je dA (.tup [yy,.int ((if i=0 then 0 else m) - 0)]);have k8:∀b o,b≠pc->upd G7 pt (.tup [yy,.int ((if i=0 then 0 else m) - 0)]) b=some o->upd (upd G7 pt (.tup [yy,.int ((if i=0 then 0 else m) - 0)])) pc (.lst (us++[.ref pt])) b=some o:=fun b o hb e=>jk hb e
   have Fr:pt≠pc:=fun z=>by rw[z,Bn]at dA;cases dA
   refine⟨us,s8 _ _ Bn,?_,_,_,_,rfl,fun b o e=>k8 _ _ (jh e Ft) (s8 _ _ (Em _ _ e)),jb,?_⟩
   .rcases h7 with⟨_,rfl,_⟩ | ⟨_,_,a,j,rfl,_⟩
    .show 0 < aF;decide
    .show 1 < aF;decide
   .rcases h7 with⟨rfl,rfl,rfl⟩ | ⟨rfl,rfl,a,j,rfl,ea⟩
    .exact .inr (.inl ⟨rfl,pt,_,rfl,k8 _ _ Fr jb⟩)
    .exact .inr (.inr ⟨rfl,a,pt,j,_,rfl,k8 _ _ (jN ea Bn (by intro z;cases z)) (s8 _ _ ea),k8 _ _ Fr jb⟩)
  rintro σ' G' ⟨_,_,us,rfl,sG,hG,h⟩;rcases h with⟨h,_⟩ | ⟨h,_⟩ | ⟨_,a,b,j,k,rfl,ea,eb⟩
  .cases h
  .cases h
  refine⟨sm rfl,fun p' cN=>?_⟩;have s9:=je cN (.tup [.str "amounts",.ref pc]);exact q2 (fun z=>hn ⟨tE.elim (fun e=>e.2) (fun e=>absurd (Tw kQ (z.1.symm.trans e.1)) aW),z.2⟩) p' pc a b j k _ (oW.trans (s6.trans (sG.trans s9))) jb (s9 _ _ hG) (s9 _ _ ea) (s9 _ _ eb)
 .have s6:=kk k6
  refine gQ ?_;refine⟨_,rfl,rfl,_,rfl,jZ (fun _=>?_) (fun d=>absurd (by rw[Ts (fun z=>nomatch z)];rfl) d)⟩;have i7:=I3.same s6;obtain⟨eu,_⟩ | ⟨_,y0⟩:=tE
  .refine⟨_,rfl,q,_,_,_,rfl,rfl,SqT.of e1,jH (j:=0) rfl,_,rfl,no,CN,fw,_,_,rfl,i7.o,T.c,T.n1,rfl,pp,l2,tp,sl,c,_,_,rfl,e2,e4,?_,i7.s,fun v H7 s7=>⟨sm rfl,fun p' cN=>?_⟩⟩
   .have:=s6 _ _ Fe
    rw[y1]at this;exact this
   .exact q1 eu hc p' v _ (oW.trans (s6.trans (s7.trans (je cN _)))) jb
  .omega
end
end LW
namespace L2
open PySem PySem.Spec PyProof.Rows PySem.W
variable {X:Cx}{scope:bO}{kx vx tg iter:aj}{ifs:List aj}{pos:Pos}{wi:TI}{g:TG}{tt:TT}{tv:TE}
theorem jb0{own:List Str}{fr:List Nat}{tk:TE}{use:Option (ad->Sem Unit)}(hc:X.calm=true)(O:CompOk X scope fr)(hi:PI X tg iter wi)
  (hb:∀s H ex,PG (blk X scope own fr s H ex) tg g/\PTs (blk X scope own fr s H ex) ifs tt/\PE (blk X scope own fr s H ex) kx tk/\PE (blk X scope own fr s H ex) vx tv)
  (hs:∀x,du iter X.env x=pure x) {ac:List (aa×Obj)} {s:af} {σ:St} {H:Hp} {Q:VK} {R:ad->af->Prop} (I:Inv X ac σ H s) (h:Ki own fr wi g tt tk tv σ H Q) (hx:∀e s',X.xe e s'↔False)
  (fin:∀(p C:aa) (H':Hp) (s':af) (m:Str->Option ad),s'.heap.Ns C m->H' C=none->C≠X.env.locals->(∀x c,X.env.cells.lookup x=some c->c≠C)->X.s₀.heap.objs.size<=C->(∀p∈X.pn++ac,p.1≠C)->Inv X ac σ H' s'->(∀h',cr C s'.heap h'->Inv X ac σ H' { s' with heap:=h' })->Q (.ref p) H'->
   li (am X.prog X.w) X.A X.xe use R (.ref p) C (.ok .next) s') :
  ah (am X.prog X.w) X.A (comprehension (.DictComp kx vx [⟨tg,iter,ifs,0⟩] scope pos) scope X.env (rW [⟨tg,iter,ifs,0⟩] pos) rS false (eval iter X.env) use) R X.xe s:=by
 have ia:∀x∈scope.names,x.2=.free->(X.env.cells.lookup x.1).isSome=true:=fun x aZ e=>by
  obtain⟨c,hc⟩:=I.ok.has x.1 (O.frees x aZ e);rw[hc];rfl
 have no:∀(E:ad->af->Prop) (x:ad) (s':af),X.xe x s'->E x s':=fun E x s' z=>((hx x s').mp z).elim
 refine Da (cl:=yH X.env.cells scope.names []) rfl hs (yG ia) O.kind O.loc ?_
 refine thn (hi ac s σ H _ I h) fun v s1 h1=>thn h1 fun m8 s2 h2=>?_
 obtain⟨it,fp,tn,J,H2,e,I2,T,eZ,f2,q2⟩:=h2
 subst e
 unfold rS
 refine dY ?_
 have nw:H2 s2.heap.objs.size=none:=I2.fresh
 obtain⟨W,⟨m0,w0⟩,cY⟩:=q2 _ nw
 generalize hp:s2.heap.objs.size=p at *
 have I3:Inv X ac σ (upd H2 p (.dK [])) { s2 with heap:=s2.heap.push { cls:=.type "dict",data:=.dict #[] } }:=by
  have:=I2.laid (a:=s2.heap.objs.size) (o:=.dK []) (t':=s2.toks) (fun _ _ q=>aQ { cls:=.type "dict",data:=.dict #[] } q) (aB _) (J5 s2.heap I2.big);rw[hp]at this;exact this
 have fX:∀b∈fp,b < s2.heap.objs.size:=fun b hb=>by
  obtain⟨o,ho,_⟩:=T.obj _ _ eZ b hb;exact aL ho
 have gn:∀b∈fp,(upd H2 p (.dK [])) b=none:=fun b hb=>by
  rw[jp (by rw[<- hp];exact aT (fX b hb))];exact (f2 b hb).1
 generalize eC:({ s2 with heap:=s2.heap.push { cls:=.type "dict",data:=.dict #[] } }:af)=s3 at *
 have lH:s3.heap.objs.size=p+1:=by
  rw[<- eC];show (s2.heap.push _).objs.size=_;rw[lA,hp]
 have eY:tn 0 s3.heap:=T.keep 0 _ _ eZ fun b hb o e=>by
  rw[<- eC];exact aQ _ e
 refine C_ O.nocell (by intro y hy;simp at hy) (fun h4 gg lS=>?_) O.kind
 have k4:∀b o,s3.heap.get? b=some o->h4.get? b=some o:=fun b o e=>lS.extBut b o (aT (aL e)) (aQ _ e)
 have lV:h4.Ns s3.heap.objs.size fun _=>none:=by
  have z:(fun x:Str=>([]:List (Str×ad)).reverse.lookup x)=fun _=>none:=by funext x;rfl
  rw[z]at gg;exact gg
 have fo:∀b∈fp,yK X ac (upd H2 p (.dK [])) b/\b < s3.heap.objs.size:=fun b hb=>⟨⟨gn b hb,(f2 b hb).2⟩,by rw[lH,<- hp];exact sq (fX b hb)⟩
 have I4:=K6 (own:=own) (fr:=fr) (t1:=s3.toks+([]:List (Str×ad)).length) I3 O fo lV k4
 have c_:tn 0 h4:=T.keep 0 _ _ eY fun b hb o e=>k4 b o e
 obtain⟨hg,ht,lY,f_⟩:=hb s3 (upd H2 p (.dK [])) fp
 have cZ:∀{H':Hp} {pn:List (aa×Obj)} {s':af} {σ':St},Inv (blk X scope own fr s3 (upd H2 p (.dK [])) fp) [] σ' H' s'->(∀b∈fp,H' b=none)->∀b∈fp,yK (blk X scope own fr s3 (upd H2 p (.dK [])) fp) [] H' b:=fun {H' pn s' σ'} J hn b aJ=>
  ⟨hn b aJ,(J.ok.exf b aJ).1,J.ok.exfs b aJ,.inl aJ,(J.ok.exf b aJ).2,fun p hp=>absurd hp (by simp[blk])⟩
 have lM:∀x c,X.env.cells.lookup x=some c->c≠s3.heap.objs.size:=fun x c e=>by
  obtain⟨v,q⟩:=I3.cell x c e;exact aT q.lt
 have fY:∀s5:af,s5={ s3 with heap:=h4,toks:=s3.toks+([]:List (Str×ad)).length }->
   cD (am X.prog X.w) X.A (.compLoop (.DictComp kx vx [⟨tg,iter,ifs,0⟩] scope pos) 0 (.ref it) (.ref p) (blk X scope own fr s3 (upd H2 p (.dK [])) fp).env) (li (am X.prog X.w) X.A X.xe use R (.ref p) s3.heap.objs.size) s5:=by
  rintro s5 rfl
  refine Js (fun n s'=>∃i σ' H',Inv (blk X scope own fr s3 (upd H2 p (.dK [])) fp) [] σ' H' s'/\tn i s'.heap/\(∀b∈fp,H' b=none)/\W i n σ' H') ?_ m0 ⟨0,_,_,I4,c_,gn,w0⟩
  rintro n s6 ⟨i,σ6,H6,I6,fP,gm,w6⟩
  rcases cY i n σ6 H6 w6 with⟨stop,qn⟩ | ⟨go,N,hN,step⟩
  .refine thn (T.done (blk X scope own fr s3 (upd H2 p (.dK [])) fp) rfl rfl rfl hc i [] s6 σ6 H6 _ I6 (cZ (pn:=[]) I6 gm) fP stop) fun r s7 ⟨hr,I7⟩=>?_
   subst hr
   obtain⟨m,hm,_⟩:=I7.loc
   exact fin p _ H6 s7 m hm I7.free (mK I3.lt) lM I3.sz (fun p hp=>aT (aL (I3.pin p hp).1)) (zo I3 fo I7 (iH ..)) (fun h' b_=>zo I3 fo I7 b_) qn
  .refine thn (T.item (blk X scope own fr s3 (upd H2 p (.dK [])) fp) rfl rfl rfl hc i [] s6 σ6 H6 _ I6 (cZ (pn:=[]) I6 gm) fP go) fun r s7 ⟨u,hr,h7⟩=>?_
   subst hr
   refine thn h7 fun _ s8 hM=>?_
   obtain⟨x,H8,I8,r8,y8,dO,mh⟩:=hM
   have mm:=I8.pinned (cZ (pn:=[]) I8 mh) (T.obj _ _ dO)
   refine thn (hg _ s8 σ6 H8 x u _ mm r8 (step x H8 y8)) fun _ s9 hM=>?_
   obtain⟨σ9,H9,I9,q9⟩:=hM
   refine thn (ht _ s9 σ9 H9 _ I9 q9) fun ok dP hM=>?_
   obtain⟨mq,i8,eB⟩:=hM
   have again:∀{bK:Hp} {bp:af},Inv (blk X scope own fr s3 (upd H2 p (.dK [])) fp) ([]++zq fp s8.heap) σ9 bK bp->(∃m',m' < n/\W (i+1) m' σ9 bK)->
     ∃m,m < n/\∃i σ' H',Inv (blk X scope own fr s3 (upd H2 p (.dK [])) fp) [] σ' H' bp/\tn i bp.heap/\(∀b∈fp,H' b=none)/\W i m σ' H':=fun {bK bp} ci ⟨m',hm,g_⟩=>by
    refine⟨m',hm,i+1,σ9,bK,ci.unpinned,T.keep _ _ _ dO fun b aJ o e=>(ci.pin (b,o) (b4 _ (b4 _ (kj aJ e)))).1,fun b aJ=>?_,g_⟩
    obtain⟨o,e,d⟩:=T.obj _ _ dO b aJ
    exact (ci.pin (b,o) (b4 _ (b4 _ (kj aJ e)))).2.1
   cases ok with
   | false=>
    rw[Tt bF]at eB |-
    exact again i8 (hN _ _ eB)
   | true=>
    rw[Tu rfl]at eB |-
    refine thn (lY _ dP σ9 mq _ i8 eB) fun kv bp hM=>?_
    obtain⟨ky,bK,ci,lK,o6⟩:=hM
    refine thn (f_ _ bp σ9 bK _ ci o6) fun vv bv hM=>?_
    obtain⟨y,mo,mn,oZ,kvs,k,ek,gM,hlen,o0⟩:=hM
    subst ek
    obtain⟨z,hd,vs,bG,dd⟩:=jcF mn.hok gM
    have hl:(kB kvs k y).length<=aF:=by have:=kH kvs k y;omega
    refine P3 (KM lK) dd (fun h' dI b_=>?_) (by rw[<- bG.length];exact z)
    have A1:∃q,h'.get? p=some q:=let ⟨q,_,_,hq,_⟩:=dI;⟨q,hq⟩
    exact again (J7 (t':=bv.toks+1) mn (by rw[gM];exact True.intro) b_ A1 (jah hl hd (bG.put k oZ) dI)) (hN _ _ o0)
 refine QX (fY _ rfl) (T.self X.A 0 _ _ _ c_ (fY _ rfl))
theorem jaM{pos:Pos}{tk:TE}{i:Nat}{y:Str}{py fR:Pos}(hN:X.N.Nodup)(cO:X.N[i]?=some y)(hy:Loc X.env.scope y)(own:List Str)(fr:List Nat)(hc:X.calm=true)(O:CompOk X scope fr)(hi:PI X.nox tg iter wi)
  (hb:∀s H ex,PG (blk X.nox scope own fr s H ex) tg g/\PTs (blk X.nox scope own fr s H ex) ifs tt/\PE (blk X.nox scope own fr s H ex) kx tk/\PE (blk X.nox scope own fr s H ex) vx tv)
  (hs:∀x,du iter X.env x=pure x:=by intro _;rfl)
  (lQ:iB (.DictComp kx vx [⟨tg,iter,ifs,0⟩] scope pos) (some (.Name y py)) fR.line X.env=pure true:=by rfl)
  (hf:X.fn y=true\/X.env.scope.names.lookup y=some .local:=by first | exact .inl rfl | exact .inr rfl | assumption) :
  PS X.nox (.Assign [.Name y py] (.DictComp kx vx [⟨tg,iter,ifs,0⟩] scope pos) fR) (jby (Ki own fr wi g tt tk tv) (kO i)):=by
 intro ac s σ H D I h
 rw[QL _ _ _ _ lQ]
 refine ae (ft (ae ?_))
 show ah _ _ (do let _ <- comprehension (.DictComp kx vx [⟨tg,iter,ifs,0⟩] scope pos) scope X.nox.env _ rS false (eval iter X.nox.env) (some (assign (.Name y py) X.nox.env))) _ _ s
 refine ae (bi (jb0 (X:=X.nox) (use:=some (assign (.Name y py) X.nox.env)) (R:=fun _ s'=>SP X.nox ac D .next s') hc ⟨O.kind,O.nocell,O.loc,O.frees,O.fr⟩ hi hb hs I h (fun _ _=>Iff.rfl)
  fun p C H' s' m hm hC hL iZ hz iS I' back q=>?_) (fun _ s' hq=>aq (aq hq)) fun _ _ e=>e)
 show ah _ _ (assign (.Name y py) X.nox.env (.ref p)) _ _ _
 refine GY (Kj (v:=.ref p) I' hN cO hy rfl (fun s2 I2 Ay=>?_) hf)
 obtain⟨a,Az,ha⟩:=Ay
 have Bq:C≠a:=by
  rcases ha with rfl | e
  .exact hL
  .exact fun z=>iZ _ _ e z.symm
 refine⟨m,hm.sameBut Az Bq,fun h' b_=>?_⟩
 exact⟨_,H',I2.turned (t':=s2.toks) (fun b o hb e=>(b_.2 b hb).trans e) hC hL (.inr hz) iZ iS,q⟩
section
variable {p:aa}{tk:TE}{σ:St}{H:Hp}{Q:VK}
theorem JA{K:av}{a:aa}{xs:List V}(Pv:Nat->St->Hp->Prop)(h0:Pv 0 σ H)(hl:∀i σ' H',i<=xs.length->Pv i σ' H'->SqL K H' a xs)
  (hs:∀i x σ' H',xs[i]?=some x->Pv i σ' H'->g x σ' H' fun σ3 H3=>tt σ3 H3 fun c H4=>if c=true then tk σ3 H4 fun ky H5=>tv σ3 H5 fun y H6=>∃kvs k,ky=kV k/\H6 p=some (.dK kvs)/\kvs.length < aF/\Pv (i+1) σ3 (upd H6 p (.dK (kB kvs k y))) else Pv (i+1) σ3 H4)
  (hd:∀σ' H',Pv xs.length σ' H'->Q (.ref p) H'):K7 (Itl K a) p g tt tk tv Q σ H:=by
 refine⟨fun i m σ H=>m=xs.length - i/\i<=xs.length/\Pv i σ H,⟨xs.length,by simp,bA _,h0⟩,?_⟩
 rintro i m σ1 H1 ⟨rfl,hi,pv⟩
 have q:=hl i σ1 H1 hi pv
 by_cases a_:i < xs.length
 .refine .inr ⟨⟨xs,xs[i],q,by simp[a_]⟩,Pv (i+1),fun σ3 H3 q=>⟨xs.length - (i+1),by omega,rfl,a_,q⟩,fun x H2 y=>?_⟩
  obtain⟨e1,e2⟩:=y
  subst e1
  exact hs i x σ1 _ (e2 xs q) pv
 .have e:i=xs.length:=by omega
  subst e
  exact .inl ⟨⟨xs,q,aB _⟩,hd σ1 H1 pv⟩
end
theorem zu{pos:Pos}{tk:TE}{i:Nat}{y:Str}{py fR:Pos}(h1:X.N.Nodup)(h2:X.N[i]?=some y)(h3:Loc X.env.scope y)(own:List Str)(fr:List Nat)(h4:X.calm=true)(h5:CompOk X scope fr)(h6:QI X.nox tg iter wi)
  (h7:∀s H ex,QG (blk X.nox scope own fr s H ex) tg g/\QTs (blk X.nox scope own fr s H ex) ifs tt/\QE (blk X.nox scope own fr s H ex) kx tk/\QE (blk X.nox scope own fr s H ex) vx tv)
  (h8:∀x,du iter X.env x=pure x:=by intro _;rfl)
  (h9:iB (.DictComp kx vx [⟨tg,iter,ifs,0⟩] scope pos) (some (.Name y py)) fR.line X.env=pure true:=by rfl)
  (p_:X.fn y=true\/X.env.scope.names.lookup y=some .local:=by first | exact .inl rfl | exact .inr rfl | assumption) :
  QS X.nox (.Assign [.Name y py] (.DictComp kx vx [⟨tg,iter,ifs,0⟩] scope pos) fR) (jby (Ki own fr wi g tt tk tv) (kO i)):=
 ⟨jaM h1 h2 h3 own fr h4 h5 h6.h (fun s H ex=>let ⟨a,b,c,d⟩:=h7 s H ex;⟨a.h,b.h,c.h,d.h⟩) h8 h9 p_⟩
def It0(a:aa)(o:Obj):It:=⟨fun _ _=>False,fun _ _ _ _=>False,fun _ H=>H a=some (.frz o (.dK []))⟩
theorem jay{P:az}{w:ax}{K:av}(a it:aa){o:Obj}{rc:Array vV}{ep:Nat}(hd:o.data=.dict rc ep):Turn P w K tg (It0 a o) [it] it (fun _ h=>∃ok ov,IsItemIter h it a 0 0 ep ok ov) where
 mem:=by simp
 obj:=fun i h st b hb=>by
  have e:b=it:=by simpa using hb
  subst e;obtain⟨ok,ov,e⟩:=st;exact⟨_,e,fun v z=>by cases z⟩
 keep:=fun i h h' ⟨ok,ov,e⟩ k=>⟨ok,ov,k it (by simp) _ e⟩
 item:=fun X _ _ _ _ i ac s σ H E I hf st hg=>hg.elim
 done:=by
  intro X hP hw hK hc i ac s σ H E I hf ⟨ok,ov,st⟩ hq;subst hP hw hK;obtain⟨vs,rv,da⟩:=jai hd (I.hok a _ hq);obtain⟨f0,f1,f2,f3,f4,f5⟩:=hf it (by simp)
  cases rv
  exact wpAny_pyNext_items_end (I.ok.hd hc) st da rfl fun h' eb=>⟨rfl,I.turned (t':=s.toks) (fun b o hb e=>eb b o hb e) f0 f1 f3 f4 f5⟩
 self:=fun _ _ _ _ _ ⟨_,_,st⟩ h=>kcp_self st h
section
def jgu(tl:TE):TI:=fun σ H R=>tl σ H fun x H1=>∃v a,x=.ref v/\H1 v=some (zY v a)/\H1 a=some (.dK [])/\∀o,R (It0 a o) (upd H1 a (.frz o (.dK [])))
theorem K9{l:aj}{tl:TE}(hl:QE X l tl):QI X tg l (jgu tl):=⟨by
 intro ac s σ H R I h;refine thn (hl.h ac s σ H _ I h) fun v s1 hM=>?_
 obtain⟨x,H1,I1,r1,q1⟩:=hM;obtain⟨vw,a,e,hv,hq,q⟩:=q1;subst e
 cases r1
 obtain⟨MX,_⟩:=I1.hok vw _ hv;have ok:=I1.hok a _ hq;obtain⟨z1,z2,vs,rv,o,es,ep,e1,c1,c2,c3⟩:=id ok;have da:s1.heap.DictAt (j6 X.prog X.w) a vs ep:=⟨o,es,e1,c1,c2,c3⟩
 have I2:Inv X ac σ (upd H1 a (.frz o (.dK []))) s1:=I1.relabel hq (fun _ z=>by cases z) (fun _ z=>by cases z) (fun o' z' e'=>by
  have:=I1.base.frzs a o' z' e';rw[hq]at this
  cases this) (fun _ z=>by cases z) ⟨e1,ok.stay (fun _ _ _ q=>q) (fun c q=>by rw[jp (KI q hq (by intro z;cases z))];exact q) fun c xs q=>by rw[jp (KI q hq (by intro z;cases z))];exact q⟩
 cases rv
 refine wpAny_pyIter_items MX da ?_;refine⟨s1.heap.objs.size,[s1.heap.objs.size],_,_,_,rfl,I2.kept (t':=s1.toks) fun b o e=>aQ _ e,jay a _ c2,⟨_,_,bV _ rfl⟩,fun b hb=>?_,q o⟩;have e:b=s1.heap.objs.size:=by simpa using hb
 subst e;exact I2.fpOk (aB _) (I2.hok.fresh (aB _))⟩
end
section
variable {tk:TE}{Q:VK}{p a:aa}{o:Obj}{σ:St}{H:Hp}
theorem J6(h:H a=some (.frz o (.dK [])))(q:Q (.ref p) H):K7 (It0 a o) p g tt tk tv Q σ H:=
 ⟨fun i m σ' H'=>i=0/\H'=H,⟨0,rfl,rfl⟩,fun i m σ1 H1 ⟨_,e⟩=>.inl ⟨by rw[e];exact h,by rw[e];exact q⟩⟩
end
end L2
namespace LW
open PySem L2
abbrev qB:aA:=top 74
abbrev qY:aA:=top 73
structure AmAt(H:Hp)(la o1:aa)(x:Str):Prop where
 h:∃a b c i j,H la=some (.lst [.ref a,.ref b])/\H a=some (.tup [.ref o1,.int i])/\H b=some (.tup [.ref c,.int j])/\Held H zl (.ref o1)/\Held H (.tup [.str "start",.str x]) (.ref c)
 s:Src (.tup [.str "start",.str x])
theorem AmAt.same{H H':Hp}{la o1:aa}{x:Str}(h:AmAt H la o1 x)(s:Same H H'):AmAt H' la o1 x:=by
 obtain⟨a,b,c,i,j,h1,h2,h3,h4,h5⟩:=h.h;exact⟨⟨a,b,c,i,j,s _ _ h1,s _ _ h2,s _ _ h3,h4.mono s,h5.mono s⟩,h.s⟩
inductive spMade(vs:List V)(H:Hp)(Q:VK)(E:XK):Prop
 | mk (la o1:aa) (x:Str) (_:vs=[.ref la]) (_:AmAt H la o1 x) (_:∀d H',Same H H'->H d=none->H' d=some (.dK [])->Q (.ref d) H')
inductive spStart(vs:List V)(H:Hp)(Q:VK)(E:XK):Prop
 | mk (ra la o1:aa) (R:List Rw) (rs:List V) (x:Str) (_:vs=[.ref ra,.ref la]) (_:H ra=some (.lst rs)) (_:HeldL H (R.map Rw.toD) rs) (_:∀r∈R,∃x t c,r=Rw.set x t c) (_:AmAt H la o1 x) (_:∀v H',Same H H'->Q v H')
section
variable {P:az}{w:ax}{K:av}{mg:Str->Option ad}{base:au}
theorem jge{f:aa}{fd:aD}(F:Fun K "made_rows" "made_rows" qB f fd)(B:Free0 mg)(nI:mg "repr" = none):FnOk P w K mg base CX0 14 f fd ["amounts"] spMade:=by
 have sc:FnScope ["amounts","known","entries","source","amount","version","spot_source","more","held"] ["amounts"] (ji qB):=fQ;refine F.okZ sc (fun ay A outer s H vs Q E hr h=>?_);have pD:(A.deeper (gB "made_rows" (ji qB) s.heap.objs.size f ay)).units+2+180 < cLine:=by have:=hr.un;omega
 obtain⟨la,o1,x,rfl,I,q⟩:=h;refine⟨_,(ja (zu (i:=1) sc.nd rfl oQ ["source","amount"] [] rfl (j9 (sc:=ji qB) (N:=["amounts","known","entries","source","amount","version","spot_source","more","held"]) rfl rfl (by decide +kernel)) (jR (zpv 0)) (fun s H ex=>⟨(qL (K:=K) (n:=2) rfl (jm (jj (i:=0) (show bg (["source","amount"]:List Str) by decide +kernel) rfl oQ) (jm (jj (i:=1) (show bg (["source","amount"]:List Str) by decide +kernel) rfl oQ) jJ))),kf,(qa (ZE (n:=180) hr.gd pD) (by rfl) nI jcK (jd (zpv 0) jc)),(zpv 1)⟩))
   (ja (jt (i:=2) sc.nd rfl oQ ye)
   (ja (jW cb rfl (jR (zpv 0)) (jX rfl (jm (jj (i:=3) sc.nd rfl oQ) (jm (jj (i:=4) sc.nd rfl oQ) jJ))) (jf (jQ (jw ka (jz jE (zpv 3) jl (fun _ _=>rfl)) jy (jF _)) (ja jB
   (ja jB
   (jf jB))) jC)))
   (jf (jr (Y8 ["version","held"] [] rfl (j9 (sc:=ji qB) (N:=["amounts","known","entries","source","amount","version","spot_source","more","held"]) rfl rfl (by decide +kernel)) (K9 (ZP Ip Im RC jaT (zpv 2))) (fun s H ex=>⟨(qL (K:=K) (n:=2) rfl (jm (jj (i:=0) (show bg (["version","held"]:List Str) by decide +kernel) rfl oQ) (jm (jj (i:=1) (show bg (["version","held"]:List Str) by decide +kernel) rfl oQ) jJ))),kf,(zpv 0),yd⟩))))))),?_⟩
 refine qN ?_
 try dsimp only[j5]
 refine YE ?_;intro _ _ _;obtain⟨a,b,c,ai,bj,fC,ha,hb,ho,hc⟩:=I.h;have pr:∀(i:Nat) (y:V),[V.ref a,V.ref b][i]?=some y->∃(t s:aa) (d:D) (k:Int),y=V.ref t/\H t=some (.tup [.ref s,.int k])/\Held H d (.ref s)/\Src d/\∃z ds,d=.tup (.str z :: ds)/\z≠("entry" : Str):=fun i y e=>by
  have hi:=(aY.mp e).1;rcases (show i=0\/i=1 by simp at hi;omega) with rfl | rfl
  .cases e
   exact⟨a,o1,zl,ai,rfl,ha,ho,zM,_,_,rfl,by decide +kernel⟩
  .cases e
   exact⟨b,c,_,bj,rfl,hb,hc,I.s,_,_,rfl,by decide +kernel⟩
 refine⟨_,rfl,la,rfl,⟨_,SqL.of fC⟩,fun dk FV=>?_⟩;refine JA (xs:=[V.ref a,V.ref b]) (fun i σ' G=>∃u v kvs,σ'=[u,v]/\Same H G/\G dk=some (.dK kvs)/\kvs.length<=i) ⟨none,none,[],rfl,je FV _,jb,aB _⟩ ?_ ?_ ?_
 .rintro i σ' G _ ⟨u,v,kvs,rfl,sG,_⟩
  exact SqL.of (sG _ _ fC)
 .rintro i y σ' G hy ⟨u,v,kvs,rfl,sG,hG,hl⟩
  obtain⟨t,s',d,k,rfl,ht,hd,hs,_⟩:=pr i y hy;refine⟨t,_,rfl,SqT.of (sG _ _ ht),rfl,_,_,rfl,_,_,rfl,rfl,?_⟩;unfold Jo;refine kY ?_;refine⟨_,rfl,s',d,rfl,hd.mono sG,hs.dep,hs.k,hs.big,_,rfl,kvs,.inr d.py.shown,rfl,hG,?_,_,_,_,rfl,fun b' o e=>jk (jh e FV) (sG _ _ e),jb,aU (kH _ _ _) (DO hl)⟩;have:=(aY.mp hy).1;exact jS (by simp at this;omega)
 rintro σ' G ⟨u,v,kvs,rfl,sG,hG,_⟩;refine gQ ?_;refine fun de tW=>?_
 refine gQ ?_;have se:=je tW (.dK []);have ee:upd G de (.dK []) de=some (.dK []):=jb;have s1:=sG.trans se;have Og:=sG.free tW;generalize upd G de (.dK [])=G1 at *;refine⟨_,rfl,la,rfl,⟨_,SqL.of (s1 _ _ fC)⟩,?_⟩;refine kn (xs:=[V.ref a,V.ref b]) (fun i σ G=>∃u v,σ=[some (.ref la),some (.ref dk),some (.ref de),u,v,none,none,none,none]/\G=G1) ⟨none,none,rfl,rfl⟩ ?_ ?_ ?_
 .rintro i σ G _ ⟨_,_,rfl,rfl⟩
  exact SqL.of (s1 _ _ fC)
 .rintro i y σ G hy ⟨_,_,rfl,rfl⟩
  obtain⟨t,s',d,k,rfl,ht,hd,_,z,ds,rfl,hz⟩:=pr i y hy;obtain⟨t2,us,e2,h2,cf⟩:=js hd;obtain rfl:s'=t2:=V.ref.inj e2;obtain⟨y1,r1,rfl,h3,_⟩:=jg cf
  cases jA h3
  refine⟨t,_,rfl,SqT.of (s1 _ _ ht),rfl,_,_,rfl,_,_,rfl,rfl,?_⟩;exact⟨_,rfl,s',_,_,_,rfl,rfl,SqT.of (s1 _ _ h2),jH (j:=0) rfl,rfl,_,rfl,jZ (fun d=>absurd (V.str.inj (Tq d)) hz) (fun _=>⟨_,_,rfl,rfl⟩)⟩
 rintro σ G ⟨_,_,rfl,rfl⟩;refine⟨_,rfl,.inr (.inr (.inl ⟨rfl,.inl ⟨_,ee⟩⟩)),de,_,rfl,rfl,ee,fun vw m_=>?_⟩;have lI:=je m_ (zY vw de);have ed:=lI _ _ ee;have EI:de≠vw:=jh ee m_;refine⟨vw,de,rfl,jb,ed,fun o p hp=>?_⟩;have mY:p≠de:=fun z=>by rw[z,jb]at hp;cases hp
 have s3:Same H (upd (upd (upd G vw (zY vw de)) de (.frz o (.dK []))) p (.dK [])):=fun b' o' e=>by
  have n1:b'≠de:=jh e Og;have e2:=lI _ _ (s1 _ _ e);have e3:upd (upd G vw (zY vw de)) de (.frz o (.dK [])) b'=some o':=jk n1 e2;exact jk (jh e3 hp) e3
 have gf:H p=none:=by
  cases e:H p with
  | none=>rfl
  | some o'=>
   have e2:=lI _ _ (s1 _ _ e);rw[jp mY,e2]at hp
   cases hp
 exact J6 (jk mY.symm jb) (q p _ s3 gf jb)
theorem jeN{f:aa}{fd:aD}(F:Fun K "start_of" "start_of" qY f fd)(B:Free0 mg)(bJ:mg "enumerate" = none)(Cw:Fn P w K mg base 14 "made_rows" ["amounts"] spMade):FnOk P w K mg base CX0 15 f fd ["rows","amounts"] spStart:=by
 have sc:FnScope ["rows","amounts","numbers","taken","made","held","picks","n","row"] ["rows","amounts"] (ji qY):=fQ;refine F.okZ sc (fun ay A outer s H vs Q E hr h=>?_);obtain⟨ra,la,o1,R,rs,x,rfl,Fl,fh,hR,I,q⟩:=h;refine⟨_,(ja (zu (i:=2) sc.nd rfl oQ ["source","amount"] [] rfl (j9 (sc:=ji qY) (N:=["rows","amounts","numbers","taken","made","held","picks","n","row"]) rfl rfl (by decide +kernel)) (jR (zpv 1)) (fun s H ex=>⟨(qL (K:=K) (n:=2) rfl (jm (jj (i:=0) (show bg (["source","amount"]:List Str) by decide +kernel) rfl oQ) (jm (jj (i:=1) (show bg (["source","amount"]:List Str) by decide +kernel) rfl oQ) jJ))),(zC (jw ka (jz (yB (K:=K)) (zpv 0) jl (fun _ _=>rfl)) jy (jF _))),(jz (yB (K:=K)) (zpv 0) jl (fun _ _=>rfl)),(zpv 1)⟩))
   (ja (zu (i:=3) sc.nd rfl oQ ["source","amount"] [] rfl (j9 (sc:=ji qY) (N:=["rows","amounts","numbers","taken","made","held","picks","n","row"]) rfl rfl (by decide +kernel)) (jR (zpv 1)) (fun s H ex=>⟨(qL (K:=K) (n:=2) rfl (jm (jj (i:=0) (show bg (["source","amount"]:List Str) by decide +kernel) rfl oQ) (jm (jj (i:=1) (show bg (["source","amount"]:List Str) by decide +kernel) rfl oQ) jJ))),(zC (jw ka (jz (yB (K:=K)) (zpv 0) jl (fun _ _=>rfl)) jy (jF _))),(zpv 0),(zpv 1)⟩))
   (ja (jt (i:=4) sc.nd rfl oQ (jD Cw hr (jd (zpv 1) jc)))
   (ja (jar (zu (i:=5) sc.nd rfl oQ ["version","row"] [] rfl (j9 (sc:=ji qY) (N:=["rows","amounts","numbers","taken","made","held","picks","n","row"]) rfl rfl (by decide +kernel)) (K9 (ZP Ip Im RC jaT (zpv 4))) (fun s H ex=>⟨(qL (K:=K) (n:=2) rfl (jm (jj (i:=0) (show bg (["version","row"]:List Str) by decide +kernel) rfl oQ) (jm (jj (i:=1) (show bg (["version","row"]:List Str) by decide +kernel) rfl oQ) jJ))),(zC (jw ka (jz (yB (K:=K)) (zpv 0) jl (fun _ _=>rfl)) jy (jF _))),(jz (yB (K:=K)) (zpv 0) jl (fun _ _=>rfl)),(zpv 1)⟩)))
   (ja (jt (i:=6) sc.nd rfl oQ (jK jc))
   (ja (jW cb rfl (zD (by rfl) bJ (jd (zpv 0) jc)) (jX rfl (jm (jj (i:=7) sc.nd rfl oQ) (jm (jj (i:=8) sc.nd rfl oQ) jJ))) (jf (jQ (jw ka (jz jE (zpv 8) jl (fun _ _=>rfl)) jy (jF _)) (jf jB) (jf (jQ (jw ka (jz jE (zpv 8) jl (fun _ _=>rfl)) jy (jF _)) (jf jB) jC)))))
   (jf (jr (jM (jd (zpv 2) (jd (zpv 5) (jd (zpv 6) jc)))))))))))),?_⟩
 refine qN ?_
 try dsimp only[j5]
 refine jfc ?_;intro _ _ _ _ _ _;obtain⟨a,b,c,ai,bj,fC,ha,hb,ho,hc⟩:=I.h;have pr:∀(i:Nat) (y:V),[V.ref a,V.ref b][i]?=some y->∃(t s:aa) (k:Int) (z:Str) (u:List V),y=V.ref t/\H t=some (.tup [.ref s,.int k])/\H s=some (.tup (.str z :: u))/\(z≠("pick" : Str))/\(z=("start" : Str)->u=[.str x]):=fun i y e=>by
  have hi:=(aY.mp e).1;rcases (show i=0\/i=1 by simp at hi;omega) with rfl | rfl
  .cases e
   obtain⟨t2,us,e2,h2,cf⟩:=js ho;obtain rfl:=V.ref.inj e2;obtain⟨y1,r1,rfl,h3,h4⟩:=jg cf
   cases jA h3
   exact⟨a,o1,ai,_,r1,rfl,ha,h2,by decide +kernel,fun z=>absurd z (by decide +kernel)⟩
  .cases e
   obtain⟨t2,e2,h2⟩:=yf hc;obtain rfl:=V.ref.inj e2;exact⟨b,c,bj,_,[.str x],rfl,hb,h2,by decide +kernel,fun _=>rfl⟩
 refine⟨_,rfl,la,rfl,⟨_,SqL.of fC⟩,fun dn FU=>?_⟩;refine JA (xs:=[V.ref a,V.ref b]) (fun i σ' G=>∃u v kvs,σ'=[u,v]/\Same H G/\G dn=some (.dK kvs)/\kvs.length<=i) ⟨none,none,[],rfl,je FU _,jb,aB _⟩ ?_ ?_ ?_
 .rintro i σ' G _ ⟨u,v,kvs,rfl,sG,_⟩
  exact SqL.of (sG _ _ fC)
 .rintro i y σ' G hy ⟨u,v,kvs,rfl,sG,hG,hl⟩
  obtain⟨t,s',k,z,us,rfl,ht,hs,_,hz⟩:=pr i y hy;have AW:=(aY.mp hy).1;refine⟨t,_,rfl,SqT.of (sG _ _ ht),rfl,_,_,rfl,_,_,rfl,rfl,?_⟩;refine⟨_,rfl,s',_,_,_,rfl,rfl,SqT.of (sG _ _ hs),jH (j:=0) rfl,rfl,_,rfl,jZ (fun d=>?_) (fun _=>⟨_,_,kvs,rfl,sG,hG,SH hl⟩)⟩;obtain rfl:=hz (V.str.inj (Tq d));exact⟨_,rfl,s',_,_,_,rfl,rfl,SqT.of (sG _ _ hs),jH (j:=1) rfl,_,rfl,kvs,.inr x,rfl,hG,jS (by simp at AW;omega),_,_,_,rfl,fun b' o e=>jk (jh e FU) (sG _ _ e),jb,aU (kH _ _ _) (DO hl)⟩
 rintro σ' G ⟨u,v,kvs,rfl,sG,hG,_⟩;refine gQ ?_;refine⟨_,rfl,la,rfl,⟨_,SqL.of (sG _ _ fC)⟩,fun dt A3=>?_⟩;refine JA (xs:=[V.ref a,V.ref b]) (fun i σ' G'=>∃u v,σ'=[u,v]/\G'=upd G dt (.dK [])) ⟨none,none,rfl,rfl⟩ ?_ ?_ ?_
 .rintro i σ' G' _ ⟨u,v,rfl,rfl⟩
  exact SqL.of (je A3 _ _ _ (sG _ _ fC))
 .rintro i y σ' G' hy ⟨u,v,rfl,rfl⟩
  obtain⟨t,s',k,z,us,rfl,ht,hs,hp,_⟩:=pr i y hy;have sx:=sG.trans (je A3 (.dK []));refine⟨t,_,rfl,SqT.of (sx _ _ ht),rfl,_,_,rfl,_,_,rfl,rfl,?_⟩;exact⟨_,rfl,s',_,_,_,rfl,rfl,SqT.of (sx _ _ hs),jH (j:=0) rfl,rfl,_,rfl,jZ (fun d=>absurd (V.str.inj (Tq d)) hp) (fun _=>⟨_,_,rfl,rfl⟩)⟩
 rintro σ' G1 ⟨u2,v2,rfl,rfl⟩;have s1:=sG.trans (je A3 (.dK []));generalize upd G dt (.dK [])=G1 at *;refine gQ ?_;refine⟨_,rfl,la,o1,x,rfl,I.same s1,fun dm G2 s2 EK rf=>?_⟩;refine gQ ?_;have bv:=s1.trans s2;refine⟨_,rfl,.inr (.inr (.inl ⟨rfl,.inl ⟨_,rf⟩⟩)),dm,_,rfl,rfl,rf,fun vw m_=>?_⟩;have EI:dm≠vw:=jh rf m_;have lI:=je m_ (zY vw dm);have Gs:=lI _ _ rf;refine⟨vw,dm,rfl,jb,Gs,fun o p hp=>?_⟩;have mY:p≠dm:=fun z=>by rw[z,jb]at hp;cases hp
 refine J6 (jk mY.symm jb) ?_;refine gQ ?_;have tV:H dm=none:=s1.free EK;refine⟨dm,o,[],jk mY.symm jb,fun _ _ e=>(by rw[tV]at e;cases e),?_⟩;have s3:Same H (upd (upd (upd (upd G2 vw (zY vw dm)) dm (.frz o (.dK []))) p (.dK [])) dm (.dK [])):=fun b' o' e=>by
  have n1:b'≠dm:=jh e tV;have e3:upd (upd G2 vw (zY vw dm)) dm (.frz o (.dK [])) b'=some o':=jk n1 (lI _ _ (bv _ _ e));exact jk n1 (jk (jh e3 hp) e3)
 generalize upd (upd (upd (upd G2 vw (zY vw dm)) dm (.frz o (.dK []))) p (.dK [])) dm (.dK [])=G3 at *;clear lI Gs EI m_ hp mY rf EK s2 s1 bv;refine⟨sm rfl,fun lp nj=>?_⟩;refine gQ ?_;have s4:=s3.trans (je nj (.lst []));generalize upd G3 lp (.lst [])=G4 at *;refine⟨_,rfl,ra,rfl,⟨_,SqL.of (s4 _ _ Fl)⟩,?_⟩;refine y9 (xs:=rs) (fun i σ G=>∃u v,σ=[some (.ref ra),some (.ref la),some (.ref dn),some (.ref dt),some (.ref dm),some (.ref p),some (.ref lp),u,v]/\Same H G) ⟨none,none,rfl,s4⟩ ?_ ?_ ?_
 .rintro i σ G _ ⟨_,_,rfl,sG⟩
  exact SqL.of (sG _ _ Fl)
 .rintro i y σ G t hy ⟨_,_,rfl,sG⟩ ht
  have hl:=fh.length;rw[aC]at hl;have hi:i < R.length:=by rw[hl];exact (aY.mp hy).1
  have gI:Held H R[i].toD y:=zn fh (by rw[bU,aI hi];rfl) hy;obtain⟨x0,t0,c0,tM⟩:=hR _ (gD hi);rw[tM]at gI;obtain⟨ty,y0,y1,y2,y3,rfl,pE,h0,_⟩:=ja9 gI
  cases jA h0
  have s5:=je ht (.tup [.int i,.ref ty]);have e5:upd G t (.tup [.int i,.ref ty]) t=some (.tup [.int i,.ref ty]):=jb;generalize upd G t (.tup [.int i,.ref ty])=G5 at *;have Fc:=s5 _ _ (sG _ _ pE);refine⟨t,_,rfl,SqT.of e5,rfl,_,_,rfl,_,_,rfl,rfl,?_⟩;refine⟨_,rfl,ty,_,_,_,rfl,rfl,SqT.of Fc,jH (j:=0) rfl,rfl,_,rfl,yj ?_⟩;refine⟨_,rfl,ty,_,_,_,rfl,rfl,SqT.of Fc,jH (j:=0) rfl,rfl,_,rfl,yj ?_⟩;exact⟨_,_,rfl,sG.trans s5⟩
 rintro σ G ⟨_,_,rfl,sG⟩;exact⟨_,rfl,_,rfl,_,rfl,sm rfl,fun p' cN=>q _ _ (sG.trans (je cN _))⟩
end
end LW
namespace L2
open PySem PySem.Spec PyProof.Rows
end L2
namespace LW
open PySem L2
abbrev JK:aA:=top 72
abbrev K0:aA:=top 102
structure DecOk(R:List Rw)(k:Cl)(x y:List D)(c:Int):Prop where
 t:CaseT R k x y c
 sx:Src (.tup x)
 sy:Src (.tup y)
 ne:kQ (.tup x)≠kQ zl
 o:y=x\/D.tup y=zl
 s:¬(y=x/\c < 0)->∃z,x=[.str "start",.str z]
def wide(R:List Rw)(k:Cl):Nat:=((qj R k).l 2).length
inductive spDecided(CX o1:aa)(vs:List V)(H:Hp)(Q:VK)(E:XK):Prop
 | mk (a:aa) (R:List Rw) (k:Cl) (v:V) (x y:List D) (c:Int) (_:vs=[.ref a,v]) (_:jaq H a R k v) (_:DecOk R k x y c) (_:Held H zl (.ref o1)) (_:5 < wide R k->∀H',Same H H'->E (.ref CX) none H') (_:wide R k<=5->∀p v H',Same H H'->H' p=some (.tup [.str (if y=x/\c < 0 then "kept" else "stand"),v])->Q (.ref p) H')
section
variable {P:az}{w:ax}{K:av}{mg:Str->Option ad}{base:au}{CX o1:aa}
theorem jbK{f:aa}{fd:aD}{td:Tok}(F:Fun K "decided" "decided" JK f fd)(vz:mg "MOST_WIDE" = some (.int 5 td))(vA:mg "TooWide" = some (.ref CX))(vm:dE K CX valB "ValueError.__new__" = true)(B9:Fn P w K mg base 16 "width" ["rows","goal"] spWidth)(CV:Fn P w K mg base 16 "booked" ["rows","goal"] spBook)(Ch:Fn P w K mg base 16 "searched" ["book"] (spSearched o1))(Cd:Fn P w K mg base 15 "start_of" ["rows","amounts"] spStart):FnOk P w K mg base (CX1 P w) 17 f fd ["rows","goal"] (spDecided CX o1):=by
 have sc:FnScope ["rows","goal","found"] ["rows","goal"] (ji JK):=fQ;refine F.okX sc (fun vs H Q E h=>?_) (fun ay A outer s H vs Q E hr W h=>?_)
 .obtain⟨a,R,k,v,x,y,c,rfl,_⟩:=h
  rfl
 obtain⟨a,R,k,v,x,y,c,rfl,hg,ok,ho,q1,q2⟩:=h;refine⟨_,(ja (jQ (jw Yq (jD B9 hr (jd (zpv 0) (jd (zpv 1) jc))) (qq (v:=.int 5) (by rfl) vz ⟨_,rfl⟩) (jF _)) (jf (Y6 W rfl (by rfl) vA vm (jd (jas (yx jy (yx (jat (qq (v:=.int 5) (by rfl) vz ⟨_,rfl⟩)) (yx jy jer)))) jc))) jC)
   (ja (jt (i:=2) sc.nd rfl oQ (jD Ch hr (jd (jD CV hr (jd (zpv 0) (jd (zpv 1) jc))) jc)))
   (ja (jQ (jw ka (jz jE (zpv 2) jl (fun _ _=>rfl)) jy (jF _)) (jf (jr (jM (jd jy (jd (jz jE (zpv 2) jl (fun _ _=>rfl)) jc))))) jC)
   (jf (jr (jM (jd jy (jd (jD Cd hr (jd (zpv 0) (jd (jz jE (zpv 2) jl (fun _ _=>rfl)) jc))) jc)))))))),?_⟩
 refine qN ?_
 try dsimp only[j5]
 refine YE ?_;intro _ _ _;refine⟨_,rfl,_,rfl,a,R,k,v,rfl,hg,ok.t.ok,fun H1 s1=>?_⟩;refine⟨_,_,rfl,rfl,_,rfl,jZ (fun d=>?_) (fun d=>?_)⟩
 .have hE:=q1 (by have:=Tq d;unfold wide;omega) H1 s1
  have La:∀{x y:Str} {k m:Nat},x.length<=k->y.length<=m->(x++y).length<=k+m:=fun hx hy=>by rw[jcM];omega
  have l1:(eR++("more than " : Str)).length<=10:=by decide +kernel
  have l2:(bx (nS (5:Int))).length<=2:=by decide +kernel
  have l3:(" unlike spots and upper ends" : Str).length<=30:=by decide +kernel
  have m2:=La l1 l2;have m3:=La m2 l3;exact⟨_,rfl,km (aU l1 (by decide)),5,rfl,by decide,_,rfl,km (aU m2 (by decide)),_,rfl,km (aU m3 (by decide)),km (aU m3 (by decide)),(show 1<=1000 by decide),hE⟩
 .have h5:wide R k<=5:=by
   have:¬((((qj R k).l 2).length:Int) > 5):=fun z=>d (Tr z)
   unfold wide;omega
  refine⟨_,rfl,_,rfl,a,R,k,v,x,y,c,rfl,?_,ok.t,fun t la lb z H2 s2 e1 e2 hz e3=>?_⟩
  .obtain⟨⟨rs,h1,h2⟩,h3,h4⟩:=hg
   exact⟨⟨rs,s1 _ _ h1,h2.mono s1⟩,h3,h4.mono s1⟩
  obtain⟨tz,vx,vy,rfl,M5,hx,hy⟩:=Zd hz;have bv:=s1.trans s2;refine⟨t,la,lb,tz,vx,vy,.tup x,.tup y,c,rfl,e1,e2,e3,M5,hx,hy,ho.mono bv,ok.sx,ok.sy,ok.ne,ok.o.imp (Tw D.tup) id,fun At hc p v' H3 s3 hp=>?_,fun hn p l a' b' i j H3 s3 hp hl ha hb=>?_⟩
  .refine gQ ?_
   have At:y=x:=by injection At
   rw[Tu ⟨At,hc⟩]at q2;refine⟨_,rfl,p,_,_,_,rfl,rfl,SqT.of hp,jH (j:=0) rfl,rfl,_,rfl,kY ?_⟩;exact⟨_,rfl,p,_,_,_,rfl,rfl,SqT.of hp,jH (j:=1) rfl,sm rfl,fun p' cN=>q2 h5 p' v' _ (bv.trans (s3.trans (je cN _))) jb⟩
  .refine gQ ?_
   have iV:¬(y=x/\c < 0):=fun z=>hn ⟨Tw D.tup z.1,z.2⟩
   rw[Tt iV]at q2;obtain⟨z,rfl⟩:=ok.s iV;refine⟨_,rfl,p,_,_,_,rfl,rfl,SqT.of hp,jH (j:=0) rfl,rfl,_,rfl,yj ?_⟩;obtain⟨cx,us,rfl,hcx,cf⟩:=js hx;have cG:=bv.trans s3;obtain⟨⟨rs,h1,h2⟩,h3,h4⟩:=hg;refine⟨_,rfl,_,rfl,p,_,_,_,rfl,rfl,SqT.of hp,jH (j:=1) rfl,a,l,o1,R,rs,z,rfl,cG _ _ h1,h2.mono cG,ok.t.r,⟨⟨a',b',cx,i,j,hl,ha,hb,ho.mono cG,hx.mono s3⟩,ok.sx⟩,fun v' H4 s4=>⟨sm rfl,fun p' cN=>?_⟩⟩;exact q2 h5 p' v' _ (cG.trans (s4.trans (je cN _))) jb
end
inductive Vd where
 | kept | stand | wide
def vdO(R:List Rw)(k:Cl)(x y:List D)(c:Int):Vd:=if 5 < wide R k then .wide else if y=x/\c < 0 then .kept else .stand
structure DuOk(d:Du)(v:Vd):Prop where
 h:∃(R:List Rw) (x y:List D) (c:Int),d.way=R.map Rw.toD/\R.length<=12/\DecOk R d.goal x y c/\v=vdO R d.goal x y c
inductive Jd where
 | kept | broken (n:Nat) | wide
def jud:Nat->List Vd->Jd
 | _,[]=>.kept
 | n,.kept :: r=>jud (n+1) r
 | n,.stand :: _=>.broken n
 | _,.wide :: _=>.wide
theorem YA:∀(l:List Vd) (n:Nat),(∀v∈l,v=.kept)->∀r,jud n (l++r)=jud (n+l.length) r
 | [],n,_,r=>rfl
 | v :: l,n,h,r=>by
  rw[h v (bt ..),bW];show jud (n+1) (l++r)=jud (n+(l.length+1)) r;rw[YA l (n+1) (fun u hu=>h u (bu _ hu)) r,show n+1+l.length=n+(l.length+1) by omega]
theorem DutsAt.get{G:Hp}:∀{ds:List Du} {vs:List V} {aE:List aa} {i:Nat} {x:V},DutsAt G ds vs aE->vs[i]?=some x->∃d wl,ds[i]?=some d/\wl∈aE/\DuAt G d x wl
 | [],[],[],i,x,_,h=>by simp at h
 | d :: ds,v :: vs,wl :: aE,0,x,hd,h=>by
  simp at h;subst h;exact⟨d,wl,rfl,bt ..,hd.1⟩
 | d :: ds,v :: vs,wl :: aE,i+1,x,hd,h=>by
  obtain⟨d',Lz,e,hm,h'⟩:=DutsAt.get (i:=i) hd.2 (by simpa using h);exact⟨d',Lz,by simpa using e,bu _ hm,h'⟩
inductive spJudged(CT CX o1:aa)(n:Nat)(vs:List V)(H:Hp)(Q:VK)(E:XK):Prop
 | mk (a:aa) (us:List V) (prog:List Pc) (pr:Str->Pc) (num:Pc->List Str) (vd:Du->Vd) (_:vs=[.ref a]) (_:H a=some (.tup us)) (_:HeldL H (prog.map Pc.toD) us) (_:prog.length<=20) (_:(prog.map Pc.f).Nodup) (_:∀p∈prog,p.lv=n/\pr p.f=p/\PcFit (prog.map Pc.f) pr p/\NumsOf p (num p)) (_:(prog.map Pc.most).sum<=9000) (_:Held H zl (.ref o1)) (_:∀ds,qK pr num prog=some ds->∀d∈ds,DuOk d (vd d))
  (_:qK pr num prog=none->∀H',Same H H'->E (.ref CT) none H') (_:∀ds,qK pr num prog=some ds->jud 0 (ds.map vd)=.wide->∀H',Same H H'->E (.ref CX) none H')
  (_:∀ds k,qK pr num prog=some ds->jud 0 (ds.map vd)=.broken k->∀p v H',Same H H'->H' p=some (.tup [.str "broken",.int k,v])->Q (.ref p) H')
  (_:∀ds,qK pr num prog=some ds->jud 0 (ds.map vd)=.kept->∀p l xs H',Same H H'->H' p=some (.tup [.str "kept",.ref l])->H' l=some (.lst xs)->xs.length=ds.length->Q (.ref p) H')
section
variable {P:az}{w:ax}{K:av}{mg:Str->Option ad}{base:au}{CT CX o1:aa}
theorem jdk{f:aa}{fd:aD}(F:Fun K "judged" "judged" K0 f fd)(bJ:mg "enumerate" = none)(CJ:FnX P w K mg base 15 "duties" ["program"] (spDuties CT 2))(CM:FnX P w K mg base 17 "decided" ["rows","goal"] (spDecided CX o1)):FnOk P w K mg base (CX1 P w) 18 f fd ["program"] (spJudged CT CX o1 2):=by
 have sc:FnScope ["program","papers","n","duty","straight","goal","word","told"] ["program"] (ji K0):=fQ;refine F.okX sc (fun vs H Q E h=>?_) (fun ay A outer s H vs Q E hr W h=>?_)
 .obtain⟨a,us,prog,pr,num,vd,rfl,_⟩:=h
  rfl
 obtain⟨a,us,prog,pr,num,vd,rfl,ha,cf,cy,bX,hok,FC,ho,Oe,e1,e2,q1,q2⟩:=h;refine⟨_,(ja (jt (i:=1) sc.nd rfl oQ (jK jc))
   (ja (jW W.own rfl (zD (by rfl) bJ (jd (zK CJ W hr (jd (zpv 0) jc)) jc)) (jX rfl (jm (jj (i:=2) sc.nd rfl oQ) (jm (jj (i:=3) sc.nd rfl oQ) jJ))) (ja (kX (kC zZ (zpv 3) (kF jl) qp) (jX rfl (jm (jj (i:=4) sc.nd rfl oQ) (jm (jj (i:=5) sc.nd rfl oQ) jJ))))
   (ja (kX (zK CM W hr (jd (zpv 4) (jd (zpv 5) jc))) (jX rfl (jm (jj (i:=6) sc.nd rfl oQ) (jm (jj (i:=7) sc.nd rfl oQ) jJ))))
   (ja (jQ (jw ka (zpv 6) jy (jF _)) (jf (jr (jM (jd jy (jd (zpv 2) (jd (zpv 7) jc)))))) jC)
   (jf (j7 (ql dL iJ iI kE (zpv 1) (jd (zpv 7) jc))))))))
   (jf (jr (jM (jd jy (jd (zpv 1) jc))))))),?_⟩
 refine qN ?_
 try dsimp only[j5]
 refine zI ?_;intro _ _;refine⟨sm rfl,fun lp nj=>?_⟩;refine gQ ?_;have s1:=je nj (.lst []);have ep:upd H lp (.lst []) lp=some (.lst []):=jb;generalize upd H lp (.lst [])=H1 at *;refine⟨_,rfl,a,us,prog,pr,num,rfl,s1 _ _ ha,cf.mono s1,cy,bX,hok,FC,?_,fun en H2 s2=>e1 en H2 (s1.trans s2)⟩;intro ml ms aE ds H2 gR s2 lX hml hD hwn hw FB;have NK:lp ∉ aE:=fun z=>by have:=hw _ z;rw[ep]at this;cases this
 have aW:ml≠lp:=fun z=>by rw[z,ep]at lX;cases lX
 have hlen:=hD.len;have uf:=s2 _ _ ep;have bv:=s1.trans s2;refine⟨ml,rfl,⟨_,SqL.of hml⟩,?_⟩;let Pv:Nat->L2.St->Hp->Prop:=fun i σ G=>∃u2 u3 u4 u5 u6 u7 xs,σ=[some (.ref a),some (.ref lp),u2,u3,u4,u5,u6,u7]/\(∀b o,b≠lp->H2 b=some o->G b=some o)/\G lp=some (.lst xs)/\xs.length=i/\∀v∈(ds.take i).map vd,v=.kept
 have Ek:∀{G:Hp},(∀b o,b≠lp->H2 b=some o->G b=some o)->Same H G:=fun k b o e=>k b o (jh e nj) (bv _ _ e)
 refine y9 (xs:=ms) Pv ⟨none,none,none,none,none,none,[],rfl,fun _ _ _ e=>e,uf,rfl,fun v hv=>by simp at hv⟩ ?_ ?_ ?_
 .rintro i σ G _ ⟨u2,u3,u4,u5,u6,u7,xs,rfl,k,_⟩
  exact SqL.of (k _ _ aW hml)
 .rintro i y σ G t hy ⟨u2,u3,u4,u5,u6,u7,xs,rfl,k,hG,fc,pP⟩ ht
  have hi:i < ms.length:=(aY.mp hy).1;obtain⟨d,wl,hd,iQ,Od⟩:=(DutsAt.keep k uf hD NK).get hy;obtain⟨td,pt,LC,gv,rfl,M8,dA,MS,gJ,N6⟩:=Od;have Of:i < ds.length:=(aY.mp hd).1;have tV:d∈ds:=Lg hd;obtain⟨R,x,yy,c,MT,hR,O0,hv⟩:=(Oe ds gR d tV).h;rw[MT]at gJ;have gq:(ds.take i++d :: ds.drop (i+1))=ds:=by
   have:=(aY.mp hd).2;rw[<- this,List.getElem_cons_drop_succ_eq_drop,v_]
  have FM:∀r,vd d=r->jud 0 (ds.map vd)=jud i (r :: (ds.drop (i+1)).map vd):=fun r hr=>by
   rw[<- gq,bh,bE,hr,YA _ 0 pP,aC,cM,ow (cP Of),mI];rw[gq]
  have s3:=je ht (.tup [.int i,.ref td]);have e3:upd G t (.tup [.int i,.ref td]) t=some (.tup [.int i,.ref td]):=jb;have gP:=s3 _ _ hG;generalize upd G t (.tup [.int i,.ref td])=G3 at *;refine y7 ?_;intro _;refine⟨t,_,rfl,SqT.of e3,rfl,_,_,rfl,_,_,rfl,rfl,?_⟩;refine gQ ?_;refine⟨_,rfl,_,rfl,td,_,rfl,SqT.of (s3 _ _ M8),(fun h=>absurd h.1 (by show ¬(HT.sIx 6 0 (some 4)=0);decide)),fun t' df=>?_⟩;have s4:=je df (.tup (qo [.str d.f,.str d.kind,.ref pt,.int d.k,.ref wl,gv] (some 4) none));have e4:upd G3 t' (.tup (qo [.str d.f,.str d.kind,.ref pt,.int d.k,.ref wl,gv] (some 4) none)) t'=some (.tup [.ref wl,gv]):=jb;generalize upd G3 t' (.tup (qo [.str d.f,.str d.kind,.ref pt,.int d.k,.ref wl,gv] (some 4) none))=G4 at *;have mW:=s3.trans s4;refine⟨t',_,rfl,SqT.of e4,rfl,_,_,rfl,_,_,rfl,rfl,?_⟩;refine gQ ?_;have Bk:=Ek k;refine⟨_,rfl,_,rfl,wl,R,d.goal,gv,x,yy,c,rfl,⟨⟨LC,mW _ _ MS,gJ.mono mW⟩,hR,N6.mono mW⟩,O0,ho.mono (Bk.trans mW),fun h5 H5 s5=>?_,fun h5 p v H5 s5 hp=>?_⟩
  .exact e2 ds gR (by rw[FM .wide (by rw[hv];unfold vdO;rw[Tu h5])];rfl) H5 (Bk.trans (mW.trans s5))
  .refine⟨p,_,rfl,SqT.of hp,rfl,_,_,rfl,_,_,rfl,rfl,?_⟩
   refine gQ ?_;have wQ:=mW.trans s5;have tJ:vd d=if yy=x/\c < 0 then .kept else .stand:=by rw[hv];unfold vdO;rw[Tt (by omega)]
   by_cases hk:yy=x/\c < 0
   .rw[Tu hk]at tJ
    have e5:(if yy=x/\c < 0 then ("kept" : Str) else "stand") = "kept":=Tu hk;rw[e5];refine⟨_,rfl,rfl,_,rfl,yj ?_⟩;have i5:=wQ _ _ hG;refine⟨_,rfl,.inl ⟨rfl,_,SqL.of i5⟩,_,rfl,lp,xs,_,rfl,rfl,i5,jbz (by have:=hlen;have:=Kv (fun p hp=>(hok p hp).2.2.1) gR;omega),?_⟩;refine⟨_,_,_,_,_,_,xs++[v],rfl,fun b o hb e=>jk hb (wQ _ _ (k b o hb e)),jb,by rw[aO,fc];rfl,fun u hu=>?_⟩;rw[cE,hd,bh]at hu;rcases bB.mp hu with hu | hu
    .exact pP u hu
    .rw[bf.mp hu]
     exact tJ
   .rw[Tt hk]at tJ
    have e5:(if yy=x/\c < 0 then ("kept" : Str) else "stand") = "stand":=Tt hk;rw[e5];refine⟨_,rfl,rfl,_,rfl,kY ?_⟩;exact⟨_,rfl,_,rfl,sm rfl,fun p' cN=>q1 ds i gR (by rw[FM .stand tJ];rfl) p' v _ (Bk.trans (wQ.trans (je cN _))) jb⟩
 .rintro σ G ⟨u2,u3,u4,u5,u6,u7,xs,rfl,k,hG,fc,pP⟩
  rw[hlen,cV]at pP;have hj:jud 0 (ds.map vd)=.kept:=by
   have:=YA (ds.map vd) 0 pP [];rw[dl]at this;exact this
  exact⟨_,rfl,sm rfl,fun p hp=>q2 ds gR hj p lp xs _ ((Ek k).trans (je hp _)) jb (je hp _ _ _ hG) (by rw[fc,hlen])⟩
end
def xx1:Cl:=.least (.is "x") (.is "x") 1
def yy0:Cl:=.least (.is "y") (.is "y") 0
def xC(c:Int):Cl:=.least (.is "x") (.is "") c
abbrev sx:List D:=[.str "start",.str "x"]
def zy(x:Str):Rw:=.set x (.is "") 0
def rdR(k:Nat):Rw:=.set "y" (.at_ "r" "x" (k:Int)) 0
def yi(six:Bool):List Rw:=[zy "out",zy "y"]++(bL (if six then 6 else 5)).map rdR
def eyD(six:Bool):List D:=[.str "entry",YX "r",p2 (.tup sx,if six then 5 else 4)]
theorem zW:D.depthL sx<=180:=by decide
theorem okS{x:Str}(h:(x.cps.toList.all fun c=>decide (97<=c) && decide (c<=122))=true):OkD (.str x):=by
 intro c hc;have:=wm.mp h c hc;rw[cm]at this;exact .inl ⟨Tq this.1,Tq this.2⟩
theorem KD:Src (.tup sx):=⟨⟨_,rfl⟩,by decide,⟨okS (by decide +kernel),okS (by decide +kernel),trivial⟩,by decide +kernel⟩
theorem jeg(six:Bool):Src (.tup (eyD six)):=by
 refine⟨⟨_,rfl⟩,by cases six <;> decide,⟨okS (by decide +kernel),⟨okS (by decide +kernel),okS (by decide +kernel),trivial⟩,⟨KD.k,?_,trivial⟩,trivial⟩,by cases six <;> decide +kernel⟩
 cases six <;> (show (_:Int).natAbs < 10 ^ 39;decide)
theorem jac{a b:D}(ha:OkD a)(hb:OkD b)(h:a≠b):kQ a≠kQ b:=fun e=>h (jc2 ha hb (CZ e))
theorem nxn:D.tup sx≠zl:=by unfold zl;intro h;injection h with h;injection h with h1 h2;cases h2
theorem ji2:(qj [zy "out"] xx1).l 1=[.tup [.tup sx,.tup sx,.int 0]]:=rfl
theorem ji1:(qj [zy "out"] xx1).l 2=[]:=rfl
theorem ji0(c:Int):(qj [zy "out",zy "y"] (xC c)).l 1=[.tup [.tup sx,zl,.int (0 - (0+(1 - c)))]]:=rfl
theorem jiZ(six:Bool):(qj (yi six) yy0).l 1=[.tup [.tup (eyD six),.tup (eyD six),.int (-1)]]:=by cases six <;> rfl
theorem jhz(six:Bool)(k:Cl)(h:(∃c,k=xC c)\/k=yy0):(qj (yi six) k).l 2=((bL (if six then 6 else 5)).map fun (i:Nat)=>(i:Int)).map fun d=>p2 (.tup sx,d):=by
 rcases h with⟨c,rfl⟩ | rfl <;> cases six <;> rfl
theorem jiY(six:Bool)(c:Int):(qj (yi six) (xC c)).l 1=[.tup [.tup sx,zl,.int (0 - (0+(1 - c)))]]:=by cases six <;> rfl
theorem jaa{x:Str}:∃y t c,zy x=Rw.set y t c:=⟨_,_,_,rfl⟩
theorem jaJ(six:Bool):∀r∈yi six,∃x t c,r=Rw.set x t c:=fun r hr=>by
 rcases bB.mp hr with h | h
 .simp only[aN,eV,or_false]at h
  rcases h with rfl | rfl <;> exact jaa
 .obtain⟨k,_,rfl⟩:=ck.mp h
  exact⟨_,_,_,rfl⟩
theorem jfM:∀r∈[zy "out",zy "y"],∃x t c,r=Rw.set x t c:=fun r hr=>by
 simp only[aN,eV,or_false]at hr;rcases hr with rfl | rfl <;> exact jaa
theorem Yn(n:Nat):((bL n).map fun (i:Nat)=>(i:Int)).Pairwise (· < ·):=by
 rw[List.pairwise_map];exact Le.imp fun h=>by omega
theorem jiX:DecOk [zy "out"] xx1 sx sx 0:=
 ⟨⟨fun r hr=>by rw[bf.mp hr];exact jaa,⟨_,_,_,rfl⟩,⟨⟨sx,[],ji1,zW,.nil⟩,rfl,rfl,rfl,rfl⟩,ji2,zW,zW⟩,KD,KD,jac KD.k zM.k nxn,.inl rfl,fun _=>⟨_,rfl⟩⟩
theorem nnx:([D.str "nought"]:List D)≠sx:=fun h=>by injection h with h1 h2;cases h2
theorem jiW(c:Int):DecOk [zy "out",zy "y"] (xC c) sx [.str "nought"] (0 - (0+(1 - c))):=
 ⟨⟨jfM,⟨_,_,_,rfl⟩,⟨⟨sx,[],rfl,zW,.nil⟩,rfl,rfl,rfl,rfl⟩,ji0 c,zW,by decide⟩,KD,zM,jac KD.k zM.k nxn,.inr rfl,fun _=>⟨_,rfl⟩⟩
theorem nen(six:Bool):D.tup (eyD six)≠zl:=by unfold zl;intro h;injection h with h;injection h with h1 h2;cases h2
theorem jiV(six:Bool):DecOk (yi six) yy0 (eyD six) (eyD six) (-1):=
 ⟨⟨jaJ six,⟨_,_,_,rfl⟩,⟨⟨sx,_,jhz six yy0 (.inr rfl),zW,Yn _⟩,by cases six <;> rfl,by cases six <;> rfl,by cases six <;> rfl,by cases six <;> rfl⟩,jiZ six,by cases six <;> decide,by cases six <;> decide⟩,jeg six,jeg six,jac (jeg six).k zM.k (nen six),.inl rfl,fun h=>absurd ⟨rfl,by decide⟩ h⟩
theorem jiU(six:Bool)(c:Int):DecOk (yi six) (xC c) sx [.str "nought"] (0 - (0+(1 - c))):=
 ⟨⟨jaJ six,⟨_,_,_,rfl⟩,⟨⟨sx,_,jhz six (xC c) (.inl ⟨c,rfl⟩),zW,Yn _⟩,by cases six <;> rfl,by cases six <;> rfl,by cases six <;> rfl,by cases six <;> rfl⟩,jiY six c,zW,by decide⟩,KD,zM,jac KD.k zM.k nxn,.inr rfl,fun _=>⟨_,rfl⟩⟩
def vdD(d:Du):Vd:=if d.way.length=8 then .wide else match d.goal with
 | .least (.is s) _ _=>if s = "y" then .kept else .stand
 | _=>.stand
theorem Y9(six:Bool)(k:Cl)(h:(∃c,k=xC c)\/k=yy0):wide (yi six) k=if six then 6 else 5:=by
 unfold wide;rw[jhz six k h]
 cases six <;> rfl
theorem du1(f kd:Str)(pa:List Int)(i:Int):DuOk ⟨f,kd,pa,i,[zy "out"].map Rw.toD,xx1⟩ (vdD ⟨f,kd,pa,i,[zy "out"].map Rw.toD,xx1⟩):=⟨_,_,_,_,rfl,by decide,jiX,by unfold vdO;rw[Tt (show ¬5 < wide [zy "out"] xx1 by decide),Tt (by decide)];rfl⟩
theorem du2(f kd:Str)(pa:List Int)(i c:Int):DuOk ⟨f,kd,pa,i,[zy "out",zy "y"].map Rw.toD,xC c⟩ (vdD ⟨f,kd,pa,i,[zy "out",zy "y"].map Rw.toD,xC c⟩):=⟨_,_,_,_,rfl,by decide,jiW c,by unfold vdO;rw[Tt (show ¬5 < wide [zy "out",zy "y"] (xC c) from (show ¬5 < 0 by decide)),Tt (fun h=>nnx h.1)];rfl⟩
theorem du3(six:Bool)(f kd:Str)(pa:List Int)(i:Int):DuOk ⟨f,kd,pa,i,(yi six).map Rw.toD,yy0⟩ (vdD ⟨f,kd,pa,i,(yi six).map Rw.toD,yy0⟩):=by
 refine⟨_,_,_,_,rfl,by cases six <;> decide,jiV six,?_⟩;unfold vdO;rw[Y9 six yy0 (.inr rfl)]
 cases six
 .rw[Tt (by decide),Tu ⟨rfl,by decide⟩]
  rfl
 .rw[Tu (by decide)]
  rfl
theorem du4(six:Bool)(f kd:Str)(pa:List Int)(i c:Int):DuOk ⟨f,kd,pa,i,(yi six).map Rw.toD,xC c⟩ (vdD ⟨f,kd,pa,i,(yi six).map Rw.toD,xC c⟩):=by
 refine⟨_,_,_,_,rfl,by cases six <;> decide,jiU six c,?_⟩;unfold vdO;rw[Y9 six (xC c) (.inl ⟨c,rfl⟩)]
 cases six
 .rw[Tt (by decide),Tt (fun h=>nnx h.1)]
  rfl
 .rw[Tu (by decide)]
  rfl
inductive Kd where
 | plain | ifs | reads
def lf(S:Sm):StN 2:=(Fo.leaf S:Fo (StN 1))
def ifS(c:Int):StN 2:=(Fo.ite (.is "x") (.is "") c [(Fo.leaf (.set "y" (.is "x") c):Fo (StN 0))] []:Fo (StN 1))
def jeo(k:Nat):StN 2:=lf (.set "y" (.at_ "r" "x" (k:Int)) 0)
structure LP where
 five:Bool
 six:Bool
 a:Fin 3
 c:Int
def LP.many(p:LP):Nat:=if p.five then 5 else 4
def LP.across(p:LP):Nat:=if p.six then 6 else 5
def bdR(six:Bool):List (StN 2):=(bL (if six then 6 else 5)).map jeo
def bdK(p:LP):Kd->List (StN 2)
 | .plain=>[lf (.claim xx1)]
 | .ifs=>DT p.many (ifS p.c)
 | .reads=>(if p.a=1 then [lf (.claim (xC p.c))] else [])++(bdR p.six++[lf (.claim yy0)])++(if p.a=2 then [lf (.claim (xC p.c))] else [])
def fK:Kd->Str
 | .plain=>"plain"
 | .ifs=>"ifs"
 | .reads=>"reads"
def rsK:Kd->List Str
 | .reads=>["r"]
 | _=>[]
def pcK(p:LP)(k:Kd):Pc:={ f:=fK k,ps:=["x"],rs:=rsK k,nd:=[],gv:=[],lv:=2,bd:=bdK p k }
def nsK:Kd->List Str
 | .plain=>["out","x"]
 | _=>["out","x","y"]
def jbN(q:Pc):List Str:=if q.f = "plain" then ["out","x"] else ["out","x","y"]
theorem jbM(p:LP)(k:Kd):jbN (pcK p k)=nsK k:=by cases k <;> rfl
def w2D:List D:=[zy "out",zy "y"].map Rw.toD
def dsK(p:LP):Kd->List Du
 | .plain=>[⟨"plain","claim",[0],0,[zy "out"].map Rw.toD,xx1⟩]
 | .ifs=>[]
 | .reads=>(if p.a=1 then [⟨"reads","claim",[0],0,w2D,xC p.c⟩] else [])++(⟨"reads","claim",[(if p.six then 6 else 5)+if p.a=1 then 1 else 0],0,(yi p.six).map Rw.toD,yy0⟩ :: (if p.a=2 then [⟨"reads","claim",[(if p.six then 6 else 5)+1],0,(yi p.six).map Rw.toD,xC p.c⟩] else []))
theorem jgB{p:LP}(h:p.five=true)(pr:Str->Pc):(pcK p .ifs).dus pr (nsK .ifs)=none:=by
 obtain⟨f,s,a,c⟩:=p;obtain rfl:f=true:=h;rfl
theorem jgA{p:LP}(h:p.five=false)(pr:Str->Pc)(k:Kd):(pcK p k).dus pr (nsK k)=some (dsK p k):=by
 obtain⟨f,s,a,c⟩:=p;obtain rfl:f=false:=h
 cases k
 .rfl
 .rfl
 .match s,a with
  | true,0=>rfl
  | true,1=>rfl
  | true,2=>rfl
  | false,0=>rfl
  | false,1=>rfl
  | false,2=>rfl
theorem jbg{p:LP}(h:p.five=true)(pr:Str->Pc):∀ks:List Kd,.ifs∈ks->qK pr jbN (ks.map (pcK p))=none
 | [],h=>by cases h
 | k :: ks,hm=>by
  rw[bE,qK,jbM];by_cases hk:k=.ifs
  .rw[hk,jgB h]
  .have:=jbg h pr ks ((aN.mp hm).resolve_left fun e=>hk e.symm)
   rw[this]
   cases (pcK p k).dus pr (nsK k) <;> rfl
theorem YK{p:LP}(h:p.five=false)(pr:Str->Pc):∀ks:List Kd,qK pr jbN (ks.map (pcK p))=some (ks.flatMap (dsK p))
 | []=>rfl
 | k :: ks=>by
  rw[bE,qK,jbM,jgA h,YK h pr ks];rfl
theorem jit(p:LP)(k:Kd):∀d∈dsK p k,DuOk d (vdD d):=by
 cases k
 .intro d hd
  rw[bf.mp (show d∈[_] from hd)];exact du1 ..
 .intro d hd
  cases hd
 .intro d hd
  rcases bB.mp (show d∈_++_ from hd) with hd | hd
  .split at hd
   .rw[bf.mp hd]
    exact du2 ..
   .cases hd
  .rcases aN.mp hd with rfl | hd
   .exact du3 ..
   .split at hd
    .rw[bf.mp hd]
     exact du4 ..
    .cases hd
def Kx(p:LP):List Kd->Nat->V
 | [],n=>.int n
 | k :: r,n=>if p.five then .str "many" else match k with
  | .plain=>.int n
  | .ifs=>Kx p r n
  | .reads=>if p.a=1 then .int n else if p.six then .str "wide" else if p.a=2 then .int (n+1:Nat) else Kx p r (n+1)
theorem JZ{p:LP}(h:p.five=false):∀(ks:List Kd) (n:Nat),(jud n ((ks.flatMap (dsK p)).map vdD)=.wide/\Kx p ks n=.str "wide")\/(∃m,jud n ((ks.flatMap (dsK p)).map vdD)=.broken m/\Kx p ks n=.int m)\/(.plain ∉ ks)
 | [],n=>.inr (.inr (by simp))
 | k :: ks,n=>by
  obtain⟨f,s,a,c⟩:=p;obtain rfl:f=false:=h
  cases k
  .exact .inr (.inl ⟨n,rfl,rfl⟩)
  .rcases JZ (p:=⟨false,s,a,c⟩) rfl ks n with h | ⟨m,h1,h2⟩ | h
   .exact .inl h
   .exact .inr (.inl ⟨m,h1,h2⟩)
   .exact .inr (.inr fun z=>(aN.mp z).elim (fun z=>(nomatch z)) h)
  .match s,a with
   | true,0=>exact .inl ⟨rfl,rfl⟩
   | true,1=>exact .inr (.inl ⟨n,rfl,rfl⟩)
   | true,2=>exact .inl ⟨rfl,rfl⟩
   | false,0=>
    rcases JZ (p:=⟨false,false,0,c⟩) rfl ks (n+1) with h | ⟨m,h1,h2⟩ | h
    .exact .inl h
    .exact .inr (.inl ⟨m,h1,h2⟩)
    .exact .inr (.inr fun z=>(aN.mp z).elim (fun z=>(nomatch z)) h)
   | false,1=>exact .inr (.inl ⟨n,rfl,rfl⟩)
   | false,2=>exact .inr (.inl ⟨n+1,rfl,rfl⟩)
theorem all_cons{α:Type}{P:α->Prop}{x:α}{l:List α}(h:P x)(r:∀y∈l,P y):∀y∈x :: l,P y:=fun y hy=>by
 rcases aN.mp hy with rfl | hy
 .exact h
 .exact r y hy
theorem qU{α:Type}{P:α->Prop}:∀y∈([]:List α),P y:=fun _ h=>(nomatch h)
theorem jic(p:LP)(k:Kd):PcOk (pcK p k):=by
 obtain⟨f,s,a,c⟩:=p
 cases k
 .exact⟨aw rfl,aw rfl,aw rfl,aw rfl,aw rfl,aw rfl,all_cons trivial qU⟩
 .cases f <;> refine⟨aw rfl,aw rfl,aw rfl,aw rfl,aw rfl,aw rfl,?_⟩ <;> repeat (first | exact qU | refine all_cons trivial ?_)
 .match s,a with
  | true,0=>refine⟨aw rfl,aw rfl,aw rfl,aw rfl,aw rfl,aw rfl,?_⟩;repeat (first | exact qU | refine all_cons trivial ?_)
  | true,1=>refine⟨aw rfl,aw rfl,aw rfl,aw rfl,aw rfl,aw rfl,?_⟩;repeat (first | exact qU | refine all_cons trivial ?_)
  | true,2=>refine⟨aw rfl,aw rfl,aw rfl,aw rfl,aw rfl,aw rfl,?_⟩;repeat (first | exact qU | refine all_cons trivial ?_)
  | false,0=>refine⟨aw rfl,aw rfl,aw rfl,aw rfl,aw rfl,aw rfl,?_⟩;repeat (first | exact qU | refine all_cons trivial ?_)
  | false,1=>refine⟨aw rfl,aw rfl,aw rfl,aw rfl,aw rfl,aw rfl,?_⟩;repeat (first | exact qU | refine all_cons trivial ?_)
  | false,2=>refine⟨aw rfl,aw rfl,aw rfl,aw rfl,aw rfl,aw rfl,?_⟩;repeat (first | exact qU | refine all_cons trivial ?_)
theorem zx{q:Pc}{ns:List Str}(hu:ns.Pairwise ltT)(hl:ns.length<=15)(h1:(q.others.all fun z=>decide (z∈ns))=true)(h2:(ns.all fun z=>decide (z∈q.others) || (decide (z∈q.ps) || decide (z = "out")))=true)(h3:(q.ps.all fun z=>decide (z∈ns))=true)(h4:("out" : Str)∈ns):NumsOf q ns:=by
 refine⟨hu,hl,fun x=>⟨fun h=>?_,fun h=>?_⟩⟩
 .have:=wm.mp h2 x h
  rw[mR,mR]at this;exact this.imp Tq fun z=>z.imp Tq Tq
 .rcases h with h | h | h
  .exact Tq (wm.mp h1 x h)
  .exact Tq (wm.mp h3 x h)
  .rw[h];exact h4
theorem jf1(p:LP)(k:Kd):NumsOf (pcK p k) (nsK k):=by
 obtain⟨f,s,a,c⟩:=p
 cases k
 .exact zx (by decide +kernel) (by decide) rfl rfl rfl (by decide +kernel)
 .cases f
  .exact zx (by decide +kernel) (by decide) rfl rfl rfl (by decide +kernel)
  .exact zx (by decide +kernel) (by decide) rfl rfl rfl (by decide +kernel)
 .match s,a with
  | true,0=>exact zx (by decide +kernel) (by decide) rfl rfl rfl (by decide +kernel)
  | true,1=>exact zx (by decide +kernel) (by decide) rfl rfl rfl (by decide +kernel)
  | true,2=>exact zx (by decide +kernel) (by decide) rfl rfl rfl (by decide +kernel)
  | false,0=>exact zx (by decide +kernel) (by decide) rfl rfl rfl (by decide +kernel)
  | false,1=>exact zx (by decide +kernel) (by decide) rfl rfl rfl (by decide +kernel)
  | false,2=>exact zx (by decide +kernel) (by decide) rfl rfl rfl (by decide +kernel)
theorem jaY{gs:List Str}{pr:Str->Pc}{S:Sm}(h:S.fit gs pr/\S.few):okN gs pr 2 (lf S):=h
theorem jim{gs:List Str}{pr:Str->Pc}{c:Int}:okN gs pr 2 (ifS c):=⟨aw rfl,aw rfl,all_cons ⟨trivial,trivial⟩ qU,qU⟩
theorem KN(k:Kd):(fK k).length<=100:=by cases k <;> decide +kernel
theorem jeE(gs:List Str)(pr:Str->Pc)(p:LP)(k:Kd):PcFit gs pr (pcK p k)/\(pcK p k).most<=40:=by
 have hk:∀S∈bdK p k,okN gs pr 2 S:=by
  cases k
  .exact all_cons (jaY ⟨trivial,trivial⟩) qU
  .intro S hS
   rw[(List.mem_replicate.mp hS).2];exact jim
  .intro S hS
   rcases bB.mp hS with hS | hS
   .rcases bB.mp hS with hS | hS
    .split at hS
     .rw[bf.mp hS];exact jaY ⟨trivial,trivial⟩
     .cases hS
    .rcases bB.mp hS with hS | hS
     .obtain⟨n,_,rfl⟩:=ck.mp hS
      exact jaY ⟨trivial,trivial⟩
     .rw[bf.mp hS];exact jaY ⟨trivial,trivial⟩
   .split at hS
    .rw[bf.mp hS];exact jaY ⟨trivial,trivial⟩
    .cases hS
 have ok:=jic p k;obtain⟨f,s,a,c⟩:=p
 cases k
 .exact⟨⟨ok,hk,aw rfl,aw rfl,aw rfl,KN .plain,aw rfl⟩,aw rfl⟩
 .cases f <;> exact⟨⟨ok,hk,aw rfl,aw rfl,aw rfl,KN .ifs,aw rfl⟩,aw rfl⟩
 .match s,a with
  | true,0=>exact⟨⟨ok,hk,aw rfl,aw rfl,aw rfl,KN .reads,aw rfl⟩,aw rfl⟩
  | true,1=>exact⟨⟨ok,hk,aw rfl,aw rfl,aw rfl,KN .reads,aw rfl⟩,aw rfl⟩
  | true,2=>exact⟨⟨ok,hk,aw rfl,aw rfl,aw rfl,KN .reads,aw rfl⟩,aw rfl⟩
  | false,0=>exact⟨⟨ok,hk,aw rfl,aw rfl,aw rfl,KN .reads,aw rfl⟩,aw rfl⟩
  | false,1=>exact⟨⟨ok,hk,aw rfl,aw rfl,aw rfl,KN .reads,aw rfl⟩,aw rfl⟩
  | false,2=>exact⟨⟨ok,hk,aw rfl,aw rfl,aw rfl,KN .reads,aw rfl⟩,aw rfl⟩
def prK(p:LP)(f:Str):Pc:=if f = "plain" then pcK p .plain else if f = "ifs" then pcK p .ifs else pcK p .reads
theorem jh9(p:LP)(k:Kd):prK p (pcK p k).f=pcK p k:=by cases k <;> rfl
end LW
namespace L2
open PySem PySem.Spec PyProof.Rows
variable {C:aa}
theorem YH{M:gY}{A:aM}{E:ad->af->Prop}{nm q:Str}{N:aa}{bs bm:List ad}{hdct:Bool}{sn:List Str}{sub:List ad}{ab:Bool}{col:Option Bool}{dd:Option aa}{k0 k1 k2 k3 k5:Option ad}{mZ:String}
  {EF q':Str} {C' N':aa} {Gz uk:List ad} {FX:Bool} {Ej:List Str} {Ef:List ad} {GF:Bool} {Gw:Option Bool} {dI:Option aa} {E6 E5 E4 E3 E2:Option ad} {L5:String} {h:au} {g:Array Dy} {d:Drawn} {t:Nat} {os:OsState} {e:aa} {oe:Obj} {Q:Bool->af->Prop}
  (hC:h.get? C=some (Di nm q C N bs bm hdct sn sub ab col dd k0 k1 k2 k3 k5 mZ)) (hD:h.get? C'=some (Di EF q' C' N' Gz uk FX Ej Ef GF Gw dI E6 E5 E4 E3 E2 L5)) (he:h.get? e=some oe) (hc:oe.cls=.ref C') (hb:bm.contains (.type "BaseException")=true) (ig:(Value.ref C' :: uk).contains (.ref C)=false)
  (q:Q false { heap:=h,gens:=g,drawn:=d,toks:=t,os:=os }):ah M A (excMatches (.ref e) (.ref C)) Q E { heap:=h,gens:=g,drawn:=d,toks:=t,os:=os }:=by
 unfold excMatches
 refine ae ?_
 unfold Ho
 refine ae (Pw hC ?_)
 have e1:isSubtype (.type "type") (.type "tuple")=pure false:=by rw[Hn];rfl
 show ah M A (isSubtype (.type "type") (.type "tuple")) _ E _
 rw[e1]
 refine aq ?_
 show ah M A (pure [Value.ref C] >>= _) Q E _
 refine ae (aq ?_)
 refine ae ?_
 rw[DZ]
 refine ae (ae ?_)
 unfold isExcClass
 refine ae (ks_wpAny_isType_cls hC rfl ?_)
 refine PX hC ?_
 rw[show (Value.ref C :: bm).contains (.type "BaseException")=true by rw[List.contains_cons,hb,Bool.or_true]]
 refine aq ?_
 dsimp only
 rw[wf]
 refine aq ?_
 refine ae (Pw he ?_)
 refine ae ?_
 rw[DZ]
 refine ae (ae ?_)
 rw[hc]
 refine PX hD ?_
 rw[ig]
 refine aq ?_
 dsimp only
 rw[wf]
 refine aq ?_
 exact aq q
theorem jgr{K:av}{h:au}{nm q:Str}{N:aa}{bs bm:List ad}{hdct:Bool}{sn:List Str}{sub:List ad}{ab:Bool}{col:Option Bool}{dd:Option aa}{k0 k1 k2 k3 k5:Option ad}{mZ:String}{base:ad}(X:K.In h)(hC:h.get? C=some (Di nm q C N bs bm hdct sn sub ab col dd k0 k1 k2 k3 k5 mZ))(m:cU K C base=some false):(Value.ref C :: bm).contains base=false:=by
 unfold cU at m;obtain⟨cd,e1,e2⟩:=Option.bind_eq_some_iff.mp m;unfold rY at e1
 cases hl:eW C K with
 | none=>rw[hl]at e1;cases e1
 | some o=>
  rw[hl]at e1;have:=X _ _ hl;rw[hC]at this
  cases this
  cases e1
  split at e2
  .cases e2
  .injection e2
def jcb(sp:Sp)(C C2:aa)(iy i:Nat)(t:TA)(ts lG:TS):TS:=fun D σ H=>t σ H fun vs H1=>sp (vs++[]) H1 (fun v H2=>D.nx (σ.set iy (some v)) H2) fun cls _ H2=>(cls=.ref C/\∀e,H2 e=none->ts (D.gone i) (σ.set i (some (.ref e))) (upd H2 e (yn (.ref C) e)))\/cls=.ref C2/\∀e,H2 e=none->lG (D.gone i) (σ.set i (some (.ref e))) (upd H2 e (yn (.ref C2) e))
theorem jc5{X:Cx}{k k':Nat}{x c c2 y n:Str}{ps:List Str}{sp:Sp}{C2:aa}{e:aj}{es:List aj}{t:TA}{ts lG:TS}{iy i:Nat}{p cp np yp ap hp xi pI pos:Pos}{b0 b2:aA}{oR oP:List aA}
  (F:FnX X.prog X.w X.K X.mg X.base k x ps sp) (cw:X.stack=X.env :: X.outer) (bH:X.env.frame=some X.env.locals) (hr:Room k' X.A) (ha:PA X.nox (e :: es) t) (hs:∀e,PSs (X.hush e) (b0 :: oR) ts) (dU:∀e,PSs (X.hush e) (b2 :: oP) lG)
  (hN:X.N.Nodup) (AU:X.N[iy]?=some y) (hy:Loc X.env.scope y) (hi:X.N[i]?=some n) (hn:X.env.scope.names.lookup n=some .local)
  (AY:Gl X c) (AK:X.mg c=some (.ref C)) (hx:dE X.K C valB "ValueError.__new__" = true) (AX:Gl X c2) (AJ:X.mg c2=some (.ref C2)) (pk:dE X.K C2 valB "ValueError.__new__" = true) (AL:cU X.K C2 (.ref C)=some false)
  (hk:k<=k':=by decide) (hg:Gl X x:=by rfl) (hf:X.fn y=true\/X.env.scope.names.lookup y=some .local:=by first | exact .inl rfl | exact .inr rfl | assumption)
  (hd:(x == ("__debug__" : Str))=false:=by decide) (A6:(c == ("__debug__" : Str))=false:=by decide) (A5:(c2 == ("__debug__" : Str))=false:=by decide) (dB:(e :: es).all qf=true:=by rfl) (lQ:iB (.Call (.Name x p) (e :: es) [] cp) (some (.Name y yp)) ap.line X.env=pure false:=by rfl) :
  PS X (.Try [.Assign [.Name y yp] (.Call (.Name x p) (e :: es) [] cp) ap] [.ExceptHandler (some (.Name c np)) (some n) (b0 :: oR) hp,.ExceptHandler (some (.Name c2 xi)) (some n) (b2 :: oP) pI] [] [] pos) (jcb sp C C2 iy i t ts lG):=by
 obtain⟨f,fd,G,b,kp,m⟩:=F.ex
 rw[g7,cm]at dB
 have he:=qM dB.1 es X.env
 have cy:=yR cp X.env es dB.2
 intro ac s σ H D I h
 refine wpAny_Try_except (GW ?_)
 refine P7 (rJ (zS I hg m ?_ hd)) lQ
 refine W.callWith_K (h₀:=X.base) I.ok.mod.kin kp (bi (ha cp ac s σ H _ (I.wish _) h) (fun us s1 ⟨vs,H1,I1,r,q⟩=>⟨I1.unwish.kIn,?_⟩) fun _ _ z=>z.elim) he cy
 replace I1:=I1.unwish
 refine bi (jfW G (hr.mono hk) b .nil I1 r q) (fun u s2 ⟨v,H2,I2,rv,q2⟩=>?_) fun ev s2 ML=>?_
 .refine qr I2 hN AU hy rv (fun s3 I3=>?_) hf
  exact rG (rG ⟨_,H2,I3,q2⟩)
 .obtain⟨ea,cls,H',rfl,os,bare,un,hok,Bu,hE⟩:=ML
  have I2:Inv X ac σ H' s2:=I1.call' os un hok bare (fun b z=>absurd z (by simp))
  have stk:=I2.stkFree
  rw[cw]at stk un
  have hbs:∀b o,X.base.get? b=some o->b ∉ frs (X.env :: X.outer)/\∃u,s1.heap.get? b=some u:=fun b o hb=>by
   refine⟨fun hm=>?_,⟨o,I1.bk b o hb⟩⟩;have hs:=I1.stack;rw[cw]at hs;have:∀{l:List Env},s1.heap.FunFrames X.base l->b∈frs l->False:=by
    intro l;induction l with
    | nil=>intro _ h;cases h
    | cons env l ih=>
     intro hf hm;obtain⟨_,⟨L,o',e1,e2,_,_⟩,hr⟩:=hf;unfold frs at hm;rw[cX,e1]at hm;rcases aN.mp hm with rfl | hm
     .rw[e2]at hb;cases hb
     .exact ih hr hm
   exact this hs hm
  have hH:∀{h2:au},Un (frs (X.env :: X.outer)) [] H1 H' s1.heap h2->HOk X.prog X.w H' h2->∀b,h2.get? b=none->H' b=none/\s1.heap.get? b=none:=fun {h2} u k b hb=>by
   refine⟨?_,?_⟩
   .rcases hh:H' b with _ | o
    .rfl
    .obtain⟨u,hu⟩:=(k b o hh).ex
     rw[hu]at hb;cases hb
   .rcases hh:s1.heap.get? b with _ | o
    .rfl
    .obtain⟨o',h5⟩:=u.there b o hh (by simp)
     rw[h5]at hb;cases hb
  have Gj:=I2.stack
  rw[cw]at Gj
  refine jdB (by rw[I2.ok.frames,cw]) Gj bH Bu stk (hH un hok) (fun h3 l3 Bt Gi=>?_) hbs
  have oK:=un.left (P:=X.prog) (w:=X.w) l3
  have pK:=hok.left stk l3
  have I3:Inv X ac σ H' { s2 with heap:=h3 }:=I1.call' os (by rw[cw];exact oK) pK bare (fun b z=>absurd z (by simp))
  refine PZ (QR (zS (I3.hush ea) AY AK ?_ A6)) (by intro q;cases q)
  obtain⟨bm,N,nm,qn,bs,hdct,sn,sub,ab,col,dd,k0,k1,k2,k3,k5,mN,o1,o2,o3,o4⟩:=yD I3.mod.kin hx
  have i0:bm.contains (.type "BaseException")=true:=Ih o4 sf.hasBase
  obtain⟨oe,ves,T,oT,tts,a0,t1,t2,t3,_⟩:=Bt.tr
  obtain⟨uk,N',EF,qn',Gz,FX,Ej,Ef,GF,Gw,dI,E6,E5,E4,E3,E2,mN',p1,p2,p3,p4⟩:=yD I3.mod.kin pk
  have Oj:uk.contains (.type "BaseException")=true:=Ih p4 sf.hasBase
  rcases hE with⟨rfl,hE⟩ | ⟨rfl,hE⟩
  .refine P0 (I3.bk _ _ o1) t1 t2 i0 (QU ?_)
   refine Yy Gi Bt stk (hH oK pK) (fun h4 l4 gp ON=>?_) hbs
   have wD:=(oK.left (P:=X.prog) (w:=X.w) l4).track (o:=yn (.ref C) ea) gp.he gp.ne
   have AG:=(pK.left stk l4).track gp.he (jcD gp)
   have I4:Inv X ac σ (upd H' ea (yn (.ref C) ea)) { s2 with heap:=h4 }:=I1.call' os (by rw[cw];exact wD) AG bare (fun b z=>absurd z (by simp))
   refine qr (v:=.ref ea) I4 hN hi (.inl hn) rfl (fun s5 I5=>?_) (.inr hn)
   refine bi (hs ea ac s5 _ _ (D.gone i) (I5.hush ea) (hE ea gp.he)) (fun fl s6 h6=>?_) fun _ _ z=>z.elim
   cases fl with
   | next=>
    obtain⟨σ',H6,I6,q6⟩:=h6
    exact zV (v:=.non) (I6.unhush I5.ok) hN hi hn fun s7 I7=>⟨_,H6,I7,q6⟩
   | brk=>
    obtain⟨σ',H6,I6,q6⟩:=h6
    exact zV (v:=.non) (I6.unhush I5.ok) hN hi hn fun s7 I7=>⟨_,H6,I7,q6⟩
   | cont=>
    obtain⟨σ',H6,I6,q6⟩:=h6
    exact zV (v:=.non) (I6.unhush I5.ok) hN hi hn fun s7 I7=>⟨_,H6,I7,q6⟩
   | ret u=>
    obtain⟨v,σ',H6,I6,r6,q6⟩:=h6
    exact zV (v:=.non) (I6.unhush I5.ok) hN hi hn fun s7 I7=>⟨v,_,H6,I7,r6,q6⟩
  .refine YH (I3.bk _ _ o1) (I3.bk _ _ p1) t1 t2 i0 (jgr I3.mod.kin p1 AL) ?_
   refine PZ (QR (zS (I3.hush ea) AX AJ ?_ A5)) (by intro q;cases q)
   refine P0 (I3.bk _ _ p1) t1 t2 Oj (QU ?_)
   refine Yy Gi Bt stk (hH oK pK) (fun h4 l4 gp ON=>?_) hbs
   have wD:=(oK.left (P:=X.prog) (w:=X.w) l4).track (o:=yn (.ref C2) ea) gp.he gp.ne
   have AG:=(pK.left stk l4).track gp.he (jcD gp)
   have I4:Inv X ac σ (upd H' ea (yn (.ref C2) ea)) { s2 with heap:=h4 }:=I1.call' os (by rw[cw];exact wD) AG bare (fun b z=>absurd z (by simp))
   refine qr (v:=.ref ea) I4 hN hi (.inl hn) rfl (fun s5 I5=>?_) (.inr hn)
   refine bi (dU ea ac s5 _ _ (D.gone i) (I5.hush ea) (hE ea gp.he)) (fun fl s6 h6=>?_) fun _ _ z=>z.elim
   cases fl with
   | next=>
    obtain⟨σ',H6,I6,q6⟩:=h6
    exact zV (v:=.non) (I6.unhush I5.ok) hN hi hn fun s7 I7=>⟨_,H6,I7,q6⟩
   | brk=>
    obtain⟨σ',H6,I6,q6⟩:=h6
    exact zV (v:=.non) (I6.unhush I5.ok) hN hi hn fun s7 I7=>⟨_,H6,I7,q6⟩
   | cont=>
    obtain⟨σ',H6,I6,q6⟩:=h6
    exact zV (v:=.non) (I6.unhush I5.ok) hN hi hn fun s7 I7=>⟨_,H6,I7,q6⟩
   | ret u=>
    obtain⟨v,σ',H6,I6,r6,q6⟩:=h6
    exact zV (v:=.non) (I6.unhush I5.ok) hN hi hn fun s7 I7=>⟨v,_,H6,I7,r6,q6⟩
theorem jbr{X:Cx}{k k':Nat}{x c c2 y n:Str}{ps:List Str}{sp:Sp}{C2:aa}{e:aj}{es:List aj}{t:TA}{ts lG:TS}{iy i:Nat}{p cp np yp ap hp xi pI pos:Pos}{b0 b2:aA}{oR oP:List aA}
  (F:FnX X.prog X.w X.K X.mg X.base k x ps sp) (cw:X.stack=X.env :: X.outer) (bH:X.env.frame=some X.env.locals) (hr:Room k' X.A) (ha:QA X.nox (e :: es) t) (hs:∀e,QSs (X.hush e) (b0 :: oR) ts) (dU:∀e,QSs (X.hush e) (b2 :: oP) lG)
  (hN:X.N.Nodup) (AU:X.N[iy]?=some y) (hy:Loc X.env.scope y) (hi:X.N[i]?=some n) (hn:X.env.scope.names.lookup n=some .local)
  (AY:Gl X c) (AK:X.mg c=some (.ref C)) (hx:dE X.K C valB "ValueError.__new__" = true) (AX:Gl X c2) (AJ:X.mg c2=some (.ref C2)) (pk:dE X.K C2 valB "ValueError.__new__" = true) (AL:cU X.K C2 (.ref C)=some false)
  (hk:k<=k':=by decide) (hg:Gl X x:=by rfl) (hf:X.fn y=true\/X.env.scope.names.lookup y=some .local:=by first | exact .inl rfl | exact .inr rfl | assumption)
  (hd:(x == ("__debug__" : Str))=false:=by decide) (A6:(c == ("__debug__" : Str))=false:=by decide) (A5:(c2 == ("__debug__" : Str))=false:=by decide) (dB:(e :: es).all qf=true:=by rfl) (lQ:iB (.Call (.Name x p) (e :: es) [] cp) (some (.Name y yp)) ap.line X.env=pure false:=by rfl) :
  QS X (.Try [.Assign [.Name y yp] (.Call (.Name x p) (e :: es) [] cp) ap] [.ExceptHandler (some (.Name c np)) (some n) (b0 :: oR) hp,.ExceptHandler (some (.Name c2 xi)) (some n) (b2 :: oP) pI] [] [] pos) (jcb sp C C2 iy i t ts lG):=
 ⟨jc5 F cw bH hr ha.h (fun e=>(hs e).h) (fun e=>(dU e).h) hN AU hy hi hn AY AK hx AX AJ pk AL hk hg hf hd A6 A5 dB lQ⟩
open PySem PySem.Spec PyProof PyProof.Rows PySem.W
end L2
namespace LW
open PySem L2
abbrev jcj:aA:=top 104
abbrev jek:aA:=top 105
abbrev Yl:aA:=top 106
abbrev Z0:aA:=top 107
abbrev jfV:aA:=top 108
theorem jfv{ns:List Int}{k:Int}(h0:0<=k)(h:k < (ns.length:Int)):atI (ns.map V.int) k=some (.int (ns.getD k.toNat 0)):=by
 have hk:k.toNat < ns.length:=by omega
 have:=jH (xs:=ns.map V.int) (j:=k.toNat) (v:=.int (ns.getD k.toNat 0)) (by rw[bU,sI,aI hk];rfl);rw[show ((k.toNat:Nat):Int)=k by omega]at this;exact this
def jeh(K:av):Sp:=fun vs H Q _=>∃(a:aa) (ns:List Int) (k:Int),vs=[.ref a,.int k]/\SqL K H a (ns.map V.int)/\0<=k/\k<=1000/\∀c:Int,Q (.int c) H
inductive spIfsL(vs:List V)(H:Hp)(Q:VK)(E:XK):Prop
 | mk (p:LP) (_:vs=[.int p.many,.int p.c]) (_:∀v H',Same H H'->Held H' (pcK p .ifs).toD v->Q v H')
inductive spReadsL(vs:List V)(H:Hp)(Q:VK)(E:XK):Prop
 | mk (p:LP) (_:vs=[.int p.across,.int p.c,.int (p.a.val:Nat)]) (_:∀v H',Same H H'->Held H' (pcK p .reads).toD v->Q v H')
variable {K:av}
theorem zh{X:Cx}(hK:X.K=K:=by rfl):qX X (.builtin "isinstance") (fun xs H Q=>∃a C D b,xs=[.ref a,.ref D]/\H a=some (yn (.ref C) a)/\PySem.W.XCls K C/\dD K (.ref C) (.ref D)=some b/\Q (.bl b) H):=by
 subst hK;exact jak
variable {f:aa}{fd:aD}
section
variable {P:az}{w:ax}{mg:Str->Option ad}{base:au}
theorem jgk(F:Fun K "_law_cell" "_law_cell" jcj f fd)(B:Free0 mg):FnOk P w K mg base CX0 1 f fd ["_law_script","_law_k"] (jeh K):=by
 have sc:FnScope ["_law_script","_law_k","_law_number"] ["_law_script","_law_k"] (ji jcj):=fQ;refine F.okZ sc (fun ay A outer s H vs Q E hr h=>?_);obtain⟨a,ns,k,rfl,hS,h0,h1,q⟩:=h;have hl:(ns.map V.int).length=ns.length:=aC _;refine⟨_,(ja (jQ (jw jeI (zpv 1) (qa ko (by rfl) B.len_ yJ (jd (zpv 0) jc)) (jF _)) (jf (jr (jz qx (zpv 0) (zpv 1) (fun _ _=>rfl)))) jC)
   (ja (jt (i:=2) sc.nd rfl oQ (jG yz (jG Jw (zpv 1) jl) jl))
   (ja (yL (jQ (jw Yq (qa ko (by rfl) B.len_ yJ (jd (zpv 0) jc)) jl (jF _)) (jf (jt (i:=2) sc.nd rfl oQ (jG yb (jG yz (jG Jw (jz qx (zpv 0) (jG yb (jG Jw (zpv 1) jl) (qa ko (by rfl) B.len_ yJ (jd (zpv 0) jc))) (fun _ _=>rfl)) jl) (jG Jw (zpv 1) jl)) jl))) jC))
   (ja (jt (i:=2) sc.nd rfl oQ (jG yz (jG yb (jG Jw (zpv 2) (zpv 2)) jl) jl))
   (jf (jr (jG yb (jG Jw (zpv 2) (zpv 2)) jl))))))),?_⟩
 try dsimp only[j5]
 refine YD ?_;intro _ _ _ _;refine jV (σ':=[some (.ref a),some (.int k),none]) rfl ?_;refine⟨_,rfl,_,rfl,a,_,rfl,.inl hS,_,_,rfl,rfl,_,rfl,jZ (fun c=>?_) (fun c=>?_)⟩
 .have c':k < (ns.length:Int):=by
   have:=Tq c;rw[hl]at this;exact this
  exact⟨_,rfl,_,rfl,a,_,_,_,rfl,rfl,hS,jfv h0 c',q _⟩
 .refine⟨_,rfl,_,_,rfl,rfl,.inr ⟨by decide,by decide⟩,_,_,rfl,rfl,?_⟩
  refine gQ ?_;refine⟨fun σ' G=>∃z:Int,σ'=[some (.ref a),some (.int k),some (.int z)]/\G=H/\0<=z/\z < 2147483647,?_,?_⟩
  .refine⟨_,rfl,a,_,rfl,.inl hS,_,_,rfl,rfl,_,rfl,jZ (fun d=>?_) (fun d=>?_)⟩
   .have d':0 < ns.length:=by
     have:=Tq d;rw[hl]at this;omega
    have NH:0<=k * 7 % (ns.length:Int):=mP _ (by omega);have AM:k * 7 % (ns.length:Int) < (ns.length:Int):=mQ _ (by omega);have nz:atI (ns.map V.int) (k * 7 % (((ns.map V.int).length:Nat):Int))=some (.int (ns.getD (k * 7 % (ns.length:Int)).toNat 0)):=by
     rw[hl];exact jfv NH AM
    refine⟨_,rfl,_,rfl,_,_,rfl,rfl,.inr ⟨by decide,by decide⟩,_,rfl,a,_,rfl,.inl hS,_,_,rfl,rfl,(by rw[hl];omega),a,_,_,_,rfl,rfl,hS,nz,_,_,rfl,rfl,.inr ⟨by decide,by decide⟩,_,rfl,_,_,rfl,rfl,.inr ⟨by decide,by decide⟩,_,_,rfl,rfl,_,_,rfl,rfl,(by show (0:Int) < 2147483647;decide),?_⟩;exact⟨_,rfl,rfl,mP _ (by decide),mQ _ (by decide)⟩
   .exact⟨_,rfl,rfl,by omega,by omega⟩
  .rintro σ' G ⟨z,rfl,rfl,z0,z1⟩
   refine⟨_,rfl,_,rfl,_,_,rfl,rfl,.inl ⟨by omega,by omega⟩,_,_,rfl,rfl,(by show (0:Int) < 2147483629;decide),_,_,rfl,rfl,?_⟩;refine gQ ?_;have y0:=mP (z * z) (b:=2147483629) (by decide);have y1:=mQ (z * z) (b:=2147483629) (by decide);exact⟨_,rfl,_,rfl,_,_,rfl,rfl,.inl ⟨by omega,by omega⟩,_,_,rfl,rfl,(by show (0:Int) < 2147483587;decide),q _⟩
theorem jhg(F:Fun K "_law_ifs" "_law_ifs" jek f fd)(B:Free0 mg):FnOk P w K mg base CX0 1 f fd ["_law_many","_law_c"] spIfsL:=by
 have sc:FnScope ["_law_many","_law_c","_law_least","_law_body"] ["_law_many","_law_c"] (ji jek):=fQ;refine F.okZ sc (fun ay A outer s H vs Q E hr h=>?_);obtain⟨p,rfl,q⟩:=h;refine⟨_,(ja (jt (i:=2) sc.nd rfl oQ (zpd (jU (jq jY (jq (jU (jq jY (jq jY jP))) (jq (jU (jq jY (jq jY jP))) (jq (ya 1) jP)))))))
   (ja (kZ (i:=3) sc.nd rfl oQ ["_law_k"] [1,2] rfl (j9 (sc:=ji jek) (N:=["_law_many","_law_c","_law_least","_law_body"]) rfl rfl (by decide +kernel)) (yo (by rfl) B.range_ (jd (zpv 0) jc)) (fun s H ex=>⟨(jj (i:=0) (show bg (["_law_k","_law_c","_law_least"]:List Str) by decide +kernel) rfl oQ),kf,(jM (jd jy (jd (zpv 2) (jd (jM (jd (jM (jd jy (jd jy (jd (jM (jd jy (jd jy jc))) (jd (zpv 1) jc))))) jc)) (jd (jM jc) jc)))))⟩))
   (jf (jr (jM (jd jy (jd jy (jd (zpd (jU (jq jY jP))) (jd (zpd (jU jP)) (jd (zpd (jU jP)) (jd (zpd (jU jP)) (jd (yO yc (by rfl) B.tuple_ YS (jd (zpv 3) jc)) jc)))))))))))),?_⟩
 refine qN ?_
 try dsimp only[j5]
 refine zI ?_;intro _ _;refine⟨(Cl.least (.is "x") (.is "") p.c).toD,⟨_,rfl,aw rfl,_,_,rfl,rfl,_,_,rfl,⟨_,rfl,aw rfl,_,_,rfl,rfl,_,_,rfl,rfl,rfl⟩,_,_,rfl,⟨_,rfl,aw rfl,_,_,rfl,rfl,_,_,rfl,rfl,rfl⟩,_,_,rfl,⟨_,rfl,zm⟩,rfl⟩,fun vl H1 s1 hl=>?_⟩;refine gQ ?_;have hm:p.many<=5:=by unfold LP.many;split <;> decide
 refine⟨_,rfl,_,rfl,by omega,by omega,fun pb pH=>?_⟩;have sb:=je pH (.lst []);rw[show ((p.many:Nat):Int).toNat=p.many by omega];refine yF (fun i σ' G=>∃u us,σ'=[u,some (.int p.c),some vl]/\Same H1 G/\G pb=some (.lst us)/\HeldL G ((DT i (ifS p.c)).map (stD 2)) us/\us.length=i) ⟨none,[],rfl,sb,jb,jx,rfl⟩ ?_ ?_
 .rintro i σ' G hi ⟨u,us,rfl,sG,hG,cf,cv⟩
  unfold kO Jo;refine kY ?_;refine⟨_,rfl,sm rfl,fun t1 h1=>⟨_,rfl,sm rfl,fun t2 h2=>⟨sm rfl,fun t3 h3=>⟨sm rfl,fun t4 h4=>⟨sm rfl,fun t5 h5=>?_⟩⟩⟩⟩⟩;have z1:=je h1 (.tup [.str "is",.str "x"]);have e1:upd G t1 (.tup [.str "is",.str "x"]) t1=some (.tup [.str "is",.str "x"]):=jb;generalize upd G t1 (.tup [.str "is",.str "x"])=G1 at *;have z2:=je h2 (.tup [.str "set",.str "y",.ref t1,.int p.c]);have e2:upd G1 t2 (.tup [.str "set",.str "y",.ref t1,.int p.c]) t2=some (.tup [.str "set",.str "y",.ref t1,.int p.c]):=jb;have hd:Held (upd G1 t2 (.tup [.str "set",.str "y",.ref t1,.int p.c])) (Sm.set "y" (.is "x") p.c).toD (.ref t2):=kc e2 (jo j4 (jo j4 (jo (kc (z2 _ _ e1) (jo j4 (jo j4 jx))) (jo zm jx))));generalize upd G1 t2 (.tup [.str "set",.str "y",.ref t1,.int p.c])=G2 at *;have z3:=je h3 (.tup [.ref t2]);have hx:Held (upd G2 t3 (.tup [.ref t2])) (.tup [(Sm.set "y" (.is "x") p.c).toD]) (.ref t3):=kc jb (jo (hd.mono z3) jx);generalize upd G2 t3 (.tup [.ref t2])=G3 at *;have z4:=je h4 (.tup []);have hy:Held (upd G3 t4 (.tup [])) (.tup []) (.ref t4):=kc jb jx;have MJ:=hx.mono z4;generalize upd G3 t4 (.tup [])=G4 at *;have z5:=je h5 (.tup [.str "if",vl,.ref t3,.ref t4]);have z:=(z1.trans z2).trans (z3.trans (z4.trans z5));have N3:Held (upd G4 t5 (.tup [.str "if",vl,.ref t3,.ref t4])) (stD 2 (ifS p.c)) (.ref t5):=kc jb (jo j4 (jo (hl.mono (sG.trans z)) (jo (MJ.mono z5) (jo (hy.mono z5) jx))));generalize upd G4 t5 (.tup [.str "if",vl,.ref t3,.ref t4])=G5 at *;have i5:=z _ _ hG;have kt:TK G5 (upd G5 pb (.lst (us++[.ref t5]))):=fun b ws eb=>jk (jN eb i5 (by intro z;cases z)) eb
  refine⟨us,i5,jS (by omega),_,_,rfl,fun b o e=>jk (jh e pH) (z _ _ (sG _ _ e)),jb,?_,by rw[aO,cv];rfl⟩;rw[SM,bh];exact j0 (kt.heldL (cf.mono z)) (jo (kt.held N3) jx)
 rintro σ' G ⟨u,us,rfl,sG,hG,cf,cv⟩;refine gQ ?_;have s2:=s1.trans sG;refine⟨.tup [.str "x"],⟨_,rfl,aw rfl,_,_,rfl,rfl,rfl⟩,fun v1 G1 z1 h1=>⟨.tup [],⟨_,rfl,aw rfl,rfl⟩,fun v2 G2 z2 h2=>⟨.tup [],⟨_,rfl,aw rfl,rfl⟩,fun v3 G3 z3 h3=>⟨.tup [],⟨_,rfl,aw rfl,rfl⟩,fun v4 G4 z4 h4=>⟨_,rfl,?_⟩⟩⟩⟩⟩;have z:=(z1.trans z2).trans (z3.trans z4);refine⟨pb,us,rfl,.inl ⟨SqL.of (z _ _ hG),fun lb nk=>⟨sm rfl,fun pp dB=>?_⟩⟩⟩;have z5:=je nk (.tup us);have hb:Held (upd G4 lb (.tup us)) (.tup ((bdK p .ifs).map (stD 2))) (.ref lb):=kc jb (cf.mono (z.trans z5));generalize upd G4 lb (.tup us)=G5 at *;have z6:=je dB (.tup [.str "proc",.str "ifs",v1,v2,v3,v4,.ref lb]);refine q (.ref pp) _ (s2.trans (z.trans (z5.trans z6))) (kc jb (jo j4 (jo j4 (jo (h1.mono (z2.trans (z3.trans (z4.trans (z5.trans z6))))) (jo (h2.mono (z3.trans (z4.trans (z5.trans z6)))) (jo (h3.mono (z4.trans (z5.trans z6))) (jo (h4.mono (z5.trans z6)) (jo (hb.mono z6) jx))))))))
theorem jeP(F:Fun K "_law_reads" "_law_reads" Yl f fd)(B:Free0 mg):FnOk P w K mg base CX0 1 f fd ["_law_many","_law_c","_law_at"] spReadsL:=by
 have sc:FnScope ["_law_many","_law_c","_law_at","_law_reads_here","_law_true","_law_untrue","_law_body"] ["_law_many","_law_c","_law_at"] (ji Yl):=fQ;refine F.okZ sc (fun ay A outer s H vs Q E hr h=>?_);obtain⟨p,rfl,q⟩:=h;refine⟨_,(ja (kZ (i:=3) sc.nd rfl oQ ["_law_k"] [] rfl (j9 (sc:=ji Yl) (N:=["_law_many","_law_c","_law_at","_law_reads_here","_law_true","_law_untrue","_law_body"]) rfl rfl (by decide +kernel)) (yo (by rfl) B.range_ (jd (zpv 0) jc)) (fun s H ex=>⟨(jj (i:=0) (show bg (["_law_k"]:List Str) by decide +kernel) rfl oQ),kf,(jM (jd jy (jd jy (jd (jM (jd jy (jd jy (jd (jM (jd jy (jd (zpv 0) jc))) jc)))) (jd jl jc)))))⟩))
   (ja (jt (i:=4) sc.nd rfl oQ (zpd (jU (jq jY (jq (jU (jq jY (jq (jU (jq jY (jq jY jP))) (jq (jU (jq jY (jq jY jP))) (jq Kn jP))))) jP)))))
   (ja (jt (i:=5) sc.nd rfl oQ (zpd (jU (jq jY (jq (jU (jq jY (jq (jU (jq jY (jq jY jP))) (jq (jU (jq jY (jq jY jP))) (jq (ya 1) jP))))) jP)))))
   (ja (jt (i:=6) sc.nd rfl oQ (jG kW (zpv 3) (jK (jd (zpv 4) jc))))
   (ja (yL (jQ (jw ka (zpv 2) jl (jF _)) (jf (jt (i:=6) sc.nd rfl oQ (jG kW (jK (jd (zpv 5) jc)) (zpv 6)))) jC))
   (ja (yL (jQ (jw ka (zpv 2) jl (jF _)) (jf (jt (i:=6) sc.nd rfl oQ (jG kW (zpv 6) (jK (jd (zpv 5) jc))))) jC))
   (jf (jr (jM (jd jy (jd jy (jd (zpd (jU (jq jY jP))) (jd (zpd (jU (jq jY jP))) (jd (zpd (jU jP)) (jd (zpd (jU jP)) (jd (yO yc (by rfl) B.tuple_ YS (jd (zpv 6) jc)) jc)))))))))))))))),?_⟩
 refine qN ?_
 try dsimp only[j5]
 refine jfc ?_;intro _ _ _ _ _ _;have hn:p.across<=6:=by unfold LP.across;split <;> decide
 refine⟨_,rfl,_,rfl,by omega,by omega,fun pb pH=>?_⟩;have sb:=je pH (.lst []);rw[show ((p.across:Nat):Int).toNat=p.across by omega];refine yF (fun i σ' G=>∃u us,σ'=[u]/\Same H G/\G pb=some (.lst us)/\HeldL G (((bL i).map jeo).map (stD 2)) us/\us.length=i) ⟨none,[],rfl,sb,jb,jx,rfl⟩ ?_ ?_
 .rintro i σ' G hi ⟨u,us,rfl,sG,hG,cf,cv⟩
  unfold kO Jo;refine kY ?_;refine⟨_,rfl,sm rfl,fun t1 h1=>⟨sm rfl,fun t2 h2=>⟨sm rfl,fun t3 h3=>?_⟩⟩⟩;have z1:=je h1 (.tup [.str "x",.int (0+(i:Int))]);have e1:upd G t1 (.tup [.str "x",.int (0+(i:Int))]) t1=some (.tup [.str "x",.int (0+(i:Int))]):=jb;generalize upd G t1 (.tup [.str "x",.int (0+(i:Int))])=G1 at *;have z2:=je h2 (.tup [.str "at",.str "r",.ref t1]);have e2:upd G1 t2 (.tup [.str "at",.str "r",.ref t1]) t2=some (.tup [.str "at",.str "r",.ref t1]):=jb;have ug:=z2 _ _ e1;generalize upd G1 t2 (.tup [.str "at",.str "r",.ref t1])=G2 at *;have z3:=je h3 (.tup [.str "set",.str "y",.ref t2,.int 0]);have z:=z1.trans (z2.trans z3);rw[Tf]at ug;have hd:Held (upd G2 t3 (.tup [.str "set",.str "y",.ref t2,.int 0])) (stD 2 (jeo i)) (.ref t3):=kc jb (jo j4 (jo j4 (jo (kc (z3 _ _ e2) (jo j4 (jo j4 (jo (kc (z3 _ _ ug) (jo j4 (jo zm jx))) jx)))) (jo zm jx))));generalize upd G2 t3 (.tup [.str "set",.str "y",.ref t2,.int 0])=G5 at *;have i5:=z _ _ hG;have kt:TK G5 (upd G5 pb (.lst (us++[.ref t3]))):=fun b ws eb=>jk (jN eb i5 (by intro z;cases z)) eb
  refine⟨us,i5,jS (by omega),_,_,rfl,fun b o e=>jk (jh e pH) (z _ _ (sG _ _ e)),jb,?_,by rw[aO,cv];rfl⟩;rw[Ld,bh,bh];exact j0 (kt.heldL (cf.mono z)) (jo (kt.held hd) jx)
 rintro σ' G ⟨u,us,rfl,sG,hG,cf,cv⟩;refine gQ ?_;refine⟨(Sm.claim yy0).toD,⟨_,rfl,aw rfl,_,_,rfl,rfl,_,_,rfl,⟨_,rfl,aw rfl,_,_,rfl,rfl,_,_,rfl,⟨_,rfl,aw rfl,_,_,rfl,rfl,_,_,rfl,rfl,rfl⟩,_,_,rfl,⟨_,rfl,aw rfl,_,_,rfl,rfl,_,_,rfl,rfl,rfl⟩,_,_,rfl,rfl,rfl⟩,rfl⟩,fun vt G1 z1 ht=>?_⟩;refine gQ ?_;refine⟨(Sm.claim (xC p.c)).toD,⟨_,rfl,aw rfl,_,_,rfl,rfl,_,_,rfl,⟨_,rfl,aw rfl,_,_,rfl,rfl,_,_,rfl,⟨_,rfl,aw rfl,_,_,rfl,rfl,_,_,rfl,rfl,rfl⟩,_,_,rfl,⟨_,rfl,aw rfl,_,_,rfl,rfl,_,_,rfl,rfl,rfl⟩,_,_,rfl,⟨_,rfl,zm⟩,rfl⟩,rfl⟩,fun vu G2 z2 hu=>?_⟩;refine gQ ?_;have bS:=z2 _ _ (z1 _ _ hG);refine⟨_,rfl,_,rfl,sm rfl,fun l1 fi=>?_⟩;have z3:=je fi (.lst [vt]);have e3:upd G2 l1 (.lst [vt]) l1=some (.lst [vt]):=jb;have h_:=(ht.mono z2).mono z3;have lO:=hu.mono z3;have Fb:=cf.mono (z1.trans (z2.trans z3));have gP:=z3 _ _ bS;have s3:=sG.trans (z1.trans (z2.trans z3));generalize upd G2 l1 (.lst [vt])=G3 at *;refine⟨pb,l1,us,[vt],rfl,rfl,gP,e3,km (by show us.length+1<=1000;omega),fun l2 dq=>?_⟩;have z4:=je dq (.lst (us++[vt]));have e4:upd G3 l2 (.lst (us++[vt])) l2=some (.lst (us++[vt])):=jb;have F0:HeldL (upd G3 l2 (.lst (us++[vt]))) ((bdR p.six++[lf (.claim yy0)]).map (stD 2)) (us++[vt]):=by
  rw[bh];exact (j0 Fb (jo h_ jx)).mono z4
 have s4:=s3.trans z4;have Au:=lO.mono z4;generalize upd G3 l2 (.lst (us++[vt]))=G4 at *;have pO:(us++[vt]).length<=7:=by rw[aO,cv];show p.across+1<=7;omega
 generalize us++[vt]=vs at *;clear cf Fb hG bS gP fi dq e3 ht h_;refine gQ ?_;let BM:List (StN 2):=(if p.a=1 then [lf (.claim (xC p.c))] else [])++(bdR p.six++[lf (.claim yy0)]);refine⟨fun σ' G=>∃l ws,σ'=[some (.int p.across),some (.int p.c),some (.int (p.a.val:Nat)),some (.ref pb),some vt,some vu,some (.ref l)]/\Same H G/\G l=some (.lst ws)/\HeldL G (BM.map (stD 2)) ws/\ws.length<=8/\Held G (Sm.claim (xC p.c)).toD vu,?_,?_⟩
 .refine⟨_,rfl,rfl,_,rfl,jZ (fun d=>?_) (fun d=>?_)⟩
  .have h1:p.a=1:=by have:=Tq d;injection this with this;exact D0 (by show p.a.val=1;omega)
   refine⟨_,rfl,sm rfl,fun l3 cg=>⟨_,rfl,?_⟩⟩;have z5:=je cg (.lst [vu]);refine⟨l3,l2,[vu],vs,rfl,rfl,jb,z5 _ _ e4,km (by show 1+vs.length<=1000;omega),fun l5 AT=>?_⟩;have z6:=je AT (.lst ([vu]++vs));refine⟨l5,_,rfl,s4.trans (z5.trans z6),jb,?_,by show vs.length+1<=8;omega,Au.mono (z5.trans z6)⟩;show HeldL _ (((if p.a=1 then [lf (.claim (xC p.c))] else [])++(bdR p.six++[lf (.claim yy0)])).map (stD 2)) _;rw[Tu h1,bh];exact j0 (jo (Au.mono (z5.trans z6)) jx) (F0.mono (z5.trans z6))
  .have h1:¬p.a=1:=fun z=>d (Tr (by rw[z];rfl))
   refine⟨l2,vs,rfl,s4,e4,?_,by omega,Au⟩;show HeldL _ (((if p.a=1 then [lf (.claim (xC p.c))] else [])++(bdR p.six++[lf (.claim yy0)])).map (stD 2)) _;rw[Tt h1];exact F0
 rintro σ' G ⟨l,ws,rfl,s5,e5,FZ,AT,M3⟩;refine⟨fun σ' G=>∃l ws,σ'=[some (.int p.across),some (.int p.c),some (.int (p.a.val:Nat)),some (.ref pb),some vt,some vu,some (.ref l)]/\Same H G/\G l=some (.lst ws)/\HeldL G ((bdK p .reads).map (stD 2)) ws,?_,?_⟩
 .refine⟨_,rfl,rfl,_,rfl,jZ (fun d=>?_) (fun d=>?_)⟩
  .have h1:p.a=2:=by have:=Tq d;injection this with this;exact D0 (by show p.a.val=2;omega)
   refine⟨_,rfl,_,rfl,sm rfl,fun l3 cg=>?_⟩;have z5:=je cg (.lst [vu]);refine⟨l,l3,ws,[vu],rfl,rfl,z5 _ _ e5,jb,km (by show ws.length+1<=1000;omega),fun l6 AS=>?_⟩;have z6:=je AS (.lst (ws++[vu]));refine⟨l6,_,rfl,s5.trans (z5.trans z6),jb,?_⟩;show HeldL _ ((BM++(if p.a=2 then [lf (.claim (xC p.c))] else [])).map (stD 2)) _;rw[Tu h1,bh];exact j0 (FZ.mono (z5.trans z6)) (jo (M3.mono (z5.trans z6)) jx)
  .have h1:¬p.a=2:=fun z=>d (Tr (by rw[z];rfl))
   refine⟨l,ws,rfl,s5,e5,?_⟩;show HeldL _ ((BM++(if p.a=2 then [lf (.claim (xC p.c))] else [])).map (stD 2)) _;rw[Tt h1,dl];exact FZ
 rintro σ' G ⟨l,ws,rfl,s6,e6,On⟩;refine⟨.tup [.str "x"],⟨_,rfl,aw rfl,_,_,rfl,rfl,rfl⟩,fun v1 G1 z1 h1=>⟨.tup [.str "r"],⟨_,rfl,aw rfl,_,_,rfl,rfl,rfl⟩,fun v2 G2 z2 h2=>⟨.tup [],⟨_,rfl,aw rfl,rfl⟩,fun v3 G3 z3 h3=>⟨.tup [],⟨_,rfl,aw rfl,rfl⟩,fun v4 G4 z4 h4=>⟨_,rfl,?_⟩⟩⟩⟩⟩;have z:=(z1.trans z2).trans (z3.trans z4);refine⟨l,ws,rfl,.inl ⟨SqL.of (z _ _ e6),fun lb nk=>⟨sm rfl,fun pp dB=>?_⟩⟩⟩;have z5:=je nk (.tup ws);have hb:Held (upd G4 lb (.tup ws)) (.tup ((bdK p .reads).map (stD 2))) (.ref lb):=kc jb (On.mono (z.trans z5));generalize upd G4 lb (.tup ws)=G5 at *;have z6:=je dB (.tup [.str "proc",.str "reads",v1,v2,v3,v4,.ref lb]);exact q (.ref pp) _ (s6.trans (z.trans (z5.trans z6))) (kc jb (jo j4 (jo j4 (jo (h1.mono (z2.trans (z3.trans (z4.trans (z5.trans z6))))) (jo (h2.mono (z3.trans (z4.trans (z5.trans z6)))) (jo (h3.mono (z4.trans (z5.trans z6))) (jo (h4.mono (z5.trans z6)) (jo (hb.mono z6) jx))))))))
end
inductive spDueL(vs:List V)(H:Hp)(Q:VK)(E:XK):Prop
 | mk (p:LP) (a:aa) (us:List V) (ks:List Kd) (_:vs=[.ref a,.int p.many,.int p.across,.int (p.a.val:Nat)]) (_:H a=some (.lst us)) (_:HeldL H ((ks.map (pcK p)).map Pc.toD) us) (_:ks≠[]) (_:Q (Kx p ks 0) H)
structure KsOk(ks:List Kd):Prop where
 nd:(ks.map fK).Nodup
 l:ks.length<=3
 pl:.plain∈ks
 i:.ifs∈ks
def jdK(p:LP)(ks:List Kd):Jd:=jud 0 ((ks.flatMap (dsK p)).map vdD)
theorem jee{α:Type}(g:α->Nat){m:Nat}(h:∀x,g x<=m):∀l:List α,(l.map g).sum<=m * l.length
 | []=>bA _
 | x :: l=>by
  have h1:=h x;have h2:=jee g h l;rw[bE,DR,bo,Nat.mul_add,Nat.mul_one];omega
theorem jhr{CT CX o1 a:aa}{p:LP}{ks:List Kd}{us:List V}{H:Hp}{Q:VK}{E:XK}(ok:KsOk ks)(ha:H a=some (.tup us))(cf:HeldL H ((ks.map (pcK p)).map Pc.toD) us)(ho:Held H zl (.ref o1))(q1:p.five=true->∀H',Same H H'->E (.ref CT) none H')(q2:p.five=false->jdK p ks=.wide->∀H',Same H H'->E (.ref CX) none H')(q3:p.five=false->∀m,jdK p ks=.broken m->∀t v H',Same H H'->H' t=some (.tup [.str "broken",.int m,v])->Q (.ref t) H'):spJudged CT CX o1 2 [.ref a] H Q E:=by
 have five:∀ds,qK (prK p) jbN (ks.map (pcK p))=some ds->p.five=false/\ds=ks.flatMap (dsK p):=fun ds e=>by
  cases h:p.five with
  | true=>rw[jbg h _ ks ok.i]at e;cases e
  | false=>rw[YK h]at e;exact⟨rfl,(bZ e).symm⟩
 have many:qK (prK p) jbN (ks.map (pcK p))=none->p.five=true:=fun e=>by
  cases h:p.five with
  | true=>rfl
  | false=>rw[YK h]at e;cases e
 refine⟨a,us,ks.map (pcK p),prK p,jbN,vdD,rfl,ha,cf,by rw[aC];have:=ok.l;omega,by rw[sH];exact ok.nd,fun x hx=>?_,?_,ho,fun ds e d hd=>?_,fun e=>q1 (many e),fun ds e hj=>?_,fun ds k e hj=>?_,fun ds e hj=>?_⟩
 .obtain⟨k,_,rfl⟩:=ck.mp hx
  exact⟨rfl,jh9 p k,(jeE _ _ p k).1,by rw[jbM];exact jf1 p k⟩
 .rw[sH]
  have:=jee (Pc.most ∘ pcK p) (m:=40) (fun k=>(jeE [] (fun _=>pcK p k) p k).2) ks;have:=ok.l;omega
 .obtain⟨_,rfl⟩:=five ds e
  obtain⟨k,_,hk⟩:=SQ.mp hd;exact jit p k d hk
 .obtain⟨h,rfl⟩:=five ds e
  exact q2 h hj
 .obtain⟨h,rfl⟩:=five ds e
  exact q3 h k hj
 .obtain⟨h,rfl⟩:=five ds e
  rcases JZ h ks 0 with⟨h1,_⟩ | ⟨m,h1,_⟩ | h1
  .rw[h1]at hj;cases hj
  .rw[h1]at hj;cases hj
  .exact absurd ok.pl h1
inductive spSaidL(o1:aa)(vs:List V)(H:Hp)(Q:VK)(E:XK):Prop
 | mk (p:LP) (a:aa) (us:List V) (ks:List Kd) (_:vs=[.ref a]) (_:H a=some (.tup us)) (_:HeldL H ((ks.map (pcK p)).map Pc.toD) us) (_:KsOk ks) (_:Held H zl (.ref o1)) (_:p.five=true->∀t H',Same H H'->H' t=some (.tup [.str "many",.bl true])->Q (.ref t) H') (_:p.five=false->jdK p ks=.wide->∀t H',Same H H'->H' t=some (.tup [.str "wide",.bl true])->Q (.ref t) H') (_:p.five=false->∀m,jdK p ks=.broken m->∀t v H',Same H H'->H' t=some (.tup [.str "broken",.int m,v])->Q (.ref t) H')
section
variable {P:az}{w:ax}{mg:Str->Option ad}{base:au}{CT CX CO CN o1:aa}
theorem Kw(p:LP)(k:Kd)(r:List Kd)(n:Nat):Kx p (k :: r) n=if p.five then .str "many" else match k with
  | .plain=>.int n
  | .ifs=>Kx p r n
  | .reads=>if p.a=1 then .int n else if p.six then .str "wide" else if p.a=2 then .int (n+1:Nat) else Kx p r (n+1):=rfl
theorem jhi(F:Fun K "_law_due" "_law_due" jfV f fd):FnOk P w K mg base CX0 1 f fd ["_law_program","_law_many","_law_across","_law_at"] spDueL:=by
 have sc:FnScope ["_law_program","_law_many","_law_across","_law_at","_law_n","_law_proc"] ["_law_program","_law_many","_law_across","_law_at"] (ji jfV):=fQ;refine F.okZ sc (fun ay A outer s H vs Q E hr h=>?_);obtain⟨p,a,us,ks,rfl,ha,cf,aW,q⟩:=h;refine⟨_,(ja (jt (i:=4) sc.nd rfl oQ jl)
   (ja (jW cb rfl (jR (zpv 0)) (jj (i:=5) sc.nd rfl oQ) (ja (jQ (jw Yq (zpv 1) jl (jF _)) (jf (jr jy)) jC)
   (ja (jQ (jbq (jw ka (jz jE (zpv 5) jl (fun _ _=>rfl)) jy (jF _)) (ZM (ZN (jw ka (jz jE (zpv 5) jl (fun _ _=>rfl)) jy (jF _)) (K8 (jw ka (zpv 3) jl (jF _)))).pt)).pt (jf (jr (zpv 4))) jC)
   (jf (jQ (jw ka (jz jE (zpv 5) jl (fun _ _=>rfl)) jy (jF _)) (ja (jQ (jw Yq (zpv 2) jl (jF _)) (jf (jr jy)) jC)
   (ja (jt (i:=4) sc.nd rfl oQ (jG yz (zpv 4) jl))
   (jf (jQ (jw ka (zpv 3) jl (jF _)) (jf (jr (zpv 4))) jC)))) jC)))))
   (jf (jr (zpv 4))))),?_⟩
 refine qN ?_
 try dsimp only[j5]
 refine zI ?_;intro _ _;refine gQ ?_;have hl:=cf.length;rw[aC,aC]at hl;refine⟨_,rfl,a,rfl,⟨_,SqL.of ha⟩,?_⟩;refine kn (xs:=us) (fun i σ G=>∃(u:Option V) (n:Nat),σ=[some (.ref a),some (.int p.many),some (.int p.across),some (.int (p.a.val:Nat)),some (.int n),u]/\G=H/\Kx p ks 0=Kx p (ks.drop i) n) ⟨none,0,rfl,rfl,rfl⟩ ?_ ?_ ?_
 .rintro i σ G _ ⟨u,n,rfl,rfl,_⟩
  exact SqL.of ha
 .rintro i x σ G hx ⟨u,n,rfl,rfl,cA⟩
  have hi:i < ks.length:=by rw[hl];exact (aY.mp hx).1
  have m9:Held G (pcK p ks[i]).toD x:=zn cf (by rw[bU,bU,aI hi];rfl) hx;obtain⟨t,ap,ar,an,ag,ab,vn,vg,vb,rfl,ht,_⟩:=Yo m9;rw[List.drop_eq_getElem_cons hi]at cA;generalize ks[i]=k at *;have ht:G t=some (.tup [.str "proc",.str (fK k),.ref ap,.ref ar,.ref an,.ref ag,.ref ab]):=ht;refine⟨_,rfl,_,_,rfl,rfl,_,rfl,jZ (fun d=>?_) (fun d=>?_)⟩
  .have h5:p.five=true:=by
    have d:=Tq d
    cases e:p.five with
    | true=>rfl
    | false=>unfold LP.many at d;rw[e]at d;exact absurd d (by decide)
   rw[Kw,Tu h5]at cA;rw[cA]at q;exact q
  .have h5:¬p.five=true:=fun z=>d (Tr (by unfold LP.many;rw[Tu z];decide))
   rw[Kw,Tt h5]at cA
   cases k with
   | plain=>
    rw[cA]at q;exact⟨_,rfl,t,_,_,_,rfl,rfl,SqT.of ht,jH (j:=1) rfl,rfl,_,rfl,kY ⟨_,rfl,q⟩⟩
   | ifs=>
    refine⟨_,rfl,t,_,_,_,rfl,rfl,SqT.of ht,jH (j:=1) rfl,rfl,_,rfl,yj ⟨_,rfl,t,_,_,_,rfl,rfl,SqT.of ht,jH (j:=1) rfl,rfl,_,rfl,yj (yj ?_)⟩⟩;refine⟨_,rfl,t,_,_,_,rfl,rfl,SqT.of ht,jH (j:=1) rfl,rfl,_,rfl,yj ?_⟩;refine⟨_,n,rfl,rfl,cA⟩
   | reads=>
    refine⟨_,rfl,t,_,_,_,rfl,rfl,SqT.of ht,jH (j:=1) rfl,rfl,_,rfl,yj ⟨_,rfl,t,_,_,_,rfl,rfl,SqT.of ht,jH (j:=1) rfl,rfl,_,rfl,kY ⟨_,rfl,rfl,_,rfl,jZ (fun d=>?_) (fun d=>?_)⟩⟩⟩
    .have h1:p.a=1:=by have:=Tq d;injection this with this;exact D0 (by show p.a.val=1;omega)
     have cA:=cA.trans (Tu h1);rw[cA]at q;exact⟨_,rfl,q⟩
    have h1:¬p.a=1:=fun z=>d (Tr (by rw[z];rfl))
    have cA:=cA.trans (Tt h1);refine⟨_,rfl,t,_,_,_,rfl,rfl,SqT.of ht,jH (j:=1) rfl,rfl,_,rfl,kY ?_⟩;refine⟨_,rfl,_,_,rfl,rfl,_,rfl,jZ (fun d=>?_) (fun d=>?_)⟩
    .have h6:p.six=true:=by
      have d:=Tq d
      cases e:p.six with
      | true=>rfl
      | false=>unfold LP.across at d;rw[e]at d;exact absurd d (by decide)
     have cA:=cA.trans (Tu h6);rw[cA]at q;exact q
    have h6:¬p.six=true:=fun z=>d (Tr (by unfold LP.across;rw[Tu z];decide))
    have cA:=cA.trans (Tt h6);refine⟨_,rfl,_,_,rfl,rfl,?_⟩;refine⟨_,rfl,rfl,_,rfl,jZ (fun d=>?_) (fun d=>?_)⟩
    .have h2:p.a=2:=by have:=Tq d;injection this with this;exact D0 (by show p.a.val=2;omega)
     have cA:=cA.trans (Tu h2);rw[cA]at q;exact⟨_,rfl,q⟩
    .have h2:¬p.a=2:=fun z=>d (Tr (by rw[z];rfl))
     exact⟨_,n+1,rfl,rfl,cA.trans (Tt h2)⟩
 .rintro σ G ⟨u,n,rfl,rfl,cA⟩
  rw[<- hl,List.drop_length]at cA;rw[cA]at q;exact⟨_,rfl,q⟩
theorem jga(F:Fun K "_law_said" "_law_said" Z0 f fd)(B:Free0 mg)(GT:mg "TooMany" = some (.ref CT))(GX:mg "TooWide" = some (.ref CX))(GO:mg "OutlineError" = some (.ref CO))(GN:mg "NoName" = some (.ref CN))(XT:dE K CT valB "ValueError.__new__" = true)(XX:dE K CX valB "ValueError.__new__" = true)(ZT:PySem.W.XCls K CT)(ZX:PySem.W.XCls K CX)(t1:dD K (.ref CT) (.ref CO)=some true)(t2:dD K (.ref CT) (.ref CX)=some false)(t3:dD K (.ref CX) (.ref CO)=some true)(t4:dD K (.ref CX) (.ref CN)=some false)(hm:cU K CX (.ref CT)=some false)(nN:FnX P w K mg base 18 "judged" ["program"] (spJudged CT CX o1 2)):FnOk P w K mg base CX0 19 f fd ["_law_program"] (spSaidL o1):=by
 have sc:FnScope ["_law_program","_law_found","e"] ["_law_program"] (ji Z0):=fQ;refine F.ok sc (fun vs H Q E h=>?_) (fun ay A outer s H vs Q E hr h=>?_)
 .obtain⟨p,a,us,ks,rfl,_⟩:=h
  rfl
 obtain⟨p,a,us,ks,rfl,ha,cf,ok,ho,q1,q2,q3⟩:=h;refine⟨_,QSs.h (ja (jt (i:=1) sc.nd rfl oQ qk) (ja (jbr (iy:=1) (i:=2) nN rfl rfl hr (jd (zpv 0) jc) (fun e=>jf (jt (i:=1) sc.nd rfl oQ (jM (jd jy (jd (KW (qa (zh (K:=K)) (by rfl) B.isinstance_ zi (jd (zpv 2) (jd (qq (v:=.ref CO) (by rfl) GO rfl) jc))) (ZO (jb8 (qa (zh (K:=K)) (by rfl) B.isinstance_ zi (jd (zpv 2) (jd (qq (v:=.ref CX) (by rfl) GX rfl) jc)))))) jc))))) (fun e=>jf (jt (i:=1) sc.nd rfl oQ (jM (jd jy (jd (KW (qa (zh (K:=K)) (by rfl) B.isinstance_ zi (jd (zpv 2) (jd (qq (v:=.ref CO) (by rfl) GO rfl) jc))) (ZO (jb8 (qa (zh (K:=K)) (by rfl) B.isinstance_ zi (jd (zpv 2) (jd (qq (v:=.ref CN) (by rfl) GN rfl) jc)))))) jc))))) sc.nd rfl oQ rfl rfl (by rfl) GT XT (by rfl) GX XX hm (by omega)) (jf (jr (zpv 1))))),?_⟩;refine jV (σ':=[some (.ref a),none,none]) rfl ?_;refine gQ ?_;refine⟨_,rfl,?_⟩;unfold jbx;refine jhr ok ha cf ho (fun h5 H' s'=>.inl ⟨rfl,fun e he=>?_⟩) (fun h5 hj H' s'=>.inr ⟨rfl,fun e he=>?_⟩) (fun h5 m hj t v H' s' ht=>?_)
 .refine jV (σ':=[some (.ref a),some V.non,some (.ref e)]) rfl ?_
  have e1:upd H' e (yn (.ref CT) e) e=some (yn (.ref CT) e):=jb;have s1:=s'.trans (je he (yn (.ref CT) e));generalize upd H' e (yn (.ref CT) e)=H1 at *;refine⟨_,rfl,e,CT,CO,true,rfl,e1,ZT,t1,true,rfl,kY ⟨_,rfl,e,CT,CX,false,rfl,e1,ZT,t2,false,rfl,sm rfl,fun t ht=>?_⟩⟩;exact⟨_,rfl,q1 h5 t _ (s1.trans (je ht _)) jb⟩
 .refine jV (σ':=[some (.ref a),some V.non,some (.ref e)]) rfl ?_
  have e1:upd H' e (yn (.ref CX) e) e=some (yn (.ref CX) e):=jb;have s1:=s'.trans (je he (yn (.ref CX) e));generalize upd H' e (yn (.ref CX) e)=H1 at *;refine⟨_,rfl,e,CX,CO,true,rfl,e1,ZX,t3,true,rfl,kY ⟨_,rfl,e,CX,CN,false,rfl,e1,ZX,t4,false,rfl,sm rfl,fun t ht=>?_⟩⟩;exact⟨_,rfl,q2 h5 hj t _ (s1.trans (je ht _)) jb⟩
 .exact⟨_,rfl,q3 h5 m hj t v H' s' ht⟩
end
end LW
namespace L2
open PySem PySem.Spec PyProof.Rows
theorem LikeV.lst{K:av}{H:Hp}{n:Nat}{a b:aa}{xs ys:List V}(ha:H a=some (.lst xs))(hb:H b=some (.lst ys))(hl:xs.length=ys.length)(h:∀(j:Nat) x' y',xs[j]?=some x'->ys[j]?=some y'->LikeV K H n x' y'):LikeV K H (n+1) (.ref a) (.ref b):=.inr (.inr ⟨a,b,xs,ys,rfl,rfl,SqL.of ha,SqL.of hb,hl,h⟩)
def LikeL(K:av)(H:Hp)(n:Nat)(xs ys:List V):Prop:=xs.length=ys.length/\∀(j:Nat) x' y',xs[j]?=some x'->ys[j]?=some y'->LikeV K H n x' y'
theorem LikeL.nil{K:av}{H:Hp}{n:Nat}:LikeL K H n [] []:=⟨rfl,fun j x y h _=>by simp at h⟩
theorem LikeL.cons{K:av}{H:Hp}{n:Nat}{x y:V}{xs ys:List V}(h:LikeV K H n x y)(t:LikeL K H n xs ys):LikeL K H n (x :: xs) (y :: ys):=⟨by rw[bo,bo,t.1],fun j x' y' e1 e2=>by
 cases j with
 | zero=>simp at e1 e2;subst e1 e2;exact h
 | succ j=>exact t.2 j x' y' (by simpa using e1) (by simpa using e2)⟩
section
variable {X:Cx}
theorem jf4(n:Nat)(hu:X.A.units+1+n < cLine):OpR X (dZ .Eq) (fun x y H Q=>∃a b xs ys,x=.ref a/\y=.ref b/\SqT X.K H a xs/\SqT X.K H b ys/\LikeL X.K H n xs ys/\Q (.bl true) H):=by
 intro ac s σ H x y v u Q I rx ry h;obtain⟨a,b,xs,ys,rfl,rfl,ha,hb,⟨hl,hj⟩,q⟩:=h
 cases rx;cases ry
 obtain⟨its,ce,ta,_⟩:=I.tuple ha;obtain⟨aS,cH,tb,_⟩:=I.tuple hb;have l3:=ce.length;have l4:=cH.length;have bz:=vP (A:=X.A) (s:=s) (e:=fun _=>true) (show s.heap.IsTuple a its.toArray from ta) (show s.heap.IsTuple b aS.toArray from tb) (by omega) (KY hl ce cH fun j x' y' u' v' e1 e2 r1 r2=>Jk I n X.A.in1 x' y' u' v' (by show X.A.units+1+n < cLine;exact hu) (hj j x' y' e1 e2) r1 r2);have e:((bL (min its.toArray.size aS.toArray.size)).all (fun _=>true) && its.toArray.size == aS.toArray.size)=true:=by
  have:its.toArray.size=aS.toArray.size:=by simp;omega
  rw[this];simp
 rw[e]at bz;exact bz X.prog X.w X.xe _ ⟨.bl true,H,I,rfl,q⟩
end
section
variable {X:Cx}
theorem jf3(hu:X.A.units+1 < cLine):OpR X (dZ .Eq) (fun x y H Q=>∃a b z c,x=.ref a/\y=.ref b/\SqT X.K H a [.str z,.bl c]/\SqT X.K H b [.str z,.bl c]/\Q (.bl true) H):=by
 intro ac s σ H x y v u Q I rx ry h;obtain⟨a,b,z,c,rfl,rfl,ha,hb,q⟩:=h
 cases rx;cases ry
 obtain⟨its,ce,ta,_⟩:=I.tuple ha;obtain⟨aS,cH,tb,_⟩:=I.tuple hb;have l3:=ce.length;have l4:=cH.length;have bz:=vP (A:=X.A) (s:=s) (e:=fun _=>true) (show s.heap.IsTuple a its.toArray from ta) (show s.heap.IsTuple b aS.toArray from tb) (by omega) (KY (xs:=[.str z,.bl c]) (ys:=[.str z,.bl c]) rfl ce cH fun j x' y' u' v' e1 e2 r1 r2=>by
  rw[e1]at e2
  cases e2
  match j with
  | 0=>
   simp at e1;subst e1;obtain⟨t,rfl⟩:=r1;obtain⟨t',rfl⟩:=r2;have:=vQ (A:=X.A.in1) (s:=s) z t z t';rw[beq_self_eq_true]at this;exact this
  | 1=>
   simp at e1;subst e1
   cases r1
   cases r2
   have:=Ro (A:=X.A.in1) (s:=s) c c;rw[beq_self_eq_true]at this;exact this
  | j+2=>simp at e1)
 have e:((bL (min its.toArray.size aS.toArray.size)).all (fun _=>true) && its.toArray.size == aS.toArray.size)=true:=by
  have:its.toArray.size=aS.toArray.size:=by simp;omega
  rw[this];simp
 rw[e]at bz;exact bz X.prog X.w X.xe _ ⟨.bl true,H,I,rfl,q⟩
end
end L2
namespace LW
open PySem L2
abbrev Z2:aA:=top 109
theorem jff{P:az}{w:ax}{K:av}{mg:Str->Option ad}{base:au}{k:Nat}{x:Str}{ps:List Str}{sp:Sp}(F:FnX P w K mg base k x ps sp):Fn P w K mg base k x ps (fun vs H Q _=>sp vs H Q E0):=by
 obtain⟨f,fd,G,b,kp,m⟩:=F.ex;refine⟨f,fd,⟨fun vs H Q E h=>G.len vs H Q E0 h,fun A outer s H args us vs Q E hr he hb hv hs=>lj (G.run A outer s H args us vs Q E0 hr he hb hv hs) fun r s' h=>?_⟩,b,kp,m⟩
 cases r with
 | error e=>
  obtain⟨_,_,_,_,_,_,_,_,_,z⟩:=h;exact z.elim
 | ok fl=>cases fl <;> exact h
def jgL(K:av)(o1:aa):Sp:=fun vs H Q _=>∃(a:aa) (ns:List Int),vs=[.ref a]/\SqL K H a (ns.map V.int)/\ns.length<=63/\Held H zl (.ref o1)/\∀H',Q (.bl true) H'
theorem jfp(xs:List V)(i:Nat)(h:i<=xs.length):qo xs (some (i:Int)) none=xs.drop i:=by
 unfold qo;rw[HT.sIx_nat,HT.sIx_none,ow (by omega),Lb (by rw[we];omega)]
theorem jfo(xs:List V)(i:Nat)(h:i<=xs.length):qo xs none (some (i:Int))=xs.take i:=by
 unfold qo;rw[HT.sIx_nat,HT.sIx_none,ow (by omega),SG,List.drop_zero]
theorem YG{H:Hp}:∀{ds:List D} {vs:List V},HeldL H ds vs->∀i,HeldL H (ds.drop i) (vs.drop i)
 | _,_,h,0=>h
 | [],_,h,i+1=>by cases jv h;exact jx
 | _ :: _,_,h,i+1=>by
  obtain⟨v,r,rfl,_,h2⟩:=jg h;exact YG h2 i
theorem YF{H:Hp}:∀{ds:List D} {vs:List V},HeldL H ds vs->∀i,HeldL H (ds.take i) (vs.take i)
 | _,_,h,0=>jx
 | [],_,h,i+1=>by cases jv h;exact jx
 | _ :: _,_,h,i+1=>by
  obtain⟨v,r,rfl,h1,h2⟩:=jg h;exact jo h1 (YF h2 i)
theorem Zv{H:Hp}:∀{ds:List D} {vs:List V},HeldL H ds vs->HeldL H ds.reverse vs.reverse
 | [],_,h=>by cases jv h;exact jx
 | _ :: _,_,h=>by
  obtain⟨v,r,rfl,h1,h2⟩:=jg h;rw[wa,wa];exact j0 (Zv h2) (jo h1 jx)
def ks0:List Kd:=[.plain,.ifs,.reads]
theorem jgs:∀t:Nat,t<=2->KsOk (ks0.drop t++ks0.take t)
 | 0,_=>⟨by show bg (["plain","ifs","reads"]:List Str);decide +kernel,by decide,by simp[ks0],by simp[ks0]⟩
 | 1,_=>⟨by show bg (["ifs","reads","plain"]:List Str);decide +kernel,by decide,by simp[ks0],by simp[ks0]⟩
 | 2,_=>⟨by show bg (["reads","plain","ifs"]:List Str);decide +kernel,by decide,by simp[ks0],by simp[ks0]⟩
 | t+3,h=>by omega
theorem KsOk.rev{ks:List Kd}(h:KsOk ks):KsOk ks.reverse:=⟨by rw[Lj];unfold bg;rw[List.pairwise_reverse];exact h.nd.imp br,by rw[SW];exact h.l,SN.mpr h.pl,SN.mpr h.i⟩
theorem KsOk.ne{ks:List Kd}(h:KsOk ks):ks≠[]:=fun z=>by have:=h.pl;rw[z]at this;cases this
section
variable {P:az}{w:ax}{K:av}{mg:Str->Option ad}{base:au}{CT CX o1:aa}
theorem jhf{f:aa}{fd:aD}(F:Fun K "law" "law" Z2 f fd)(B:Free0 mg)(vB:Fn P w K mg base 1 "_law_cell" ["_law_script","_law_k"] (jeh K))(CB:Fn P w K mg base 1 "_law_ifs" ["_law_many","_law_c"] spIfsL)(Ck:Fn P w K mg base 1 "_law_reads" ["_law_many","_law_c","_law_at"] spReadsL)(CK:Fn P w K mg base 1 "_law_due" ["_law_program","_law_many","_law_across","_law_at"] spDueL)(Ci:Fn P w K mg base 19 "_law_said" ["_law_program"] (spSaidL o1))(Pu:FnX P w K mg base 18 "judged" ["program"] (spJudged CT CX o1 2)):FnOk P w K mg base CX0 20 f fd ["_law_script"] (jgL K o1):=by
 have sc:FnScope ["_law_script","_law_cell_here","_law_many","_law_across","_law_at","_law_c","_law_plain","_law_procs","_law_turn","_law_due_here","_law_found"] ["_law_script"] (ji Z2):=fQ;have nN:=jff Pu;refine F.okZ sc (fun ay A outer s H vs Q E hr h=>?_);obtain⟨a,ns,rfl,hS,_,ho,q⟩:=h;have lO:(A.deeper (gB "law" (ji Z2) s.heap.objs.size f ay)).units+1+2 < cLine:=v8 (K_ (by decide:1+2<=64) _) hr.units;have M4:=v8 (K_ (by decide:1<=64) _) hr.units;refine⟨_,(ja (jt (i:=1) sc.nd rfl oQ (jD vB hr (jd (zpv 0) (jd jl jc))))
   (ja (jt (i:=2) sc.nd rfl oQ (jG yz jl (jG yW (jG yb (zpv 1) jl) jl)))
   (ja (jt (i:=3) sc.nd rfl oQ (jG yz jl (jG yb (jG yW (zpv 1) jl) jl)))
   (ja (jt (i:=4) sc.nd rfl oQ (jG yb (jG yW (zpv 1) jl) jl))
   (ja (jt (i:=5) sc.nd rfl oQ (jG Z4 (jG yb (jD vB hr (jd (zpv 0) (jd jl jc))) (jG Jw jl (jG jeH jl jl))) (jG jeH jl jl)))
   (ja (jt (i:=6) sc.nd rfl oQ (zpd (jU (jq jY (jq jY (jq (jU (jq jY jP)) (jq (jU jP) (jq (jU jP) (jq (jU jP) (jq (jU (jq (jU (jq jY (jq (jU (jq jY (jq (jU (jq jY (jq jY jP))) (jq (jU (jq jY (jq jY jP))) (jq Kn jP))))) jP))) jP)) jP))))))))))
   (ja (jt (i:=7) sc.nd rfl oQ (jK (jd (zpv 6) (jd (jD CB hr (jd (zpv 2) (jd (zpv 5) jc))) (jd (jD Ck hr (jd (zpv 3) (jd (zpv 5) (jd (zpv 4) jc)))) jc)))))
   (ja (jt (i:=8) sc.nd rfl oQ (jG yb (jG yW (zpv 1) jl) jl))
   (ja (jt (i:=7) sc.nd rfl oQ (jG kW (kC jcd (zpv 7) (kF (zpv 8)) qp) (kC jcd (zpv 7) qp (kF (zpv 8)))))
   (ja (yL (jQ (jw ka (jG yb (jG yW (zpv 1) jl) jl) jl (jF _)) (jf (j7 (ZP dL PySem.F.slot_list_reverse PySem.F.type_list_reverse jbP (zpv 7)))) jC))
   (ja (jt (i:=9) sc.nd rfl oQ (jD CK hr (jd (zpv 7) (jd (zpv 2) (jd (zpv 3) (jd (zpv 4) jc))))))
   (ja (jt (i:=10) sc.nd rfl oQ (jD Ci hr (jd (yO yc (by rfl) B.tuple_ YS (jd (zpv 7) jc)) jc)))
   (ja (jQ (jbq (jw ka (zpv 9) jy (jF _)) (ZM (jw ka (zpv 9) jy (jF _)))).pt (jf (jr (yM (jf3 M4) (zpv 10) (jM (jd (zpv 9) (jd jd1 jc))) (jF _)))) jC)
   (jf (jr (KW (yM ka (jz jE (zpv 10) jl (fun _ _=>rfl)) jy (jF _)) (KW (yM ka (jz jE (zpv 10) jl (fun _ _=>rfl)) (zpv 9) (jF _)) (ZO (yM (jf4 2 lO) (jD nN hr (jd (jM jc) jc)) (jM (jd jy (jd (jK jc) jc))) (jF _)))))))))))))))))))),?_⟩
 refine qN ?_
 try dsimp only[j5]
 refine jhv ?_;intro _ _ _ _ _ _ _ _ _ _ _ _ _;refine⟨_,rfl,a,ns,0,rfl,hS,by decide,by decide,fun c0=>?_⟩;refine gQ ?_;refine⟨_,rfl,_,_,rfl,rfl,(by show (0:Int) < 3;decide),_,_,rfl,rfl,⟨by decide,by decide⟩,_,_,rfl,rfl,?_⟩;refine gQ ?_;refine⟨_,rfl,_,_,rfl,rfl,⟨by decide,by decide⟩,_,_,rfl,rfl,(by show (0:Int) < 2;decide),_,_,rfl,rfl,?_⟩;refine gQ ?_;refine⟨_,rfl,_,_,rfl,rfl,⟨by decide,by decide⟩,_,_,rfl,rfl,(by show (0:Int) < 3;decide),?_⟩;refine gQ ?_;refine⟨_,rfl,a,ns,1,rfl,hS,by decide,by decide,fun c1=>?_⟩;refine⟨_,_,rfl,rfl,⟨by decide,by decide,by decide⟩,_,_,rfl,rfl,.inl ⟨by decide,by decide⟩,_,_,rfl,rfl,(by show (0:Int) < 2 * 10 ^ (17:Int).toNat;decide),?_⟩;refine⟨_,_,rfl,rfl,⟨by decide,by decide,by decide⟩,_,_,rfl,rfl,?_⟩;refine gQ ?_;have q0:0<=c0 % 3:=mP _ (by decide);have q1:c0 % 3 < 3:=mQ _ (by decide);have q2:0<=c0 / 3 % 2:=mP _ (by decide);have q3:c0 / 3 % 2 < 2:=mQ _ (by decide);have q4:0<=c0 / 6 % 3:=mP _ (by decide);have q5:c0 / 6 % 3 < 3:=mQ _ (by decide);obtain⟨p,pm,pa,pt,pc⟩:∃p:LP,4+c0 % 3 / 2=((p.many:Nat):Int)/\5+c0 / 3 % 2=((p.across:Nat):Int)/\c0 / 6 % 3=((p.a.val:Nat):Int)/\c1 % (2 * 10 ^ lE 17) - 10 ^ lE 17=p.c:=by
  refine⟨⟨decide (c0 % 3 / 2=1),decide (c0 / 3 % 2=1),⟨(c0 / 6 % 3).toNat,by omega⟩,_⟩,?_,?_,?_,rfl⟩
  .unfold LP.many
   by_cases h:c0 % 3 / 2=1
   .rw[Tu (Tr h),h];rfl
   .rw[Tt (by simpa using h)];omega
  .unfold LP.across
   by_cases h:c0 / 3 % 2=1
   .rw[Tu (Tr h),h];rfl
   .rw[Tt (by simpa using h)];omega
  .show _=(((c0 / 6 % 3).toNat:Nat):Int)
   omega
 rw[pm,pa,pt,pc];clear pm pa pt pc q0 q1 q2 q3 q4 q5;refine⟨(pcK p .plain).toD,⟨_,rfl,aw rfl,_,_,rfl,rfl,_,_,rfl,rfl,_,_,rfl,⟨_,rfl,aw rfl,_,_,rfl,rfl,rfl⟩,_,_,rfl,⟨_,rfl,aw rfl,rfl⟩,_,_,rfl,⟨_,rfl,aw rfl,rfl⟩,_,_,rfl,⟨_,rfl,aw rfl,rfl⟩,_,_,rfl,⟨_,rfl,aw rfl,_,_,rfl,⟨_,rfl,aw rfl,_,_,rfl,rfl,_,_,rfl,⟨_,rfl,aw rfl,_,_,rfl,rfl,_,_,rfl,⟨_,rfl,aw rfl,_,_,rfl,rfl,_,_,rfl,rfl,rfl⟩,_,_,rfl,⟨_,rfl,aw rfl,_,_,rfl,rfl,_,_,rfl,rfl,rfl⟩,_,_,rfl,rfl,rfl⟩,rfl⟩,rfl⟩,rfl⟩,fun vp H1 s1 hp=>?_⟩;refine gQ ?_;refine⟨_,rfl,_,rfl,_,rfl,p,rfl,fun vi H2 s2 hi=>?_⟩;refine⟨_,rfl,_,rfl,_,rfl,p,rfl,fun vr H3 s3 Nj=>?_⟩;refine⟨sm rfl,fun lp nj=>?_⟩;refine gQ ?_;have s4:=je nj (.lst [vp,vi,vr]);have e4:upd H3 lp (.lst [vp,vi,vr]) lp=some (.lst [vp,vi,vr]):=jb;have h4:HeldL (upd H3 lp (.lst [vp,vi,vr])) ((ks0.map (pcK p)).map Pc.toD) [vp,vi,vr]:=jo (hp.mono (s2.trans (s3.trans s4))) (jo (hi.mono (s3.trans s4)) (jo (Nj.mono s4) jx));have tO:=ho.mono (s1.trans (s2.trans (s3.trans s4)));generalize upd H3 lp (.lst [vp,vi,vr])=H4 at *;refine⟨_,rfl,_,_,rfl,rfl,⟨by decide,by decide⟩,_,_,rfl,rfl,(by show (0:Int) < 3;decide),?_⟩;refine gQ ?_;obtain⟨k,hk,nq⟩:∃k:Nat,c0 / 18 % 3=(k:Int)/\k<=2:=by
  have:=mP (c0 / 18) (b:=3) (by decide);have:=mQ (c0 / 18) (b:=3) (by decide);exact⟨(c0 / 18 % 3).toNat,by omega,by omega⟩
 rw[hk];have ok:=jgs k nq;have lu:k<=[vp,vi,vr].length:=by show k<=3;omega
 refine⟨_,rfl,_,rfl,_,rfl,lp,_,rfl,SqL.of e4,fun l1 fi=>?_⟩;rw[jfp _ _ lu];have z1:=je fi (.lst ([vp,vi,vr].drop k));have y1:upd H4 l1 (.lst ([vp,vi,vr].drop k)) l1=some (.lst ([vp,vi,vr].drop k)):=jb;generalize upd H4 l1 (.lst ([vp,vi,vr].drop k))=G1 at *;refine⟨_,rfl,_,rfl,_,rfl,lp,_,rfl,SqL.of (z1 _ _ e4),fun l2 dq=>?_⟩;rw[jfo _ _ lu];have z2:=je dq (.lst ([vp,vi,vr].take k));have y2:upd G1 l2 (.lst ([vp,vi,vr].take k)) l2=some (.lst ([vp,vi,vr].take k)):=jb;have Lu:=z2 _ _ y1;generalize upd G1 l2 (.lst ([vp,vi,vr].take k))=G2 at *;refine⟨l1,l2,[vp,vi,vr].drop k,[vp,vi,vr].take k,rfl,rfl,Lu,y2,km (by show ([vp,vi,vr].drop k).length+([vp,vi,vr].take k).length<=1000;rw[we,cM];have:[vp,vi,vr].length=3:=rfl;omega),fun l3 cg=>?_⟩;refine gQ ?_;have z3:=je cg (.lst ([vp,vi,vr].drop k++[vp,vi,vr].take k));have y3:upd G2 l3 (.lst ([vp,vi,vr].drop k++[vp,vi,vr].take k)) l3=some (.lst ([vp,vi,vr].drop k++[vp,vi,vr].take k)):=jb;have eC:HeldL (upd G2 l3 (.lst ([vp,vi,vr].drop k++[vp,vi,vr].take k))) (((ks0.drop k++ks0.take k).map (pcK p)).map Pc.toD) ([vp,vi,vr].drop k++[vp,vi,vr].take k):=by
  have h5:=h4.mono (z1.trans (z2.trans z3));rw[bh,bh,SV,SV,SU,SU];exact j0 (YG h5 k) (YF h5 k)
 have tP:=tO.mono (z1.trans (z2.trans z3));generalize upd G2 l3 (.lst ([vp,vi,vr].drop k++[vp,vi,vr].take k))=G3 at *;generalize [vp,vi,vr].drop k++[vp,vi,vr].take k=us at *;generalize ks0.drop k++ks0.take k=ks at *;refine⟨fun σ' G=>∃us ks,σ'=[some (.ref a),some (.int c0),some (.int p.many),some (.int p.across),some (.int (p.a.val:Nat)),some (.int p.c),some vp,some (.ref l3),some (.int k),none,none]/\G l3=some (.lst us)/\HeldL G ((ks.map (pcK p)).map Pc.toD) us/\KsOk ks/\Held G zl (.ref o1),?_,?_⟩
 .refine⟨_,rfl,_,_,rfl,rfl,⟨by decide,by decide⟩,_,_,rfl,rfl,(by show (0:Int) < 2;decide),?_⟩
  refine⟨rfl,_,rfl,jZ (fun d=>?_) (fun d=>?_)⟩
  .refine⟨_,rfl,.inl ⟨rfl,_,SqL.of y3⟩,l3,us,rfl,rfl,y3,?_⟩
   have kt:TK G3 (upd G3 l3 (.lst us.reverse)):=fun b ws eb=>jk (jN eb y3 (by intro z;cases z)) eb
   exact⟨us.reverse,ks.reverse,rfl,jb,by rw[Lj,Lj];exact Zv (kt.heldL eC),ok.rev,kt.held tP⟩
  .exact⟨us,ks,rfl,y3,eC,ok,tP⟩
 rintro σ' G ⟨us,ks,rfl,e5,h5,ok,Nu⟩;refine⟨_,rfl,_,rfl,_,rfl,_,rfl,p,l3,us,ks,rfl,e5,h5,ok.ne,?_⟩;refine gQ ?_;refine⟨_,rfl,l3,us,rfl,.inl ⟨SqL.of e5,fun tp ng=>?_⟩⟩;have s6:=je ng (.tup us);have e6:upd G tp (.tup us) tp=some (.tup us):=jb;have h6:=h5.mono s6;have Fv:=Nu.mono s6;generalize upd G tp (.tup us)=G6 at *;unfold jbx;have many:p.five=true->Kx p ks 0=.str "many":=fun h=>by
  cases ks with
  | nil=>exact absurd rfl ok.ne
  | cons k r=>rw[Kw,Tu h]
 refine⟨p,tp,us,ks,rfl,e6,h6,ok,Fv,fun hf t G7 s7 e7=>?_,fun hf hj t G7 s7 e7=>?_,fun hf m hj t v G7 s7 e7=>?_⟩
 .refine gQ ?_
  rw[many hf];refine⟨_,rfl,rfl,_,rfl,kY ?_⟩;refine⟨_,rfl,_,rfl,sm rfl,fun t2 fe=>?_⟩;exact⟨t,t2,_,_,rfl,rfl,SqT.of (je fe _ _ _ e7),SqT.of jb,q _⟩
 .refine gQ ?_
  have hd:Kx p ks 0=.str "wide":=by
   rcases JZ hf ks 0 with⟨_,h⟩ | ⟨m,h,_⟩ | h
   .exact h
   .unfold jdK at hj;rw[h]at hj;cases hj
   .exact absurd ok.pl h
  rw[hd];refine⟨_,rfl,rfl,_,rfl,yj ⟨_,rfl,rfl,_,rfl,kY ?_⟩⟩;refine⟨_,rfl,_,rfl,sm rfl,fun t2 fe=>?_⟩;exact⟨t,t2,_,_,rfl,rfl,SqT.of (je fe _ _ _ e7),SqT.of jb,q _⟩
 .refine gQ ?_
  have hd:Kx p ks 0=.int m:=by
   rcases JZ hf ks 0 with⟨h,_⟩ | ⟨m',h,hd⟩ | h
   .unfold jdK at hj;rw[h]at hj;cases hj
   .unfold jdK at hj;rw[h]at hj;cases hj;exact hd
   .exact absurd ok.pl h
  rw[hd];refine⟨_,rfl,rfl,_,rfl,yj ⟨_,rfl,rfl,_,rfl,yj ?_⟩⟩;refine⟨_,rfl,t,_,_,_,rfl,rfl,SqT.of e7,jH (j:=0) rfl,rfl,true,rfl,kY ?_⟩;refine⟨_,rfl,t,_,_,_,rfl,rfl,SqT.of e7,jH (j:=1) rfl,_,rfl,rfl,true,by rw[Tr rfl],kY ?_⟩;refine⟨sm rfl,fun t0 Na=>?_⟩;have s8:=je Na (.tup []);refine⟨t0,[],[],fun _=>pcK p .plain,jbN,vdD,rfl,jb,jx,bA _,List.Pairwise.nil,fun x hx=>(nomatch hx),bA _,Fv.mono (s7.trans s8),fun ds e d hd=>?_,fun e=>?_,fun ds e hj=>?_,fun ds k e hj=>?_,fun ds e hj t' l xs G9 s9 e9 el hl=>?_⟩
  .cases e;cases hd
  .cases e
  .cases e;cases hj
  .cases e;cases hj
  .cases e
   have gi:xs=[]:=List.eq_nil_of_length_eq_zero hl;subst gi;refine⟨sm rfl,fun l2 dq=>⟨sm rfl,fun t2 fe=>?_⟩⟩;have z1:=je dq (.lst []);have y1:upd G9 l2 (.lst []) l2=some (.lst []):=jb;generalize upd G9 l2 (.lst [])=G10 at *;have z2:=je fe (.tup [.str "kept",.ref l2]);exact⟨t',t2,_,_,rfl,rfl,SqT.of (z2 _ _ (z1 _ _ e9)),SqT.of jb,.cons (jaX _ _) (.cons (LikeV.lst (n:=1) (z2 _ _ (z1 _ _ el)) (z2 _ _ y1) rfl LikeL.nil.2) .nil),q _⟩
end
end LW
namespace L2
open PySem PySem.Spec PyProof.Rows
def jT(os:List aa)(K:av):av:=K.filter fun p=>!os.contains p.1
theorem J0{os:List aa}{b:aa}(h:b∈os):∀K:av,(jT os K).lookup b=none
 | []=>rfl
 | (c,o) :: K=>by
  unfold jT;rw[wj];by_cases z:os.contains c=true
  .rw[Tt (by simp only[z];decide)]
   exact J0 h K
  .rw[Tu (by simp only[Tg]at z;simp only[z];decide),gC]
   have:(b == c)=false:=by
    rw[Tv];intro e;rw[<- e]at z;exact z (S_.mpr h)
   rw[this];exact J0 h K
theorem yl{os:List aa}{b:aa}(h:b ∉ os):∀K:av,(jT os K).lookup b=K.lookup b
 | []=>rfl
 | (c,o) :: K=>by
  unfold jT;rw[wj];by_cases z:os.contains c=true
  .rw[Tt (by simp only[z];decide),gC]
   have:(b == c)=false:=by
    rw[Tv];intro e;rw[<- e]at z;exact h (S_.mp z)
   rw[this];exact yl h K
  .rw[Tu (by simp only[Tg]at z;simp only[z];decide),gC,gC]
   cases b == c
   .exact yl h K
   .rfl
variable {os:List aa}{K:av}{b:aa}
theorem jbh{o:Obj}(e:(jT os K).lookup b=some o):b ∉ os/\K.lookup b=some o:=by
 by_cases h:b∈os
 .rw[J0 h]at e;cases e
 .exact⟨h,(yl h K).symm.trans e⟩
def jfz:ad->V
 | .int i _=>.int i
 | .str s _=>.str s
 | .ref a=>.ref a
 | .bool b=>.bl b
 | _=>.non
def TupsF(K:av)(os:List aa):Prop:=∀b∈os,∃od its n sl,K.lookup b=some ⟨.type "tuple",od,.seq its n,sl⟩/\its.size<=1000/\Vals (its.toList.map jfz) its.toList
variable {fd:aD}{x:Str}
section
theorem TupsF.or(hs:TupsF K os)(b:aa):(jT os K).lookup b=K.lookup b\/((jT os K).lookup b=none/\∃od its n sl,K.lookup b=some ⟨.type "tuple",od,.seq its n,sl⟩):=by
 by_cases h:b∈os
 .obtain⟨od,its,n,sl,e,_⟩:=hs b h
  exact .inr ⟨J0 h K,od,its,n,sl,e⟩
 .exact .inl (yl h K)
theorem jI(hs:TupsF K os)(b:aa)(x:Str):aK (jT os K) b x=aK K b x:=by
 unfold aK;rcases hs.or b with e | ⟨e,od,its,n,sl,e2⟩
 .rw[e]
 .rw[e,e2]
theorem jbH(hs:TupsF K os)(x:Str)(v:ad):W.ownIn (jT os K) x v=W.ownIn K x v:=by
 cases v with
 | ref a=>
  show (match (jT os K).lookup a with | some ⟨_,_,.cls cd,_⟩=>aK (jT os K) cd.ns x | _=>none)=(match K.lookup a with | some ⟨_,_,.cls cd,_⟩=>aK K cd.ns x | _=>none);rcases hs.or a with e | ⟨e,od,its,n,sl,e2⟩
  .rw[e]
   simp only[jI hs]
  .rw[e,e2]
 | _=>rfl
theorem Kb(hs:TupsF K os)(x:Str):∀l:List ad,vN (jT os K) x l=vN K x l
 | []=>rfl
 | c :: r=>by
  unfold vN;rw[jbH hs,Kb hs x r]
theorem ju(hs:TupsF K os)(t:ad)(x:Str):aG (jT os K) t x=aG K t x:=by
 cases t with
 | ref a=>
  show (match (jT os K).lookup a with | some ⟨_,_,.cls cd,_⟩=>vN (jT os K) x cd.mro | _=>none)=(match K.lookup a with | some ⟨_,_,.cls cd,_⟩=>vN K x cd.mro | _=>none);rcases hs.or a with e | ⟨e,od,its,n,sl,e2⟩
  .rw[e]
   simp only[Kb hs]
  .rw[e,e2]
 | _=>rfl
theorem qi(hs:TupsF K os)(cd:ad)(q:Str):dj (jT os K) cd q=dj K cd q:=by
 cases cd with
 | ref a=>
  show (match (jT os K).lookup a with | some ⟨_,_,.fields vs,_⟩=>(match vs.toList with | _ :: .str n _ :: _=>n == q | _=>false) | _=>false)=(match K.lookup a with | some ⟨_,_,.fields vs,_⟩=>(match vs.toList with | _ :: .str n _ :: _=>n == q | _=>false) | _=>false);rcases hs.or a with e | ⟨e,od,its,n,sl,e2⟩
  .rw[e]
  .rw[e,e2]
 | _=>rfl
theorem zc(hs:TupsF K os)(C:aa):rY (jT os K) C=rY K C:=by
 unfold rY;rcases hs.or C with e | ⟨e,od,its,n,sl,e2⟩
 .rw[e]
 .rw[e,e2]
theorem qh(hs:TupsF K os)(C:aa):ef (jT os K) C=ef K C:=by unfold ef;rw[zc hs]
theorem qe(hs:TupsF K os)(C:aa):eP (jT os K) C=eP K C:=by unfold eP;rw[zc hs]
theorem qv(hs:TupsF K os)(C:aa)(x:Str):d_ (jT os K) C x=d_ K C x:=by unfold d_;rw[ju hs,ju hs]
theorem zL(e:(jT os K).lookup b=K.lookup b):W.typeIn (jT os K) (.ref b)=W.typeIn K (.ref b):=by
 show ((jT os K).lookup b).map _=(K.lookup b).map _;rw[e]
theorem yQ(hs:TupsF K os)(e:(jT os K).lookup b=K.lookup b)(x:Str):vL (jT os K) (.ref b) x=vL K (.ref b) x:=by
 unfold vL;rw[zL e];simp only[ju hs]
theorem yk(hs:TupsF K os)(b:aa):fN (jT os K) (.ref b)=fN K (.ref b):=by
 rcases hs.or b with e | ⟨e,od,its,n,sl,e2⟩
 .unfold fN
  rw[zL e]
 .show (((jT os K).lookup b).map (·.cls) == some (Value.type "function"))=((K.lookup b).map (·.cls) == some (Value.type "function"))
  rw[e,e2];show (none == some (Value.type "function"))=(some (Value.type "tuple") == some (Value.type "function"));decide +kernel
theorem ke(hs:TupsF K os)(b:aa):bQ (jT os K) (.ref b)=bQ K (.ref b):=by
 show (match (jT os K).lookup b with | some ⟨_,_,.func _,_⟩=>true | some ⟨_,_,.cls _,_⟩=>vL (jT os K) (.ref b) "__call__" == some (some (Value.builtin "type.__call__")) | _=>false)=(match K.lookup b with | some ⟨_,_,.func _,_⟩=>true | some ⟨_,_,.cls _,_⟩=>vL K (.ref b) "__call__" == some (some (Value.builtin "type.__call__")) | _=>false);rcases hs.or b with e | ⟨e,od,its,n,sl,e2⟩
 .rw[e]
  simp only[yQ hs e]
 .rw[e,e2]
theorem Ju(hs:TupsF K os)(t c:ad):W.subIn (jT os K) t c=W.subIn K t c:=by
 cases t with
 | ref a=>
  show cU (jT os K) a c=cU K a c;unfold cU;rw[zc hs]
 | _=>rfl
theorem qT(hs:TupsF K os)(C:aa):eQ (jT os K) C=eQ K C:=by
 unfold eQ;rcases hs.or C with e | ⟨e,od,its,n,sl,e2⟩
 .rw[e]
  simp only[yQ hs e];unfold W.instIn;rw[zL e];simp only[Ju hs]
 .rw[e,e2]
theorem zb(hs:TupsF K os){f:aa}{oc:ad}{od:Option aa}{sl:Array (Option ad)}(e:K.lookup f=some ⟨oc,od,.func fd,sl⟩):(jT os K).lookup f=some ⟨oc,od,.func fd,sl⟩:=by
 rcases hs.or f with e1 | ⟨_,LX,its,n,fS,e2⟩
 .rw[e1,e]
 .rw[e]at e2;cases e2
theorem jdQ{h:au}(X:K.In h):(jT os K).In h:=fun a o e=>X a o (jbh e).2
theorem Fun.drop(hs:TupsF K os){q:Str}{st:aA}{f:aa}(F:Fun K x q st f fd):Fun (jT os K) x q st f fd:=by
 obtain⟨⟨oc,od,kV,cn,pm,an,ay,ct,fu,e1,e2,e3⟩,e4⟩:=F;exact⟨⟨oc,od,kV,cn,pm,an,ay,ct,fu,e1,zb hs e2,by rw[qi hs];exact e3⟩,by rw[ke hs];exact e4⟩
end
def Kc(K:av)(os:List aa)(H:Hp):Prop:=∀b∈os,∀od its n sl,K.lookup b=some ⟨.type "tuple",od,.seq its n,sl⟩->H b=some (.tup (its.toList.map jfz))
def zp(K:av)(os:List aa):Hp:=fun b=>if b∈os then (match K.lookup b with | some ⟨_,_,.seq its _,_⟩=>some (.tup (its.toList.map jfz)) | _=>none) else none
theorem jdA{P:az}{w:ax}{mg mb:Str->Option ad}{CX:CXT}{k:Nat}{fa a:aa}{sp:Sp}{s₁:af}{vs:List ad}{ns:List Int}
  (KX:K.In s₁.heap) (hs:TupsF K os) (fB:s₁.heap.Ns aH mg) (hb:s₁.heap.Ns HK mb) (Om:∀x:Str,x≠"__name__"->mb x=eL x) (NN:s₁.heap.NoLimit) (hg:s₁.gens=#[])
  (ha:s₁.heap.get? a=some { cls:=.type "list",data:=.seq vs.toArray }) (hi:vY vs ns) (hl:ns.length<=aF) (hr:Room k nY)
  (F:∀base:au,(jT os K).In base->base.Ns aH mg->FnOk P w (jT os K) mg base CX k fa fd [x] sp) (Ol:∀(s:af) (u:ad),oq s fd ⟨[u],[]⟩ [(x,u)])
  (cQ:∀H:Hp,Kc K os H->SqL (jT os K) H a (ns.map V.int)->sp [.ref a] H (fun v _=>v=.bl true) fun _ _ _=>False)
  (OI:∀H e s',CX [] H s₁ (fun _ _ _=>False) e s'->False) :
  cD (am P w) nY (.call (.ref fa) ⟨[.ref a],[]⟩) (fun r s'=>r=.ok (.ret (.bool true))/\OldK s₁.heap s'.heap/\s'.os=s₁.os/\iK s'.gens) s₁:=by
 have rv:=Zb hi
 have Ms:=hi.length
 have trk:∀b,b∈os->∃od its n sl,K.lookup b=some ⟨.type "tuple",od,.seq its n,sl⟩/\zp K os b=some (.tup (its.toList.map jfz))/\its.size<=1000/\Vals (its.toList.map jfz) its.toList:=fun b hb=>by
  obtain⟨od,its,n,sl,e1,e2,e3⟩:=hs b hb;refine⟨od,its,n,sl,e1,?_,e2,e3⟩;unfold zp;rw[Tu hb,e1]
 have xj:a ∉ os:=fun z=>by
  obtain⟨od,its,n,sl,e,_⟩:=hs a z;have:=KX a _ e;rw[ha]at this;injection this with t1;injection t1 with t2;injection t2 with t3;revert t3;decide +kernel
 have Gv:∀H:Hp,(∀b,b∈os->H b=zp K os b)->SqL (jT os K) H a (ns.map V.int)->HOk P w H s₁.heap->(∀b,H b≠none->b=a\/b∈os)->(H a≠none->K.lookup a=none/\∃o u,H a=some (.frz o u))->
   cD (am P w) nY (.call (.ref fa) ⟨[.ref a],[]⟩) (fun r s'=>r=.ok (.ret (.bool true))/\OldK s₁.heap s'.heap/\s'.os=s₁.os/\iK s'.gens) s₁:=by
  intro H hT hS hok hA hK
  have GA:∀{b:aa} {o:Obj},s₁.heap.get? b=some o->H b=none->(jae s₁.heap H).get? b=some o:=fun e n=>jfd e n
  have pd:∀{b:aa} {o:Obj} {es:Array vV} {ep:Nat},s₁.heap.get? b=some o->o.data=.dict es ep->H b=none:=fun {b o es ep} e d=>by
   cases q:H b with
   | none=>rfl
   | some u=>
    rcases hA b (by rw[q];simp) with e' | e'
    .subst e'
     rw[ha]at e;cases e;have d':Data.seq vs.toArray _=Data.dict es ep:=d
     cases d'
    .obtain⟨od,its,n,sl,e1,_⟩:=trk b e'
     rw[KX b _ e1]at e;cases e;have d':Data.seq its n=Data.dict es ep:=d
     cases d'
  have nsK:∀{b:aa} {m:Str->Option ad},s₁.heap.Ns b m->(jae s₁.heap H).Ns b m:=fun {b m} ⟨o,es,ep,e,d,r⟩=>⟨o,es,ep,GA e (pd e d),d,r⟩
  have F_:(jT os K).In (jae s₁.heap H):=fun b o e=>by
   obtain⟨z1,z2⟩:=jbh e;refine GA (KX b o z2) ?_
   cases q:H b with
   | none=>rfl
   | some u=>
    rcases hA b (by rw[q];simp) with e' | e'
    .subst e'
     rw[(hK (by rw[q];simp)).1]at z2;cases z2
    .exact absurd e' z1
  have hM:Mod (jT os K) mg (jae s₁.heap H):=⟨F_,nsK fB,⟨mb,nsK hb,Om⟩,let ⟨mc,h1,h2⟩:=NN;⟨mc,nsK h1,h2⟩⟩
  have e0:Env0 P w (jT os K) mg (jae s₁.heap H) nY [] s₁ H:=⟨rfl,hM,fun b o e=>jgo e,SI (jdG _ _),trivial,fun b hb=>absurd (show b∈([]:List aa) from hb) (by simp),hok,.of_eq hg⟩
  have Oz:Kc K os H:=fun b hb od its n sl e=>by
   obtain⟨LX,its',n',fS,e1,e2,_⟩:=trk b hb;rw[e1]at e
   cases e
   rw[hT b hb,e2]
  refine lj ((F _ F_ (nsK fB)).run nY [] s₁ H ⟨[.ref a],[]⟩ [.ref a] [.ref a] _ _ hr e0 (Ol s₁ (.ref a)) (.cons rfl .nil) (cQ H Oz hS)) fun r s' h=>?_
  cases r with
  | error e=>exact (OI H e s' h).elim
  | ok fl=>
   cases fl with
   | next=>exact ez h
   | brk=>exact ez h
   | cont=>exact ez h
   | ret u=>
    obtain⟨v,H',o8,bare,un,Nq,r',q⟩:=h
    have q':v=.bl true:=q
    subst q'
    obtain rfl:u=Value.bool true:=r'
    refine⟨rfl,OldK.of_keep fun b o e=>?_,o8,bare⟩
    cases q:H b with
    | none=>exact un.keep b o e q (by intro z;exact absurd (show b∈([]:List aa) from z) (by simp)) (by simp)
    | some u=>
     rcases hA b (by rw[q];simp) with e' | e'
     .subst e'
      obtain⟨_,ob,xs,z⟩:=hK (by rw[q];simp)
      have z2:=un.frzs b ob _ z
      obtain⟨e1,_⟩:=hok b _ z
      obtain⟨e2,_⟩:=Nq b _ z2
      rw[e]at e1;cases e1
      exact e2
     .obtain⟨od,its,n,sl,e1,e2,_⟩:=trk b e'
      exact un.stay b o _ ((hT b e').trans e2) e (by intro z;exact absurd (show b∈([]:List aa) from z) (by simp)) (by simp)
 have Ey:∀(H:Hp) b u,b∈os->zp K os b=some u->ObjOk P w H s₁.heap b u:=fun H b u hb z=>by
  obtain⟨od,its,n,sl,e1,e2,e3,e4⟩:=trk b hb;rw[e2]at z
  cases z
  exact⟨by rw[aC,cF];exact cP (jS e3),its.toList,e4,_,KX b _ e1,rfl,n,rfl⟩
 have o_:∀b,b ∉ os->zp K os b=none:=fun b hb=>by unfold zp;rw[Tt hb]
 cases hk:K.lookup a with
 | some o=>
  have e:=KX a o hk
  rw[ha]at e
  cases e
  refine Gv (zp K os) (fun _ _=>rfl) (.inr ⟨_,vs.toArray,_,(yl xj K).trans hk,rfl,rfl,rfl,by rw[bP,Ms];exact hl,by simpa using rv⟩) (fun b u z=>?_) (fun b z=>.inr ?_) fun z=>absurd (o_ a xj) z
  .by_cases hb:b∈os
   .exact Ey _ b u hb z
   .rw[o_ b hb]at z;cases z
  .by_cases hb:b∈os
   .exact hb
   .exact absurd (o_ b hb) z
 | none=>
  refine Gv (fun b=>if b=a then some (.frz { cls:=.type "list",data:=.seq vs.toArray } (.lst (ns.map V.int))) else zp K os b) (fun b hb=>Tt fun z=>xj (by rw[<- z];exact hb)) (.inl (.inr ⟨{ cls:=.type "list",data:=.seq vs.toArray },Tu rfl⟩)) (fun b u z=>?_) (fun b z=>?_) fun _=>⟨hk,_,_,Tu rfl⟩
  .by_cases hb:b=a
   .have z':=(Tu hb).symm.trans z
    cases z'
    subst hb
    exact⟨ha,by rw[aC];exact hl,vs,_,rv,ha⟩
   .have z':zp K os b=some u:=(Tt hb).symm.trans z
    by_cases hc:b∈os
    .exact Ey _ b u hc z'
    .rw[o_ b hc]at z';cases z'
  .by_cases hb:b=a
   .exact .inl hb
   .have z':zp K os b≠none:=by
     have e:(if b=a then some (HO.frz { cls:=.type "list",data:=.seq vs.toArray } (.lst (ns.map V.int))) else zp K os b)=zp K os b:=Tt hb;rw[<- e];exact z
    by_cases hc:b∈os
    .exact .inr hc
    .exact absurd (o_ b hc) z'
theorem walk_ofT{l:Dn}{n k:Nat}{q:az}{m6:List Str}{XP:(Str->Option ad)->au->Prop}{YP:ax->au->Prop}{d:DefRec}{K:Params->av}
  (hn:l.most=some n) (tQ:n<=aF) (pW:d.params.defaults=[]) (hr:Room k nY)
  (hY:∀(w:ax) (h:au),YP w h->(K w.params).In h)
  (F:∀(w:ax) (mg:Str->Option ad) (fa:aa) (h:au),(K w.params).In h->h.Ns aH mg->mg d.name=some (.ref fa)->
   ∃(os:List aa) (fd:aD) (sp:Sp),TupsF (K w.params) os/\(∀(s:af) (u:ad),oq s fd ⟨[u],[]⟩ [(x,u)])/\
    (∀(H:Hp) (a:aa) (ns:List Int),ns.length<=n->Kc (K w.params) os H->SqL (jT os (K w.params)) H a (ns.map V.int)->sp [.ref a] H (fun v _=>v=.bl true) fun _ _ _=>False)/\
    ∀base:au,(jT os (K w.params)).In base->base.Ns aH mg->FnOk l.prog w (jT os (K w.params)) mg base CX0 k fa fd [x] sp) :
  Rg q m6 XP YP l.row.toRowW d [] (fun f vs=>HJ f vs):=by
 refine Att.attach_call hn pW fun w s₀ s₁ mg mb fa o pm cd cn a vs ns G Y ho hd cR pM AH AV hlen hg=>?_
 have KX:=hY w _ Y
 obtain⟨os,fd,sp,hs,hb,cQ,hF⟩:=F w mg fa _ KX G.T.g pM
 exact jdA KX hs G.T.g G.T.b G.T.builtins G.T.nolimit hg AH AV (aU hlen tQ) hr hF hb (fun H hT hS=>cQ H a ns hlen hT hS) fun _ _ _ z=>z
section
theorem JT(hs:TupsF K os)(C:aa):og (jT os K) C=og K C:=by unfold og;rw[zc hs]
theorem zF(hs:TupsF K os)(C:aa)(b:ad):cU (jT os K) C b=cU K C b:=by unfold cU;rw[zc hs]
theorem KH(hs:TupsF K os)(N:aa):HQ (jT os K) N=HQ K N:=by
 unfold HQ;rcases hs.or N with e | ⟨e,od,its,n,sl,e2⟩
 .rw[e]
 .rw[e,e2]
theorem KC(hs:TupsF K os)(bm:List ad):∀l:List ad,HP (jT os K) bm l=HP K bm l
 | []=>rfl
 | v :: r=>by
  unfold HP
  cases v with
  | ref a=>
   dsimp only;rcases hs.or a with e | ⟨e,od,its,n,sl,e2⟩
   .rw[e]
    simp only[KH hs,jI hs,KC hs bm r]
   .rw[e,e2]
  | _=>rfl
theorem YI(hs:TupsF K os)(C:aa)(bm:List ad)(i:String):dE (jT os K) C bm i=dE K C bm i:=by
 unfold dE;rcases hs.or C with e | ⟨e,od,its,n,sl,e2⟩
 .rw[e]
  simp only[KH hs,jI hs,KC hs]
 .rw[e,e2]
  simp
theorem zT(hs:TupsF K os)(t c:ad):dD (jT os K) t c=dD K t c:=by
 unfold dD W.kitCls
 cases c with
 | ref a=>
  dsimp only;rw[zc hs,Ju hs];rcases hs.or a with e | ⟨e,od,its,n,sl,e2⟩
  .rw[zL e]
  .have:rY K a=none:=by unfold rY;rw[e2]
   rw[this];rfl
 | type T=>
  dsimp only;rw[Ju hs]
 | _=>rfl
end
end L2
namespace LW
open PySem L2
abbrev jg3(o1:aa)(K:av):Sp:=jgL K o1
variable {P:List ad->Prop}
theorem el0(h:P []):∀us:List ad,us.length=0->P us
 | [],_=>h
theorem el1(h:∀a0,P [a0]):∀us:List ad,us.length=1->P us
 | a :: v,e=>el0 (P:=fun v=>P (a :: v)) (h a) v (sk e)
theorem el2(h:∀a0 a1,P [a0,a1]):∀us:List ad,us.length=2->P us
 | a :: v,e=>el1 (P:=fun v=>P (a :: v)) (h a) v (sk e)
theorem el3(h:∀a0 a1 a2,P [a0,a1,a2]):∀us:List ad,us.length=3->P us
 | a :: v,e=>el2 (P:=fun v=>P (a :: v)) (h a) v (sk e)
theorem el4(h:∀a0 a1 a2 a3,P [a0,a1,a2,a3]):∀us:List ad,us.length=4->P us
 | a :: v,e=>el3 (P:=fun v=>P (a :: v)) (h a) v (sk e)
theorem el5(h:∀a0 a1 a2 a3 a4,P [a0,a1,a2,a3,a4]):∀us:List ad,us.length=5->P us
 | a :: v,e=>el4 (P:=fun v=>P (a :: v)) (h a) v (sk e)
abbrev LkF(K:av)(f:aa)(x n:Str)(st:aA)(oc:ad)(od:Option aa)(kV dc pm:ad)(an:Option aa)(cd ct:ad)(sl:Array (Option ad)):Prop:=K.lookup f=some ⟨oc,od,.func (iF x n (zX st) (qy st) (ji st) .none kV dc pm an cd ct),sl⟩
structure DefK(K:av)(f:aa)(fd:aD)(x:Str)(st:aA):Prop where
 a:aK K aH x=some (some (.ref f))
 u:Fun K x x st f fd
theorem DefK.m{K:av}{f:aa}{x:Str}{st:aA}{oc kV dc pm cd ct:ad}{od an:Option aa}{sl:Array (Option ad)}(a:aK K aH x=some (some (.ref f)))(l:LkF K f x x st oc od kV dc pm an cd ct sl)(c:dj K cd x=true)(k:bQ K (.ref f)=true):DefK K f (iF x x (zX st) (qy st) (ji st) .none kV dc pm an cd ct) x st:=⟨a,Jx l c k⟩
theorem jii{P:az}{w:ax}{K:av}{mg:Str->Option ad}{base h:au}(X:K.In h)(G:h.Ns aH mg){k:Nat}{x:Str}{st:aA}{f:aa}{fd:aD}{ps:List Str}{sp:Sp}(a:DefK K f fd x st)(ok:FnOk P w K mg base CX0 k f fd ps sp)(b:∀(kV cn pm:ad) (an:Option aa) (ay ct:ad) (us:List ad),us.length=ps.length->bindArgs (iF x x (zX st) (qy st) (ji st) .none kV cn pm an ay ct) ⟨us,[]⟩=pure (ps.zip us):=by exact fun _ _ _ _ _ _=>by first | exact el0 rfl | exact el1 fun _=>rfl | exact el2 fun _ _=>rfl | exact el3 fun _ _ _=>rfl | exact el4 fun _ _ _ _=>rfl | exact el5 fun _ _ _ _ _=>rfl ):Fn P w K mg base k x ps sp:=Fn.mk' a.u (a.u.binds b) (cK X G a.a) ok
set_option autoImplicit true in
theorem jhC{l:Dn}{w:ax}{K:av}{h:au}{mg:Str->Option ad}{fa:aa}(X:K.In h)(G:h.Ns aH mg)(AZ:mg "law" = some (.ref fa))
  (a0:DefK K f0 d0 "term_numbers" zd)
  (a1:DefK K f1 d1 "claim_numbers" qR)
  (a2:DefK K f2 d2 "claims_numbers" qw)
  (a3:DefK K f3 d3 "own_claims" zQ)
  (a4:DefK K f4 d4 "numbers_named" qP)
  (a5:DefK K f5 d5 "bodies_of" yw)
  (a6:DefK K f6 d6 "all_statements" ki)
  (a7:DefK K f7 d7 "numbers_of" zk)
  (a8:DefK K f8 d8 "set_to_nought" qO)
  (a9:DefK K f9 d9 "known" yT)
  (i6:DefK K f10 d10 "first_way" zE)
  (vk:DefK K f11 d11 "meet" jcg)
  (vj:DefK K f12 d12 "behind_each" qS)
  (vh:DefK K f13 d13 "turned" KZ)
  (rn:DefK K f14 d14 "walk_if" yS)
  (rm:DefK K f15 d15 "walk_statement" kT)
  (rj:DefK K f16 rg "walk_body" qA)
  (nH:DefK K f17 d17 "duties_of" yu)
  (vf:DefK K f18 d18 "procs_by_name" qd)
  (nG:DefK K f19 d19 "duties" K1)
  (vc:DefK K f20 d20 "more_than" yr)
  (u_:DefK K f21 d21 "at_most" JM)
  (u9:DefK K f22 d22 "entry_of" Jf)
  (u8:DefK K f23 d23 "number_stands_for" kz)
  (uZ:DefK K f24 d24 "spot_of" JI)
  (uY:DefK K f25 d25 "version_of" zj)
  (uX:DefK K f26 d26 "stands_for" zP)
  (uW:DefK K f27 d27 "least_tie" yt)
  (uV:DefK K f28 d28 "deny" jci)
  (uU:DefK K f29 d29 "take_row" yh)
  (uT:DefK K f30 d30 "each_once" q8)
  (uS:DefK K f31 d31 "gathered" Je)
  (uR:DefK K f32 d32 "width" Yk)
  (uQ:DefK K f33 d33 "guarded" yU)
  (uP:DefK K f34 d34 "spot_pairs" qH)
  (uO:DefK K f35 d35 "version_clauses" kq)
  (uN:DefK K f36 d36 "put_clauses" zw)
  (uM:DefK K f37 d37 "each_clauses" zg)
  (uL:DefK K f38 d38 "rise_clauses" ze)
  (uK:DefK K f39 d39 "booked" K3)
  (uJ:DefK K f40 d40 "breaks" K2)
  (uI:DefK K f41 d41 "lower_behind" zf)
  (uH:DefK K f42 d42 "take_in" JH)
  (uG:DefK K f43 d43 "number_of" qZ)
  (uF:DefK K f44 d44 "numbered" Jc)
  (uE:DefK K f45 d45 "named" Z1)
  (uD:DefK K f46 d46 "named_paper" qQ)
  (uC:DefK K f47 d47 "closed" JL)
  (uB:DefK K f48 d48 "heed" jch)
  (uA:DefK K f49 d49 "open_guard" zR)
  (uz:DefK K f50 d50 "gone_on" JJ)
  (uy:DefK K f51 d51 "hold" jaH)
  (ux:DefK K f52 d52 "begun" Ym)
  (uw:DefK K f53 d53 "searched" zA)
  (uv:DefK K f54 d54 "made_rows" qB)
  (uu:DefK K f55 d55 "start_of" qY)
  (nF:DefK K f56 d56 "decided" JK)
  (nE:DefK K f57 d57 "judged" K0)
  (ut:DefK K f58 d58 "_law_cell" jcj)
  (uq:DefK K f59 d59 "_law_ifs" jek)
  (uo:DefK K f60 d60 "_law_reads" Yl)
  (um:DefK K f61 d61 "_law_said" Z0)
  (ul:DefK K f62 d62 "_law_due" jfV)
  (BY:aK K aH "law" = some (some (.ref f63)))
  (y_:LkF K f63 "law" "law" Z2 oc63 od63 kV63 dc63 pm63 an63 cd63 ct63 sl63) (BL:dj K cd63 "law" = true) (Ak:bQ K (.ref f63)=true)
  (BS:aK K aH "Walk" = some (some (.ref C0))) (BX:aG K (.ref C0) "__init__" = some (some (.ref f64))) (As:fN K (.ref f64)=true)
  (x_:LkF K f64 "__init__" "Walk.__init__" qt oc64 od64 kV64 dc64 pm64 an64 cd64 ct64 sl64) (BK:dj K cd64 "Walk.__init__" = true) (Aj:bQ K (.ref f64)=true)
  (BR:aK K aH "Case" = some (some (.ref C1))) (BW:aG K (.ref C1) "__init__" = some (some (.ref f65))) (Ar:fN K (.ref f65)=true)
  (x9:LkF K f65 "__init__" "Case.__init__" qu oc65 od65 kV65 dc65 pm65 an65 cd65 ct65 sl65) (BJ:dj K cd65 "Case.__init__" = true) (Ai:bQ K (.ref f65)=true)
  (BQ:aK K aH "Tally" = some (some (.ref C2))) (BV:aG K (.ref C2) "__init__" = some (some (.ref f66))) (Aq:fN K (.ref f66)=true)
  (x8:LkF K f66 "__init__" "Tally.__init__" kr oc66 od66 kV66 dc66 pm66 an66 cd66 ct66 sl66) (BI:dj K cd66 "Tally.__init__" = true) (Ah:bQ K (.ref f66)=true)
  (BP:aK K aH "Numbering" = some (some (.ref C3))) (BU:aG K (.ref C3) "__init__" = some (some (.ref f67))) (Ap:fN K (.ref f67)=true)
  (xZ:LkF K f67 "__init__" "Numbering.__init__" ku oc67 od67 kV67 dc67 pm67 an67 cd67 ct67 sl67) (BH:dj K cd67 "Numbering.__init__" = true) (Ag:bQ K (.ref f67)=true)
  (BO:aK K aH "Search" = some (some (.ref C4))) (BT:aG K (.ref C4) "__init__" = some (some (.ref f68))) (Ao:fN K (.ref f68)=true)
  (xY:LkF K f68 "__init__" "Search.__init__" kD oc68 od68 kV68 dc68 pm68 an68 cd68 ct68 sl68) (BG:dj K cd68 "Search.__init__" = true) (Af:bQ K (.ref f68)=true)
  (xf:d_ K C0 eR=true) (A_:ef K C0=true) (wZ:eP K C0=true) (wO:aG K (.ref C0) "__setattr__" = some (some (.builtin "object.__setattr__"))) (xT:eQ K C0=true) (Ad:bQ K (.ref C0)=true)
  (xN:aG K (.ref C0) "f" = some none)
  (xM:aG K (.ref C0) "procs" = some none)
  (xL:aG K (.ref C0) "met" = some none)
  (xa:d_ K C1 eR=true) (A9:ef K C1=true) (wY:eP K C1=true) (wN:aG K (.ref C1) "__setattr__" = some (some (.builtin "object.__setattr__"))) (xS:eQ K C1=true) (Ac:bQ K (.ref C1)=true)
  (xK:aG K (.ref C1) "numbers" = some none)
  (xJ:aG K (.ref C1) "versions" = some none)
  (xI:aG K (.ref C1) "named" = some none)
  (xH:aG K (.ref C1) "lost" = some none)
  (xG:aG K (.ref C1) "ties" = some none)
  (xF:aG K (.ref C1) "spots" = some none)
  (xE:aG K (.ref C1) "puts" = some none)
  (xD:aG K (.ref C1) "eaches" = some none)
  (xB:aG K (.ref C1) "rises" = some none)
  (w_:d_ K C2 eR=true) (fD:ef K C2=true) (wX:eP K C2=true) (wM:aG K (.ref C2) "__setattr__" = some (some (.builtin "object.__setattr__"))) (xR:eQ K C2=true) (Ab:bQ K (.ref C2)=true)
  (xA:aG K (.ref C2) "amounts" = some none)
  (xz:aG K (.ref C2) "bounds" = some none)
  (xy:aG K (.ref C2) "taken" = some none)
  (w9:d_ K C3 eR=true) (A8:ef K C3=true) (wW:eP K C3=true) (wL:aG K (.ref C3) "__setattr__" = some (some (.builtin "object.__setattr__"))) (xQ:eQ K C3=true) (Aa:bQ K (.ref C3)=true)
  (xx:aG K (.ref C3) "sources" = some none)
  (xw:aG K (.ref C3) "places" = some none)
  (w8:d_ K C4 eR=true) (A7:ef K C4=true) (wV:eP K C4=true) (wK:aG K (.ref C4) "__setattr__" = some (some (.builtin "object.__setattr__"))) (xP:eQ K C4=true) (z_:bQ K (.ref C4)=true)
  (xu:aG K (.ref C4) "tally" = some none)
  (xt:aG K (.ref C4) "clauses" = some none)
  (xq:aG K (.ref C4) "lacking" = some none)
  (xo:aG K (.ref C4) "hanging" = some none)
  (xn:aG K (.ref C4) "held" = some none)
  {sS sR:Tok} {CT CX CO CN:aa} (BB:aK K aH "MOST_WAYS" = some (some (.int 16 sS))) (BA:aK K aH "MOST_WIDE" = some (some (.int 5 sR))) (BD:aK K aH "TooMany" = some (some (.ref CT))) (BC:aK K aH "TooWide" = some (some (.ref CX))) (BE:aK K aH "OutlineError" = some (some (.ref CO))) (BF:aK K aH "NoName" = some (some (.ref CN))) (wz:dE K CT valB "ValueError.__new__" = true) (wx:dE K CX valB "ValueError.__new__" = true) (y1:og K CT=true) (y2:aG K (.ref CT) "__getattribute__" = some (some (.builtin "BaseException.__getattribute__"))) (y3:aG K (.ref CT) "__getattr__" = some none) (y4:aG K (.ref CT) "__class__" = some (some (.builtin "object.__class__"))) (y5:cU K CT (.type "object")=some true) (y6:cU K CT (.type "BaseException")=some true) (x1:og K CX=true) (x2:aG K (.ref CX) "__getattribute__" = some (some (.builtin "BaseException.__getattribute__"))) (x3:aG K (.ref CX) "__getattr__" = some none) (x4:aG K (.ref CX) "__class__" = some (some (.builtin "object.__class__"))) (x5:cU K CX (.type "object")=some true) (x6:cU K CX (.type "BaseException")=some true) (t1:dD K (.ref CT) (.ref CO)=some true) (t2:dD K (.ref CT) (.ref CX)=some false) (t3:dD K (.ref CX) (.ref CO)=some true) (t4:dD K (.ref CX) (.ref CN)=some false) (hm:cU K CX (.ref CT)=some false) (Bs:aK K aH "NOUGHT" = some (some (.ref o1)))
  (z0:aK K aH "len" = some none) (z1:aK K aH "max" = some none) (z2:aK K aH "min" = some none) (z3:aK K aH "all" = some none) (z4:aK K aH "isinstance" = some none) (z5:aK K aH "abs" = some none) (z6:aK K aH "sorted" = some none) (z7:aK K aH "int" = some none) (z8:aK K aH "str" = some none) (z9:aK K aH "bool" = some none) (ww:aK K aH "tuple" = some none) (wv:aK K aH "list" = some none) (wu:aK K aH "dict" = some none) (wt:aK K aH "range" = some none) (wr:aK K aH "set" = some none) (wq:aK K aH "enumerate" = some none) (wn:aK K aH "repr" = some none) :
  ∃fd:aD,(∀(s:af) (v:ad),oq s fd ⟨[v],[]⟩ [("_law_script",v)])/\∀base:au,K.In base->base.Ns aH mg->FnOk l.prog w K mg base CX0 20 fa fd ["_law_script"] (jg3 o1 K):=by
 have e:=AZ.symm.trans (cK X G BY)
 cases e
 have B:Free0 mg:=⟨dJ X G z0,dJ X G z1,dJ X G z2,dJ X G z3,dJ X G z4,dJ X G z5,dJ X G z6,dJ X G z7,dJ X G z8,dJ X G z9,dJ X G ww,dJ X G wv,dJ X G wu,dJ X G wt,dJ X G wr⟩
 have bJ:mg "enumerate" = none:=dJ X G wq
 have nI:mg "repr" = none:=dJ X G wn
 have gT:mg "MOST_WAYS" = some (.int 16 sS):=cK X G BB
 have vz:mg "MOST_WIDE" = some (.int 5 sR):=cK X G BA
 have mt:mg "TooMany" = some (.ref CT):=cK X G BD
 have vA:mg "TooWide" = some (.ref CX):=cK X G BC
 have Pq:mg "OutlineError" = some (.ref CO):=cK X G BE
 have Pr:mg "NoName" = some (.ref CN):=cK X G BF
 have mj:=wz
 have vm:=wx
 have ZT:PySem.W.XCls K CT:=⟨y1,y2,y3,y4,y5,y6⟩
 have ZX:PySem.W.XCls K CX:=⟨x1,x2,x3,x4,x5,x6⟩
 have G1:=cK X G Bs
 have b6:=a6.u.binds (ps:=["body"]) fun _ _ _ _ _ _=>el1 (fun _=>rfl)
 have b9:=a9.u.binds (ps:=["claims"]) fun _ _ _ _ _ _=>el1 (fun _=>rfl)
 have Pe:=rn.u.binds (ps:=["walk","statement","ways","path"]) fun _ _ _ _ _ _=>el4 (fun _ _ _ _=>rfl)
 have Pd:=rm.u.binds (ps:=["walk","statement","ways","path"]) fun _ _ _ _ _ _=>el4 (fun _ _ _ _=>rfl)
 have Pb:=rj.u.binds (ps:=["walk","body","ways","around"]) fun _ _ _ _ _ _=>el4 (fun _ _ _ _=>rfl)
 have Pa:=nH.u.binds (ps:=["proc","procs"]) fun _ _ _ _ _ _=>el2 (fun _ _=>rfl)
 have O_:=nG.u.binds (ps:=["program"]) fun _ _ _ _ _ _=>el1 (fun _=>rfl)
 have O9:=nF.u.binds (ps:=["rows","goal"]) fun _ _ _ _ _ _=>el2 (fun _ _=>rfl)
 have O8:=nE.u.binds (ps:=["program"]) fun _ _ _ _ _ _=>el1 (fun _=>rfl)
 have Pm:=Jx (st:=Z2) y_ BL Ak
 have GK:=Jx (st:=qt) x_ BK Aj
 have O7:=GK.binds (ps:=["self","f","procs"]) fun _ _ _ _ _ _=>el3 (fun _ _ _=>rfl)
 have GJ:=Jx (st:=qu) x9 BJ Ai
 have O6:=GJ.binds (ps:=["self"]) fun _ _ _ _ _ _=>el1 (fun _=>rfl)
 have GI:=Jx (st:=kr) x8 BI Ah
 have O5:=GI.binds (ps:=["self","count"]) fun _ _ _ _ _ _=>el2 (fun _ _=>rfl)
 have GH:=Jx (st:=ku) xZ BH Ag
 have O4:=GH.binds (ps:=["self"]) fun _ _ _ _ _ _=>el1 (fun _=>rfl)
 have GG:=Jx (st:=kD) xY BG Af
 have O3:=GG.binds (ps:=["self","count","clauses"]) fun _ _ _ _ _ _=>el3 (fun _ _ _=>rfl)
 have vq:ClsW K C0:=⟨⟨xf,A_,wZ,wO⟩,xN,xM,xL⟩
 have eE:ClsC K C1:=⟨⟨xa,A9,wY,wN⟩,xK,xJ,xI,xH,xG,xF,xE,xD,xB⟩
 have rp:ClsT K C2:=⟨⟨w_,fD,wX,wM⟩,xA,xz,xy⟩
 have B3:ClsN K C3:=⟨⟨w9,A8,wW,wL⟩,xx,xw⟩
 have rq:ClsS K C4:=⟨⟨w8,A7,wV,wK⟩,xu,xt,xq,xo,xn⟩
 refine⟨iF "law" "law" (zX Z2) (qy Z2) (ji Z2) .none kV63 dc63 pm63 an63 cd63 ct63,fun s v=>.of_eq rfl,fun base _ _=>?_⟩
 have MK:=@jii l.prog w K mg base h X G
 have i9:=MK a0 (jeL a0.u)
 have CQ:=MK a1 (jdp a1.u i9)
 have nQ:=MK a2 (jbL a2.u CQ)
 have Co:=MK a3 (jhd a3.u)
 have Cr:=MK a4 (jeU a4.u B i9 nQ Co)
 have nR:=MK a5 (jds a5.u)
 have rA:=ZK (P:=l.prog) (w:=w) (base:=base) a6.u b6 (cK X G a6.a) nR 2
 have Cq:=MK a7 (Z8 (n:=2) a7.u B nQ rA Cr)
 have Cg:=MK a8 (jdf a8.u)
 have ix:=MK a9 (jeX a9.u)
 have CG:=MK i6 (jeY (n:=2) i6.u Cq Cg ix)
 have iw:=MK vk (jeV vq vk.u B bJ)
 have gV:=MK vj (jdt vj.u)
 have ir:=MK vh (jdb vh.u)
 have nK:=Yb (P:=l.prog) (w:=w) (base:=base) rj.u Pb (cK X G rj.a) rm.u Pd (cK X G rm.a) rn.u Pe (cK X G rn.a) vq B bJ gT mt mj iw gV (Fn.mk' a9.u b9 (cK X G a9.a) (jdj (P:=l.prog) (w:=w) (base:=base) a9.u)) ir 2
 have B4:MkFn l.prog w K mg base _ "Walk" C0 _ _:=⟨f64,_,⟨xT,BX,As,Ad⟩,jf6 (P:=l.prog) (w:=w) (base:=base) vq GK,O7,cK X G BS⟩
 have CI:=FnX.mk' nH.u Pa (cK X G nH.a) (jaS (P:=l.prog) (w:=w) (base:=base) (n:=2) vq nH.u B4 CG nK iw)
 have Cn:=MK vf (jeR vf.u)
 have CJ:=FnX.mk' nG.u O_ (cK X G nG.a) (jdn (P:=l.prog) (w:=w) (base:=base) (n:=2) nG.u Cn CI)
 have iu:=MK vc (jgd vc.u)
 have i_:=MK u_ (jhj u_.u)
 have my:=MK u9 (jhh u9.u)
 have nM:=MK u8 (jhe eE u8.u)
 have Cf:=MK uZ (jf9 uZ.u nM iu)
 have B_:=MK uY (jhc eE uY.u)
 have mw:=MK uX (jeO eE uX.u nM Cf B_ my)
 have Cz:=MK uW (jdi uW.u mw iu i_)
 have CL:=MK uV (jgj eE uV.u ir Cz)
 have Cb:=MK uU (jf7 eE uU.u iu mw)
 have gU:=MK uT (jgc uT.u B)
 have B8:MkFn l.prog w K mg base _ "Case" C1 _ _:=⟨f65,_,⟨xS,BW,Ar,Ac⟩,jgl (P:=l.prog) (w:=w) (base:=base) eE GJ,O6,cK X G BR⟩
 have nP:=MK uS (jgi eE uS.u B bJ B8 Cb CL gU)
 have B9:=MK uR (jeJ eE uR.u B nP gU)
 have CD:=MK uQ (jdl uQ.u B)
 have Ce:=MK uP (jeS eE uP.u)
 have Ca:=MK uO (jeK eE uO.u Ce i_ my CD)
 have Cm:=MK uN (jeQ eE uN.u)
 have CH:=MK uM (jdm eE uM.u)
 have Cj:=MK uL (jde eE uL.u)
 have CV:=MK uK (jdr eE uK.u nP Ca Cm CH Cj gU)
 have CU:=MK uJ (jdq uJ.u)
 have Cy:=MK uI (jeW rp uI.u B)
 have Cc:=MK uH (jdc rp uH.u CU Cy)
 have mx:=MK uG (jeT B3 uG.u B nI)
 have Ct:=MK uF (jaR uF.u mx)
 have Cv:=MK uE (jdg uE.u)
 have Cu:=MK uD (jdh uD.u Cv)
 have CP:=MK uC (jdo uC.u)
 have nO:=MK uB (jgg uB.u)
 have Cp:=MK uA (jgb rq rp uA.u B bJ)
 have CF:=MK uz (jgh uz.u Cp)
 have CC:=MK uy (jgf rq uy.u Cc nO)
 have CY:=MK ux (je0 rq ux.u bJ nO CC CP CF)
 have B7:MkFn l.prog w K mg base _ "Numbering" C3 _ _:=⟨f67,_,⟨xQ,BU,Ap,Aa⟩,Z9 (P:=l.prog) (w:=w) (base:=base) B3 GH,O4,cK X G BP⟩
 have B5:MkFn l.prog w K mg base _ "Tally" C2 _ _:=⟨f66,_,⟨xR,BV,Aq,Ab⟩,jeM (P:=l.prog) (w:=w) (base:=base) rp GI B,O5,cK X G BQ⟩
 have B6:MkFn l.prog w K mg base _ "Search" C4 _ _:=⟨f68,_,⟨xP,BT,Ao,z_⟩,jdd (P:=l.prog) (w:=w) (base:=base) rq GG B bJ B5,O3,cK X G BO⟩
 have Ch:=MK uw (jaQ B3 rq rp G1 uw.u B bJ B7 B6 mx Ct CY Cu)
 have Cw:=MK uv (jge uv.u B nI)
 have Cd:=MK uu (jeN uu.u B bJ Cw)
 have CM:=FnX.mk' nF.u O9 (cK X G nF.a) (jbK (P:=l.prog) (w:=w) (base:=base) nF.u vz vA vm B9 CV Ch Cd)
 have nN:=FnX.mk' nE.u O8 (cK X G nE.a) (jdk (P:=l.prog) (w:=w) (base:=base) nE.u bJ CJ CM)
 have vB:=MK ut (jgk ut.u B)
 have CB:=MK uq (jhg uq.u B)
 have Ck:=MK uo (jeP uo.u B)
 have Ci:=MK um (jga um.u B mt vA Pq Pr mj vm ZT ZX t1 t2 t3 t4 hm nN)
 have CK:=MK ul (jhi ul.u)
 exact jhf Pm B vB CB Ck CK Ci nN
theorem DefK.drop{K:av}{os:List aa}(hs:TupsF K os){f:aa}{fd:aD}{x:Str}{st:aA}(a:DefK K f fd x st):DefK (jT os K) f fd x st:=⟨(jI hs _ _).trans a.a,a.u.drop hs⟩
set_option autoImplicit true in
theorem all_mk2{l:Dn}{w:ax}{K:av}{h:au}{mg:Str->Option ad}{fa:aa}(X:K.In h)(G:h.Ns aH mg)(AZ:mg "law" = some (.ref fa))
  (a0:DefK K f0 d0 "term_numbers" zd)
  (a1:DefK K f1 d1 "claim_numbers" qR)
  (a2:DefK K f2 d2 "claims_numbers" qw)
  (a3:DefK K f3 d3 "own_claims" zQ)
  (a4:DefK K f4 d4 "numbers_named" qP)
  (a5:DefK K f5 d5 "bodies_of" yw)
  (a6:DefK K f6 d6 "all_statements" ki)
  (a7:DefK K f7 d7 "numbers_of" zk)
  (a8:DefK K f8 d8 "set_to_nought" qO)
  (a9:DefK K f9 d9 "known" yT)
  (i6:DefK K f10 d10 "first_way" zE)
  (vk:DefK K f11 d11 "meet" jcg)
  (vj:DefK K f12 d12 "behind_each" qS)
  (vh:DefK K f13 d13 "turned" KZ)
  (rn:DefK K f14 d14 "walk_if" yS)
  (rm:DefK K f15 d15 "walk_statement" kT)
  (rj:DefK K f16 rg "walk_body" qA)
  (nH:DefK K f17 d17 "duties_of" yu)
  (vf:DefK K f18 d18 "procs_by_name" qd)
  (nG:DefK K f19 d19 "duties" K1)
  (vc:DefK K f20 d20 "more_than" yr)
  (u_:DefK K f21 d21 "at_most" JM)
  (u9:DefK K f22 d22 "entry_of" Jf)
  (u8:DefK K f23 d23 "number_stands_for" kz)
  (uZ:DefK K f24 d24 "spot_of" JI)
  (uY:DefK K f25 d25 "version_of" zj)
  (uX:DefK K f26 d26 "stands_for" zP)
  (uW:DefK K f27 d27 "least_tie" yt)
  (uV:DefK K f28 d28 "deny" jci)
  (uU:DefK K f29 d29 "take_row" yh)
  (uT:DefK K f30 d30 "each_once" q8)
  (uS:DefK K f31 d31 "gathered" Je)
  (uR:DefK K f32 d32 "width" Yk)
  (uQ:DefK K f33 d33 "guarded" yU)
  (uP:DefK K f34 d34 "spot_pairs" qH)
  (uO:DefK K f35 d35 "version_clauses" kq)
  (uN:DefK K f36 d36 "put_clauses" zw)
  (uM:DefK K f37 d37 "each_clauses" zg)
  (uL:DefK K f38 d38 "rise_clauses" ze)
  (uK:DefK K f39 d39 "booked" K3)
  (uJ:DefK K f40 d40 "breaks" K2)
  (uI:DefK K f41 d41 "lower_behind" zf)
  (uH:DefK K f42 d42 "take_in" JH)
  (uG:DefK K f43 d43 "number_of" qZ)
  (uF:DefK K f44 d44 "numbered" Jc)
  (uE:DefK K f45 d45 "named" Z1)
  (uD:DefK K f46 d46 "named_paper" qQ)
  (uC:DefK K f47 d47 "closed" JL)
  (uB:DefK K f48 d48 "heed" jch)
  (uA:DefK K f49 d49 "open_guard" zR)
  (uz:DefK K f50 d50 "gone_on" JJ)
  (uy:DefK K f51 d51 "hold" jaH)
  (ux:DefK K f52 d52 "begun" Ym)
  (uw:DefK K f53 d53 "searched" zA)
  (uv:DefK K f54 d54 "made_rows" qB)
  (uu:DefK K f55 d55 "start_of" qY)
  (nF:DefK K f56 d56 "decided" JK)
  (nE:DefK K f57 d57 "judged" K0)
  (ut:DefK K f58 d58 "_law_cell" jcj)
  (uq:DefK K f59 d59 "_law_ifs" jek)
  (uo:DefK K f60 d60 "_law_reads" Yl)
  (um:DefK K f61 d61 "_law_said" Z0)
  (ul:DefK K f62 d62 "_law_due" jfV)
  (BY:aK K aH "law" = some (some (.ref f63)))
  (y_:LkF K f63 "law" "law" Z2 oc63 od63 kV63 dc63 pm63 an63 cd63 ct63 sl63) (BL:dj K cd63 "law" = true) (Ak:bQ K (.ref f63)=true)
  (BS:aK K aH "Walk" = some (some (.ref C0))) (BX:aG K (.ref C0) "__init__" = some (some (.ref f64))) (As:fN K (.ref f64)=true)
  (x_:LkF K f64 "__init__" "Walk.__init__" qt oc64 od64 kV64 dc64 pm64 an64 cd64 ct64 sl64) (BK:dj K cd64 "Walk.__init__" = true) (Aj:bQ K (.ref f64)=true)
  (BR:aK K aH "Case" = some (some (.ref C1))) (BW:aG K (.ref C1) "__init__" = some (some (.ref f65))) (Ar:fN K (.ref f65)=true)
  (x9:LkF K f65 "__init__" "Case.__init__" qu oc65 od65 kV65 dc65 pm65 an65 cd65 ct65 sl65) (BJ:dj K cd65 "Case.__init__" = true) (Ai:bQ K (.ref f65)=true)
  (BQ:aK K aH "Tally" = some (some (.ref C2))) (BV:aG K (.ref C2) "__init__" = some (some (.ref f66))) (Aq:fN K (.ref f66)=true)
  (x8:LkF K f66 "__init__" "Tally.__init__" kr oc66 od66 kV66 dc66 pm66 an66 cd66 ct66 sl66) (BI:dj K cd66 "Tally.__init__" = true) (Ah:bQ K (.ref f66)=true)
  (BP:aK K aH "Numbering" = some (some (.ref C3))) (BU:aG K (.ref C3) "__init__" = some (some (.ref f67))) (Ap:fN K (.ref f67)=true)
  (xZ:LkF K f67 "__init__" "Numbering.__init__" ku oc67 od67 kV67 dc67 pm67 an67 cd67 ct67 sl67) (BH:dj K cd67 "Numbering.__init__" = true) (Ag:bQ K (.ref f67)=true)
  (BO:aK K aH "Search" = some (some (.ref C4))) (BT:aG K (.ref C4) "__init__" = some (some (.ref f68))) (Ao:fN K (.ref f68)=true)
  (xY:LkF K f68 "__init__" "Search.__init__" kD oc68 od68 kV68 dc68 pm68 an68 cd68 ct68 sl68) (BG:dj K cd68 "Search.__init__" = true) (Af:bQ K (.ref f68)=true)
  (xf:d_ K C0 eR=true) (A_:ef K C0=true) (wZ:eP K C0=true) (wO:aG K (.ref C0) "__setattr__" = some (some (.builtin "object.__setattr__"))) (xT:eQ K C0=true) (Ad:bQ K (.ref C0)=true)
  (xN:aG K (.ref C0) "f" = some none)
  (xM:aG K (.ref C0) "procs" = some none)
  (xL:aG K (.ref C0) "met" = some none)
  (xa:d_ K C1 eR=true) (A9:ef K C1=true) (wY:eP K C1=true) (wN:aG K (.ref C1) "__setattr__" = some (some (.builtin "object.__setattr__"))) (xS:eQ K C1=true) (Ac:bQ K (.ref C1)=true)
  (xK:aG K (.ref C1) "numbers" = some none)
  (xJ:aG K (.ref C1) "versions" = some none)
  (xI:aG K (.ref C1) "named" = some none)
  (xH:aG K (.ref C1) "lost" = some none)
  (xG:aG K (.ref C1) "ties" = some none)
  (xF:aG K (.ref C1) "spots" = some none)
  (xE:aG K (.ref C1) "puts" = some none)
  (xD:aG K (.ref C1) "eaches" = some none)
  (xB:aG K (.ref C1) "rises" = some none)
  (w_:d_ K C2 eR=true) (fD:ef K C2=true) (wX:eP K C2=true) (wM:aG K (.ref C2) "__setattr__" = some (some (.builtin "object.__setattr__"))) (xR:eQ K C2=true) (Ab:bQ K (.ref C2)=true)
  (xA:aG K (.ref C2) "amounts" = some none)
  (xz:aG K (.ref C2) "bounds" = some none)
  (xy:aG K (.ref C2) "taken" = some none)
  (w9:d_ K C3 eR=true) (A8:ef K C3=true) (wW:eP K C3=true) (wL:aG K (.ref C3) "__setattr__" = some (some (.builtin "object.__setattr__"))) (xQ:eQ K C3=true) (Aa:bQ K (.ref C3)=true)
  (xx:aG K (.ref C3) "sources" = some none)
  (xw:aG K (.ref C3) "places" = some none)
  (w8:d_ K C4 eR=true) (A7:ef K C4=true) (wV:eP K C4=true) (wK:aG K (.ref C4) "__setattr__" = some (some (.builtin "object.__setattr__"))) (xP:eQ K C4=true) (z_:bQ K (.ref C4)=true)
  (xu:aG K (.ref C4) "tally" = some none)
  (xt:aG K (.ref C4) "clauses" = some none)
  (xq:aG K (.ref C4) "lacking" = some none)
  (xo:aG K (.ref C4) "hanging" = some none)
  (xn:aG K (.ref C4) "held" = some none)
  {sS sR:Tok} {CT CX CO CN:aa} (BB:aK K aH "MOST_WAYS" = some (some (.int 16 sS))) (BA:aK K aH "MOST_WIDE" = some (some (.int 5 sR))) (BD:aK K aH "TooMany" = some (some (.ref CT))) (BC:aK K aH "TooWide" = some (some (.ref CX))) (BE:aK K aH "OutlineError" = some (some (.ref CO))) (BF:aK K aH "NoName" = some (some (.ref CN))) (wz:dE K CT valB "ValueError.__new__" = true) (wx:dE K CX valB "ValueError.__new__" = true) (y1:og K CT=true) (y2:aG K (.ref CT) "__getattribute__" = some (some (.builtin "BaseException.__getattribute__"))) (y3:aG K (.ref CT) "__getattr__" = some none) (y4:aG K (.ref CT) "__class__" = some (some (.builtin "object.__class__"))) (y5:cU K CT (.type "object")=some true) (y6:cU K CT (.type "BaseException")=some true) (x1:og K CX=true) (x2:aG K (.ref CX) "__getattribute__" = some (some (.builtin "BaseException.__getattribute__"))) (x3:aG K (.ref CX) "__getattr__" = some none) (x4:aG K (.ref CX) "__class__" = some (some (.builtin "object.__class__"))) (x5:cU K CX (.type "object")=some true) (x6:cU K CX (.type "BaseException")=some true) (t1:dD K (.ref CT) (.ref CO)=some true) (t2:dD K (.ref CT) (.ref CX)=some false) (t3:dD K (.ref CX) (.ref CO)=some true) (t4:dD K (.ref CX) (.ref CN)=some false) (hm:cU K CX (.ref CT)=some false) (Bs:aK K aH "NOUGHT" = some (some (.ref o1)))
  (z0:aK K aH "len" = some none) (z1:aK K aH "max" = some none) (z2:aK K aH "min" = some none) (z3:aK K aH "all" = some none) (z4:aK K aH "isinstance" = some none) (z5:aK K aH "abs" = some none) (z6:aK K aH "sorted" = some none) (z7:aK K aH "int" = some none) (z8:aK K aH "str" = some none) (z9:aK K aH "bool" = some none) (ww:aK K aH "tuple" = some none) (wv:aK K aH "list" = some none) (wu:aK K aH "dict" = some none) (wt:aK K aH "range" = some none) (wr:aK K aH "set" = some none) (wq:aK K aH "enumerate" = some none) (wn:aK K aH "repr" = some none)
  (GL:K.lookup o1=some ⟨.type "tuple",odo1,.seq #[.str "nought" to10] no1,slo1⟩) :
  ∃(os:List aa) (fd:aD) (sp:Sp),TupsF K os/\(∀(s:af) (u:ad),oq s fd ⟨[u],[]⟩ [("_law_script",u)])/\(∀(H:Hp) (a:aa) (ns:List Int),ns.length<=63->Kc K os H->SqL (jT os K) H a (ns.map V.int)->sp [.ref a] H (fun v _=>v=.bl true) fun _ _ _=>False)/\∀base:au,(jT os K).In base->base.Ns aH mg->FnOk l.prog w (jT os K) mg base CX0 20 fa fd ["_law_script"] sp:=by
 have hs:TupsF K [o1]:=fun b hb=>by
  simp only[aN,eV,or_false]at hb;rcases hb with rfl
  .exact⟨_,_,_,_,GL,aw rfl,(.cons ⟨_,rfl⟩ .nil)⟩
 obtain⟨fd,h1,h2⟩:=jhC (K:=jT [o1] K) (jdQ X) G AZ (DefK.drop hs a0) (DefK.drop hs a1) (DefK.drop hs a2) (DefK.drop hs a3) (DefK.drop hs a4) (DefK.drop hs a5) (DefK.drop hs a6) (DefK.drop hs a7) (DefK.drop hs a8) (DefK.drop hs a9) (DefK.drop hs i6) (DefK.drop hs vk) (DefK.drop hs vj) (DefK.drop hs vh) (DefK.drop hs rn) (DefK.drop hs rm) (DefK.drop hs rj) (DefK.drop hs nH) (DefK.drop hs vf) (DefK.drop hs nG) (DefK.drop hs vc) (DefK.drop hs u_) (DefK.drop hs u9) (DefK.drop hs u8) (DefK.drop hs uZ) (DefK.drop hs uY) (DefK.drop hs uX) (DefK.drop hs uW) (DefK.drop hs uV) (DefK.drop hs uU) (DefK.drop hs uT) (DefK.drop hs uS) (DefK.drop hs uR) (DefK.drop hs uQ) (DefK.drop hs uP) (DefK.drop hs uO) (DefK.drop hs uN) (DefK.drop hs uM) (DefK.drop hs uL) (DefK.drop hs uK) (DefK.drop hs uJ) (DefK.drop hs uI) (DefK.drop hs uH) (DefK.drop hs uG) (DefK.drop hs uF) (DefK.drop hs uE) (DefK.drop hs uD) (DefK.drop hs uC) (DefK.drop hs uB) (DefK.drop hs uA) (DefK.drop hs uz) (DefK.drop hs uy) (DefK.drop hs ux) (DefK.drop hs uw) (DefK.drop hs uv) (DefK.drop hs uu) (DefK.drop hs nF) (DefK.drop hs nE) (DefK.drop hs ut) (DefK.drop hs uq) (DefK.drop hs uo) (DefK.drop hs um) (DefK.drop hs ul) ((jI hs _ _).trans BY) (zb hs y_) ((qi hs _ _).trans BL) ((ke hs _).trans Ak) ((jI hs _ _).trans BS) ((ju hs _ _).trans BX) ((yk hs _).trans As) (zb hs x_) ((qi hs _ _).trans BK) ((ke hs _).trans Aj) ((jI hs _ _).trans BR) ((ju hs _ _).trans BW) ((yk hs _).trans Ar) (zb hs x9) ((qi hs _ _).trans BJ) ((ke hs _).trans Ai) ((jI hs _ _).trans BQ) ((ju hs _ _).trans BV) ((yk hs _).trans Aq) (zb hs x8) ((qi hs _ _).trans BI) ((ke hs _).trans Ah) ((jI hs _ _).trans BP) ((ju hs _ _).trans BU) ((yk hs _).trans Ap) (zb hs xZ) ((qi hs _ _).trans BH) ((ke hs _).trans Ag) ((jI hs _ _).trans BO) ((ju hs _ _).trans BT) ((yk hs _).trans Ao) (zb hs xY) ((qi hs _ _).trans BG) ((ke hs _).trans Af) ((qv hs _ _).trans xf) ((qh hs _).trans A_) ((qe hs _).trans wZ) ((ju hs _ _).trans wO) ((qT hs _).trans xT) ((ke hs _).trans Ad) ((ju hs _ _).trans xN) ((ju hs _ _).trans xM) ((ju hs _ _).trans xL) ((qv hs _ _).trans xa) ((qh hs _).trans A9) ((qe hs _).trans wY) ((ju hs _ _).trans wN) ((qT hs _).trans xS) ((ke hs _).trans Ac) ((ju hs _ _).trans xK) ((ju hs _ _).trans xJ) ((ju hs _ _).trans xI) ((ju hs _ _).trans xH) ((ju hs _ _).trans xG) ((ju hs _ _).trans xF) ((ju hs _ _).trans xE) ((ju hs _ _).trans xD) ((ju hs _ _).trans xB) ((qv hs _ _).trans w_) ((qh hs _).trans fD) ((qe hs _).trans wX) ((ju hs _ _).trans wM) ((qT hs _).trans xR) ((ke hs _).trans Ab) ((ju hs _ _).trans xA) ((ju hs _ _).trans xz) ((ju hs _ _).trans xy) ((qv hs _ _).trans w9) ((qh hs _).trans A8) ((qe hs _).trans wW) ((ju hs _ _).trans wL) ((qT hs _).trans xQ) ((ke hs _).trans Aa) ((ju hs _ _).trans xx) ((ju hs _ _).trans xw) ((qv hs _ _).trans w8) ((qh hs _).trans A7) ((qe hs _).trans wV) ((ju hs _ _).trans wK) ((qT hs _).trans xP) ((ke hs _).trans z_) ((ju hs _ _).trans xu) ((ju hs _ _).trans xt) ((ju hs _ _).trans xq) ((ju hs _ _).trans xo) ((ju hs _ _).trans xn) ((jI hs _ _).trans BB) ((jI hs _ _).trans BA) ((jI hs _ _).trans BD) ((jI hs _ _).trans BC) ((jI hs _ _).trans BE) ((jI hs _ _).trans BF) ((YI hs _ _ _).trans wz) ((YI hs _ _ _).trans wx) ((JT hs _).trans y1) ((ju hs _ _).trans y2) ((ju hs _ _).trans y3) ((ju hs _ _).trans y4) ((zF hs _ _).trans y5) ((zF hs _ _).trans y6) ((JT hs _).trans x1) ((ju hs _ _).trans x2) ((ju hs _ _).trans x3) ((ju hs _ _).trans x4) ((zF hs _ _).trans x5) ((zF hs _ _).trans x6) ((zT hs _ _).trans t1) ((zT hs _ _).trans t2) ((zT hs _ _).trans t3) ((zT hs _ _).trans t4) ((zF hs _ _).trans hm) ((jI hs _ _).trans Bs) ((jI hs _ _).trans z0) ((jI hs _ _).trans z1) ((jI hs _ _).trans z2) ((jI hs _ _).trans z3) ((jI hs _ _).trans z4) ((jI hs _ _).trans z5) ((jI hs _ _).trans z6) ((jI hs _ _).trans z7) ((jI hs _ _).trans z8) ((jI hs _ _).trans z9) ((jI hs _ _).trans ww) ((jI hs _ _).trans wv) ((jI hs _ _).trans wu) ((jI hs _ _).trans wt) ((jI hs _ _).trans wr) ((jI hs _ _).trans wq) ((jI hs _ _).trans wn)
 exact⟨_,fd,_,hs,h1,fun H a ns hl hT hS=>⟨a,ns,rfl,hS,hl,(kc (hT o1 (by simp) _ _ _ _ GL) (jo j4 jx)),fun _=>rfl⟩,h2⟩
theorem walk{l:Dn}{q:az}{m6:List Str}{XP:(Str->Option ad)->au->Prop}{YP:ax->au->Prop}{d:DefRec}{K:Params->av}(hn:l.most=some 63)(pW:d.params.defaults=[])
  (hY:∀(w:ax) (h:au),YP w h->(K w.params).In h)
  (F:∀(w:ax) (mg:Str->Option ad) (fa:aa) (h:au),(K w.params).In h->h.Ns aH mg->mg d.name=some (.ref fa)->
   ∃(os:List aa) (fd:aD) (sp:Sp),TupsF (K w.params) os/\(∀(s:af) (u:ad),oq s fd ⟨[u],[]⟩ [("_law_script",u)])/\(∀(H:Hp) (a:aa) (ns:List Int),ns.length<=63->Kc (K w.params) os H->SqL (jT os (K w.params)) H a (ns.map V.int)->sp [.ref a] H (fun v _=>v=.bl true) fun _ _ _=>False)/\∀base:au,(jT os (K w.params)).In base->base.Ns aH mg->FnOk l.prog w (jT os (K w.params)) mg base CX0 20 fa fd ["_law_script"] sp) :
  Rg q m6 XP YP l.row.toRowW d [] (fun f vs=>HJ f vs):=
 L2.walk_ofT (n:=63) (k:=20) (x:="_law_script") hn (by decide) pW ⟨rfl,by decide,by decide,rfl⟩ hY F
end LW
namespace PySem.W.Fast
def tw10129155605681331076:=()
def tw1014750799118047228:=()
def tw10154800341264007010:=()
def tw10316873271789229854:=()
def tw10337536214974334759:=()
def tw10501658565143511577:=()
def tw10691560415547392950:=()
def tw10695169058196892395:=()
def tw10711755728872806516:=()
def tw10722440887983451157:=()
def tw10744629980617410923:=()
def tw10746617933197334927:=()
def tw10868705090179940708:=()
def tw11010182369688412962:=()
def tw11148014992589973710:=()
def tw1121543099182317868:=()
def tw11240946941132601360:=()
def tw11318644726744606411:=()
def tw11369487881361778619:=()
def tw11443421739496394030:=()
def tw11477030536087171134:=()
def tw11498006964496577156:=()
def tw115237189457157939:=()
def tw11552662700792183683:=()
def tw11631266927266057469:=()
def tw11638348984498534507:=()
def tw11824306239637587882:=()
def tw11842639808388172091:=()
def tw11953988445760177413:=()
def tw11975780080234373097:=()
def tw12163946373025751552:=()
def tw12197116856315777005:=()
def tw12316295773191469896:=()
def tw12411719274035613669:=()
def tw12453781371596625000:=()
def tw1248607192163488744:=()
def tw12575328980423563358:=()
def tw12686640357219135885:=()
def tw12689279184588349246:=()
def tw12765000708891961289:=()
def tw12895695443179953840:=()
def tw12913991014774161984:=()
def tw13080172463378984253:=()
def tw13279698080854319333:=()
def tw13283888970074417435:=()
def tw13478457540153824444:=()
def tw13493770764014791433:=()
def tw13551142951781290019:=()
def tw13560664705336042283:=()
def tw13640294318584661246:=()
def tw13830713373528412390:=()
def tw14015109029387254552:=()
def tw14020530006467378116:=()
def tw14046913408673312510:=()
def tw14064083940189678471:=()
def tw14122890285243886051:=()
def tw14232145066148790378:=()
def tw14306075515747117558:=()
def tw14333950908796820973:=()
def tw14496108710895849591:=()
def tw14518995687747961464:=()
def tw14577990039893109390:=()
def tw14709412013735068983:=()
def tw14922831051396270475:=()
def tw14965647802147302586:=()
def tw1506609339029404669:=()
def tw15067623474023870335:=()
def tw15105705755104576447:=()
def tw15277989468104468091:=()
def tw15379105560390594341:=()
def tw15467573893507753235:=()
def tw15640094110292408994:=()
def tw15651285990086460986:=()
def tw15656802746808625378:=()
def tw15722565197270187088:=()
def tw15808869251853364632:=()
def tw15874527746817612855:=()
def tw1591413660027946412:=()
def tw15936021547754678341:=()
def tw1595016107018997308:=()
def tw15972248441620796782:=()
def tw15983056850801819051:=()
def tw16046536442209220218:=()
def tw16057405048724722457:=()
def tw16094582200106204821:=()
def tw1613647112629855155:=()
def tw16226486490184273760:=()
def tw16231461224707985897:=()
def tw16237789028222698080:=()
def tw16293914787296867677:=()
def tw16311899438506844760:=()
def tw16319753810217327175:=()
def tw16325976866165988790:=()
def tw16440828379724075137:=()
def tw16447778367012517155:=()
def tw16500275632960618753:=()
def tw1654711521262790515:=()
def tw16591732297281364688:=()
def tw1666934816432929853:=()
def tw16736014267705345637:=()
def tw16858833536324057552:=()
def tw16913558847878580507:=()
def tw16938323362275330124:=()
def tw170911008512791943:=()
def tw17120424285785457742:=()
def tw1714716692328184779:=()
def tw17176385404045699896:=()
def tw1723965764416880143:=()
def tw17288119812320044858:=()
def tw17317880469825853414:=()
def tw1733627163293330528:=()
def tw1738400397288782610:=()
def tw17474428740978386960:=()
def tw17528546541740205918:=()
def tw17581658559613864860:=()
def tw17623741767550862238:=()
def tw17637299541613313569:=()
def tw17711983223967669469:=()
def tw17793447683037271534:=()
def tw17858730290052191726:=()
def tw17860458072980180105:=()
def tw17906868572494623909:=()
def tw17929849119879312775:=()
def tw17963855798979194417:=()
def tw18024821565812404209:=()
def tw18028514099456888863:=()
def tw18112770912091983674:=()
def tw18184863804699930304:=()
def tw18216569874649184095:=()
def tw18278396686986562071:=()
def tw18307756928693376279:=()
def tw18437966546686894998:=()
def tw1856916183891889298:=()
def tw1893722939157189927:=()
def tw195885243496828386:=()
def tw2032784785055540061:=()
def tw2075586018771124102:=()
def tw2200698038266918201:=()
def tw239494791705773808:=()
def tw2414877688933134472:=()
def tw2431831760379635832:=()
def tw2555766285655671517:=()
def tw2557197448683566958:=()
def tw2630424509845268000:=()
def tw2689645799225102544:=()
def tw280020570205784789:=()
def tw2814326877269772343:=()
def tw2948419841907278825:=()
def tw2961829846211050977:=()
def tw2977375061190564231:=()
def tw3004069216226070281:=()
def tw3065441804464826477:=()
def tw3069143623139709608:=()
def tw3075539562732661475:=()
def tw3118873850212498833:=()
def tw3151857734288147426:=()
def tw3169658979752072417:=()
def tw3255899854099677819:=()
def tw3301721767246051932:=()
def tw3367924232174713485:=()
def tw3380681995467237599:=()
def tw3417977261441768120:=()
def tw3454522514778442322:=()
def tw3557807998316778329:=()
def tw3590696643340977643:=()
def tw3609912129637690167:=()
def tw3616442637411603284:=()
def tw3618934277800221072:=()
def tw3793703953459611700:=()
def tw3805920005644842807:=()
def tw3923221032127591529:=()
def tw401728070534564367:=()
def tw4048755878110319555:=()
def tw4173541085095704309:=()
def tw4175311799879669567:=()
def tw4269185474820513987:=()
def tw434212547937748626:=()
def tw4428417454199613721:=()
def tw4482254004517737834:=()
def tw4495369665502194593:=()
def tw4634526030606942108:=()
def tw4908371754088151129:=()
def tw4915715828471013392:=()
def tw4947145004322308897:=()
def tw504539330312309714:=()
def tw5045533103446684810:=()
def tw5110391059556360596:=()
def tw5115877520179874500:=()
def tw5124089818473235335:=()
def tw5129100912492454457:=()
def tw5166558643732464524:=()
def tw5295161771819930314:=()
def tw5346856157069485051:=()
def tw5357181201080273416:=()
def tw5371664676971154313:=()
def tw5373789188701531448:=()
def tw552230757178457292:=()
def tw5554382884357088279:=()
def tw5653879409536560532:=()
def tw5767692409218390694:=()
def tw5786682934597829627:=()
def tw5853333805458380904:=()
def tw586885467011641702:=()
def tw5886280872228690283:=()
def tw6026345414690439942:=()
def tw6029257361963780611:=()
def tw6068802302396764577:=()
def tw6142701706587212135:=()
def tw6246689365500655471:=()
def tw6248081535190770554:=()
def tw6384401779037692520:=()
def tw6444076558293693982:=()
def tw6496730189097118050:=()
def tw6497974499211807637:=()
def tw6539903413001272150:=()
def tw6648917482007804262:=()
def tw6694379386217534183:=()
def tw68723366607705480:=()
def tw6887800628497945951:=()
def tw6924776649789803597:=()
def tw7025218015707952107:=()
def tw7080901263221453935:=()
def tw7254304534407993145:=()
def tw7354937453553595964:=()
def tw7472524859463954419:=()
def tw7480513818927430515:=()
def tw759669492295973278:=()
def tw7679254677156400473:=()
def tw7727364966488741292:=()
def tw7784253699052263510:=()
def tw7949136113806798153:=()
def tw7957256030604550385:=()
def tw8074964904943059647:=()
def tw8078142796707961179:=()
def tw8138437475160103577:=()
def tw8255433617134741236:=()
def tw8316661440000815169:=()
def tw8332628251229034669:=()
def tw8365786977646208190:=()
def tw8400692198204312225:=()
def tw8536160243649752166:=()
def tw8571624989051265739:=()
def tw858340857298370092:=()
def tw8700605464683116377:=()
def tw8764776329745587164:=()
def tw8893980633188352470:=()
def tw8919588128821671035:=()
def tw8922635866744868984:=()
def tw8965511780917562747:=()
def tw8986660676920187382:=()
def tw9003005014005040454:=()
def tw908551256172188569:=()
def tw9133607202133062666:=()
def tw9152697175354594485:=()
def tw917328704638997572:=()
def tw9229724117844614463:=()
def tw926078100451860075:=()
def tw9336321020872580450:=()
def tw9367622734652363292:=()
def tw9487938727298412845:=()
def tw9535536413975326835:=()
def tw9574547110484722712:=()
def tw9621902937686616999:=()
def tw9646317371900190189:=()
def tw9662237834350776869:=()
def tw9803514815428538266:=()
def tw9860806011048140299:=()
end PySem.W.Fast
open PySem PySem.W PyProof.Rows
set_option maxRecDepth 100000 in
set_option maxHeartbeats 0 in
theorem PySem.Challenge.cw_outlineward_k66_what_comes_first_holds : PySem.Challenge.rw_outlineward_k66_what_comes_first.Holds := by
 w_on;o_law;k_head;(case hw=>w_witness2);k_fill;refine LW.walk (l:=RT) rfl rfl (fun w h Y=>W.kIn_of Y) ?F
 case F=>
  intro w mg fa h KX G pM
  refine' LW.all_mk2 KX G pM ..
  all_goals try apply LW.DefK.m
  all_goals try ((try unfold LW.LkF);first | k_is | kit_is | (unfold L2.valB;k_exc) | rfl | kernel_rfl | decide +kernel)
