import PyProof.Rows.All
import Wide.All
import OpenK.AllK
import Wide.FinOn
import Lean
import PyProof.EqAt
import PyProof.EqKinds
import PyProof.TupleCall
import PyProof.NeKinds
import KE.KEqDict
import KE.KDictSum
import PyProof.Rows.StrMul
import PyProof.Rows.SortStr
import PyProof.Rows.SortWalk
import KE.KSortTup
import PyProof.IsiH_list
import KE.KDictOf
import KE.KItemsList
import PyProof.SetKind
import PyProof.Rows.SetFrom
import PyProof.IsRules
import PyProof.EnumStmt
import PyProof.EnumFor
import PyProof.EnumMake
import PyProof.Rows.StrJoin2
import KE.KDictList
import PyProof.StrLawsJoin
import PyProof.ZipIter
import PyProof.DictCompW
import PyProof.DictUpdate
import PyProof.Rows.SortShellK
import PyProof.TupleKey
import PyProof.SeqI3
import PySem.Challenge.RW_outlineward_k71_procedures_gone_through
set_option Elab.async false
set_option linter.all false
set_option maxRecDepth 100000
set_option maxHeartbeats 4000000
local macro_rules | `(tactic| omega) => `(tactic| first | lia | omega +splitNatSub)
def Qc:=@of_decide_eq_true
def Qd:=@decide_eq_true
def Qe:=@decide_eq_false
def Qf:=@if_neg
def Qg:=@if_pos
def Qh:=@beq_eq_false_iff_ne
def Qi:=@congrArg
open _root_.Array renaming length_toList->fL,getD->mM,toList_append->rH,getElem?_eq_getElem->rJ,forIn_toList->y_,toList_push->Fa,toList->P9,toArray_toList->P_
open _root_.Bool renaming false_ne_true->bB,and_eq_true->gB,false_eq_true->g_,eq_iff_iff->mL,not_true->P8
open _root_.False renaming elim->fK
open _root_.Int renaming toNat->aL,emod_nonneg->bR,emod_lt_of_pos->cr,le_refl->dz,toNat_natCast->lB,mul_one->x_,toNat_of_nonneg->PZ,lt_trichotomy->P2,lt_trans->P3,lt_or_eq_of_le->P4,lt_irrefl->P5,le_trans->P6,le_antisymm->P7
open _root_.List renaming length_map->am,getElem?_eq_getElem->aC,length_append->aP,getElem?_eq_some_iff->aV,map_append->aX,length_take->a_,mem_map->bf,mem_cons->bg,length_cons->bi,range->bm,mem_singleton->bu,getElem?_map->bA,Nodup->bG,mem_cons_of_mem->bK,size_toArray->bP,mem_cons_self->bQ,map_cons->bW,take_length->ce,take_succ->cq,mem_append_right->cE,mem_append->cZ,mem_iff_getElem->di,append_nil->dj,append_assoc->dI,getD_eq_getElem?_getD->eK,getElem_mem->eW,mem_filter->fI,lookup->fJ,nodup_cons->gz,length_drop->gA,length_filter_le->g6,find?_cons->g9,take_of_length_le->iH,mem_range->iI,mem_append_left->iJ,pairwise_iff_getElem->ll,pairwise_append->lm,map_map->ln,length_range->lu,length_nil->lv,length->lz,all_eq_true->lA,take_append_drop->mH,map->mI,lookup_cons_self->mJ,lookup_cons->mK,forIn_nil->n8,forIn_cons->n9,any_cons->n_,perm_append_comm->rC,pairwise_map->rD,getElem_take->rE,getElem?_append_right->rF,mem_nil_iff->t_,mem_flatMap->ub,length_zip->uc,foldl_cons->ue,foldl_append->uf,find?_isSome->ug,all_cons->uh,reverse_cons->xS,pairwise_cons->xT,of_mem_zip->xU,nodup_nil->xV,getElem_drop->xW,getElem?_eq_none->xX,flatMap_append->xY,findIdx?->xZ,filterMap_cons->x9,take_sublist->ER,take_append_of_le_length->ES,set_comm->ET,mem_of_getElem?->EU,map_nil->EV,map_congr_left->EW,length_pos_iff->EX,getElem?_range->EY,getElem?_append_left->EZ,findIdx?_eq_some_iff_getElem->E2,filter_cons->E3,ext_getElem->E4,drop_zero->E5,cons_append->E6,any_eq_true->E7,Pairwise->E_,zip_map_right->Pl,zipIdx_nil->Pm,zipIdx_cons->Pn,take_zero->Po,reverse_reverse->Pq,pairwise_singleton->Ps,pairwise_lt_range->Pt,mem_filterMap->Pu,map_eq_nil_iff->Pw,length_eraseIdx->Px,length_eq_zero_iff->Py,getLast?_cons_cons->Pz,getElem_map->PB,getElem?_take->PD,getElem?_set_self->PF,getElem?_set_ne->PH,flatMap_cons->PJ,findIdx?_eq_none_iff->PK,filter_sublist->PL,filter_append->PM,filter->PN,drop_sublist->PP,drop_eq_nil_of_le->PQ,any_eq_false->PR
open _root_.List.Pairwise renaming imp_of_mem->E9
open _root_.List.Perm renaming refl->E8,append_left->PV
open _root_.List.Sublist renaming refl->PU
open _root_.Nat renaming le_refl->ay,ne_of_lt->aN,le_trans->aZ,zero_le->bE,lt_of_lt_of_le->cm,le_of_lt->cQ,le_succ->dX,lt_or_ge->eJ,ne_of_gt->gZ,lt_trans->lj,lt_irrefl->mF,le_of_eq->mG,zero_add->tZ,not_lt_zero->t0,lt_succ_of_lt->t8,sub_zero->xN,min_eq_left->xO,lt_succ_self->xP,le_succ_of_le->xQ,le_add_right->xR,lt_trichotomy->EN,lt_or_eq_of_le->EO,le_of_not_lt->EQ,succ_ne_self->Pc,sub_self->Pd,min_self->Pf,min_le_left->Pg,lt_of_le_of_lt->Ph,le_of_ble_eq_true->Pi,eq_zero_or_pos->Pj
open _root_.Nat.succ renaming inj->nZ
open _root_.Ne renaming symm->aO
open _root_.Option renaming isSome_map->rB,isSome_iff_exists->tY,map_some->xM,map_map->O9,isSome->O_,isNone_some->Pa,getD_none->Pb
open _root_.Option.some renaming inj->dW
open _root_.PyProof.Rows renaming SortSt->bV,wpS_bind->dg,seqObj->dh,wpS_pure->gY,pendingOf->lf,failedOf->lg,AllBare->lh,wpS_get->rp,slot_tuple_getitem->rq,callWith_type1->rA,wpS_forRange->xG,reverseSlice'->xH,get?_update_seq->xI,envOfC->xJ,assignInOrder_cons->xK,subscriptTail->EE,sortedHeap->EF,size_push'->EG,seqEpoch_at->EH,listUpdate_at->EI,Subscript_->EJ,subscriptTail_builtinR->ON,entry_tuple_getitem->OX,assignInOrder_nil->O2,args_tuple_getitem->O3
open _root_.PyProof.Rows.F renaming plain_set_update_loop->EK,entry_set_update_loop->O6
open _root_.PyProof.Rows.IsTup renaming new->xL
open _root_.PySem renaming Addr->aa,Value->ac,wpAny_bind->ad,Shared->ae,wpAny->af,Expr->ag,model->aj,wpAny_pure->al,Heap->aq,World->ar,Stmt->au,Program->av,sizeLine->aB,Around->aD,FuncData->aH,starEach->bo,mainGlobals->br,SetTable->bt,rawInt->bx,wpAny_field->bO,bootBuiltins->bS,Scope->b_,wpAny_mono->cB,pyNext->cC,compareOp->cX,IsPair->cY,wpAny_holding->de,wpAny_newObj_type->dG,codeAny->dR,binaryOp->eD,backTo->eE,wpAny_setField_rec->fE,wpAny_call_entry->fF,assignEach->fG,wpAny_rule->gq,sizeLine_eq->gr,NameKind->gt,IsEnum->gu,wpAny_setState_of->gR,wpAny_seqItems->gS,sysModules->gT,pickOrder->gU,foldedSetIterable->gV,wpAny_callSpecial?_slot->iy,swapsWith->iz,setField->iA,getItem->iB,codeAny_builtin->iC,attributeBase->iD,IsPart->iF,setNext->i_,behindInMarks->j_,Result->lb,wpAny_typeOf->mq,wpAny_isInstance->mt,wpAny_attempt->mv,scanBound->mw,plainId_quiet->mx,mem_of_lookup->my,wpAny_truthy_bool->nQ,wpAny_passesOwn->nR,valueAt->nS,sliceBounds->nT,newExc->nU,callerA->nV,wpAny_load->p7,wpAny_Call_Name_kw->p9,typeLookup->p_,tupleKind->q_,seqItems?->ra,relayAll->rb,raiseNew->re,intItems->rf,compPost->rg,codeAny_mono->rh,bindName->ri,BindsTo->ro,wpAny_standAt->tI,wpAny_pyIter_tuple->tJ,wpAny_newTuple->tK,pyIter->tL,letOwnedTupleGo->tM,intKind_is->tN,firstArgMember->tO,ZipApart->tP,wpAny_throw->wS,wpAny_pyIter_list->wT,wpAny_pyIter_enum->wU,wpAny_of_eq->wV,wpAny_execs_nil->wW,wpAny_askSetting->wX,swapsWithSole->wZ,swappedStores->w8,newTuple->w9,newList->w_,isSubtype_type->xa,isSubtype_stop->xc,firstIterPos->xf,entryFor->xg,concat_meets->xh,Within->xi,PlainAttrs->xn,PassesOwn->xo,IsEnumOut->xt,GenState->xy,wpAny_updateSeq->Dv,wpAny_setField->Dw,wpAny_onRaise->Dy,wpAny_nextOf_list_item->Dz,wpAny_newList->DA,wpAny_newFunctionEnv->DB,wpAny_letGo->DC,wpAny_ite_split->DD,wpAny_handled->DE,wpAny_eqBool_int->DF,wpAny_comprehension_free->DG,wpAny_call->DH,wpAny_bindName->DI,wpAny_Name->DJ,updateSeq->DK,typeLookup_type->DM,tupleKind_room_in1->DN,setNextDrawn->DO,seq_tuple_add->DP,noFill_tuple_add->DR,keywordEach->DU,drawOrder->DW,cellsFrom->DX,call_meets->DZ,call->D0,builtinsNs->D1,builtinLookup_eq_fast->D2,assignInOrder->D5,wpAny_updateSeq_pair->MN,wpAny_storeSet_of->MO,wpAny_sequenceKey->MQ,wpAny_pyNext_list_item->MS,wpAny_pyNext_list_end->MT,wpAny_letOwnedTupleGo_enum->MW,wpAny_isTrue_Compare1->MX,wpAny_execs_cons->MY,wpAny_dictSet_pairs->MZ,wpAny_assign_Name->M1,slot_list_getitem->M_,getattributeRaised->Nu,fits_of_scanBound->Nw,entryFor_of_tree->Ny,codeAny_compStart_list->ND,codeAny_call_builtin->NE,attributeErrorLeaves->NK,Keyword->Oe
open _root_.PySem.Around renaming under_plainId->le,units->EC,under->ED
open _root_.PySem.Builtin.Dict renaming updateFrom->OG,pairItems->OH
open _root_.PySem.Builtin.List renaming listTooLong->EB,listSameRef->OD,listLengthHint->OE,listExtendWith->OF
open _root_.PySem.Builtin.Slice renaming slicePlaces->xF,sliceAdjust->EA,sliceApplied->OC
open _root_.PySem.Builtin.SmallTypes renaming nextOf->eV,ownedTupleIsFree->iG,ownedTupleHandOut->xE
open _root_.PySem.Builtin.Tuple renaming tupleExact->xD,tupleItemsOf->OB
open _root_.PySem.Calls renaming spliced_cons->xC,spliced_nil->Ey,callWith_builtin->Ez,evalArgs_plain->Oy,call_function_entry->Oz,Name_function_global->OA
open _root_.PySem.Challenge renaming rw_outlineward_k71_procedures_gone_through->Ox
open _root_.PySem.Code renaming isFrame->Ex,frames->Ow
open _root_.PySem.Env renaming scope->fH
open _root_.PySem.F renaming plainAttrs_list->eU,type_list_append->mC,slot_list_append->mD,called_set->mE,slot_zip_next->rm,type_list_extend->tV,slot_list_extend->tW,plain_extend_loop->tX,slot_zip_getattribute->xz,slot_tuple_iterator_next->xA,slot_enumerate_next->xB,slot_tuple_add->Eo,slot_dict_get->Ep,entry_zip_next->Er,entry_tuple_add->Es,args_zip_next_1->Et,args_tuple_add_2->Eu,slot_set_iter->Oj,plain_set_new->Ol,plain_list_iadd->Om,entry_tuple_iterator_next->On,entry_extend_loop->Oo,entry_enumerate_next->Op,entry_dict_get->Oq,args_tuple_iterator_next_1->Os,args_enumerate_next_1->Ot,args_dict_get_3->Ou
open _root_.PySem.Heap renaming get?_push_of_some->aF,lt_size->aI,get?_push_size->bz,SameBut->df,size_push->dU,get?_update_other->xu,get?_update_ne->xv,get?_update_self->Ek,IsTuple->El,IsList->Og,ExtBut->Oh
open _root_.PySem.Heap.DictOf renaming new->Oi
open _root_.PySem.Heap.SameBut renaming update->xw,refl->xx
open _root_.PySem.Obj renaming mapSeq->eF,putSet->tU,data_mapFields->Od
open _root_.PySem.Paired renaming length->xq,snoc->Ob
open _root_.PySem.PassesOwn renaming never->dS
open _root_.PySem.Pos renaming line->ld
open _root_.PySem.Scope renaming names->rj
open _root_.PySem.SeqAt renaming EqAt->la,RcNeAt->N7
open _root_.PySem.SeqAt.EqAt renaming same->Eh,of_refs->Ei,int_int->Ej,str_str->N8,str_int->N9,int_str->N_
open _root_.PySem.SeqAt.RcAt renaming tuples->xm,lists->Eg
open _root_.PySem.SetTable renaming below->ck,grown->nX,laid->Ee,Probe->Ef,slot->N6
open _root_.PySem.SetTable.below renaming go->tT
open _root_.PySem.SetTable.probe renaming go->xl
open _root_.PySem.Shared renaming heap->Ed
open _root_.PySem.Str renaming ofString->aM,length->Eb,empty->Ec,cps_append->N5
open _root_.PySem.Txt renaming join->mB
open _root_.PySem.Value renaming isStrOf->N3,isInt->N4
open _root_.PySem.W renaming Frag->ai,findIn->cp,nsIn->cD,mg_none_of->dH,kia_one->gW,keepIn->gX,fnOf->iE,emptyDict->k_,instObj->mz,codeIn->nW,plainGet->tQ,mg_of->tR,hasDictIn->tS,plainOver->xj,makesIn->xk,takerIn->D6,methodObj->D7,lookIn->D8,OpenLaw->D_,kitx_list->NO,kitx_dict->NP,kitOne->NQ,handedIn->NW,cellsFrom_some->NX,callWith_K->NY,WalkO->N1
open _root_.PySem.W.WShape renaming has->N2
open _root_.PySem.pickOrder renaming go->DQ
open _root_.Sum.inr renaming inj->ix
namespace L2
open PySem PySem.Spec PyProof.Rows
abbrev Key:=Sum Int Str
def Yo:Key->ac->Bool
 | .inl k,v=>N4 k v
 | .inr x,v=>N3 x v
def jhx(w:ar):Key->Int
 | .inl k=>hashInt k
 | .inr x=>hashStr w x
theorem kF:∀{k:Key} {v:ac},Yo k v=true->(∃i t,k=Sum.inl i/\v=Value.int i t)\/(∃x t,k=Sum.inr x/\v=Value.str x t)
 | .inl i,v,h=>by
  obtain⟨t,e⟩:=ac.isInt_shape (k:=i) (v:=v) h;exact .inl ⟨i,t,rfl,e⟩
 | .inr x,v,h=>by
  obtain⟨t,e⟩:=ac.isStrOf_shape (x:=x) (v:=v) h;exact .inr ⟨x,t,rfl,e⟩
theorem jcc(i:Int)(t:Tok):Yo (.inl i) (.int i t)=true:=by simp[Yo,N4]
theorem jcb(x:Str)(t:Tok):Yo (.inr x) (.str x t)=true:=by simp[Yo,N3]
theorem jgx(a b:Int):decide ((Sum.inl a:Key)=Sum.inl b)=(a == b):=by
 by_cases e:a=b
 .subst e;simp
 .have h:¬(Sum.inl a:Key)=Sum.inl b:=fun q=>e (Sum.inl.inj q)
  rw[Qe h];exact (Qh.mpr e).symm
theorem jgu(a b:Str):decide ((Sum.inr a:Key)=Sum.inr b)=decide (a=b):=by
 by_cases e:a=b
 .subst e;simp
 .have h:¬(Sum.inr a:Key)=Sum.inr b:=fun q=>e (ix q)
  rw[Qe h,Qe e]
theorem jgw(a:Int)(b:Str):decide ((Sum.inl a:Key)=Sum.inr b)=false:=Qe (fun q=>nomatch q)
theorem jgv(a:Str)(b:Int):decide ((Sum.inr a:Key)=Sum.inl b)=false:=Qe (fun q=>nomatch q)
def km(prog:av)(w:ar):PySem.KeyKind prog w Key where
 is:=Yo
 hash:=jhx w
 inj:=fun v a b ha hb=>by
  rcases kF ha with⟨i,t,rfl,rfl⟩ | ⟨x,t,rfl,rfl⟩
  .rcases kF hb with⟨j,u,rfl,e⟩ | ⟨y,u,rfl,e⟩
   .injection e with e1 _;rw[e1]
   .exact nomatch e
  .rcases kF hb with⟨j,u,rfl,e⟩ | ⟨y,u,rfl,e⟩
   .exact nomatch e
   .injection e with e1 _;rw[e1]
 byValue:=fun k v h=>by
  rcases kF h with⟨i,t,rfl,rfl⟩ | ⟨x,t,rfl,rfl⟩ <;> rfl
 pyHash:=fun hv h=>by
  rcases kF hv with⟨i,t,rfl,rfl⟩ | ⟨x,t,rfl,rfl⟩
  .exact wpAny_pyHash_int h
  .exact wpAny_pyHash_str h
 eqBool:=fun hu hv h=>by
  rcases kF hu with⟨i,t,rfl,rfl⟩ | ⟨x,t,rfl,rfl⟩
  .rcases kF hv with⟨j,u,rfl,rfl⟩ | ⟨y,u,rfl,rfl⟩
   .rw[jgx]at h;exact DF h
   .rw[jgw]at h;exact N_ i t y u _ _ _ _ h
  .rcases kF hv with⟨j,u,rfl,rfl⟩ | ⟨y,u,rfl,rfl⟩
   .rw[jgv]at h;exact N9 x t j u _ _ _ _ h
   .rw[jgu]at h;exact wpAny_eqBool_str h
 «strs»:=fun k x t v h=>by
  rcases kF h with⟨i,u,rfl,e⟩ | ⟨y,u,rfl,e⟩
  .exact nomatch e
  .injection e with e1 _
   subst e1
   cases v <;> rfl
theorem ZM(prog:av)(w:ar)(i:Int)(t:Tok):(km prog w).is (.inl i) (.int i t)=true:=jcc i t
theorem ZL(prog:av)(w:ar)(x:Str)(t:Tok):(km prog w).is (.inr x) (.str x t)=true:=jcb x t
inductive V where
 | non | bl (b:Bool) | int (i:Int) | str (x:Str) | byt (b:Array UInt8) | flt (b:UInt64) | ref (a:aa) | ty (n:String)
 deriving DecidableEq
def RelV:V->ac->Prop
 | .non,u=>u=Value.none
 | .bl b,u=>u=Value.bool b
 | .int i,u=>∃t,u=Value.int i t
 | .str x,u=>∃t,u=Value.str x t
 | .byt b,u=>∃t,u=Value.bytes b t
 | .flt b,u=>∃t,u=Value.float b t
 | .ref a,u=>u=Value.ref a
 | .ty n,u=>u=Value.type n
abbrev Vals:List V->List ac->Prop:=Paired RelV
variable {xs:List V}{us:List ac}
theorem Vals.length(r:Vals xs us):xs.length=us.length:=xq r
theorem Vals.get:∀{xs:List V} {us:List ac} {i:Nat} {x:V},Vals xs us->xs[i]?=some x->∃u,us[i]?=some u/\RelV x u
 | _,_,_,_,.nil,e=>by simp at e
 | _,_,0,_,.cons r _,e=>by simp at e;subst e;exact⟨_,rfl,r⟩
 | _,_,i+1,x,.cons _ t,e=>by
  obtain⟨u,h1,h2⟩:=Vals.get (i:=i) (x:=x) t (by simpa using e);exact⟨u,by simpa using h1,h2⟩
theorem Vals.set{x:V}{u:ac}(r:RelV x u):∀{xs:List V} {us:List ac} (i:Nat),Vals xs us->Vals (xs.set i x) (us.set i u)
 | _,_,_,.nil=>.nil
 | _,_,0,.cons _ t=>.cons r t
 | _,_,i+1,.cons q t=>.cons q (Vals.set r i t)
theorem Vals.append:∀{xs ys:List V} {us ws:List ac},Vals xs us->Vals ys ws->Vals (xs++ys) (us++ws)
 | _,_,_,_,.nil,s=>s
 | _,_,_,_,.cons r t,s=>.cons r (Vals.append t s)
theorem Vals.take:∀{xs:List V} {us:List ac} (n:Nat),Vals xs us->Vals (xs.take n) (us.take n)
 | _,_,0,_=>.nil
 | _,_,_+1,.nil=>.nil
 | _,_,n+1,.cons r t=>.cons r (Vals.take n t)
theorem Vals.drop:∀{xs:List V} {us:List ac} (n:Nat),Vals xs us->Vals (xs.drop n) (us.drop n)
 | _,_,0,r=>r
 | _,_,_+1,.nil=>.nil
 | _,_,n+1,.cons _ t=>Vals.drop n t
def RelO:Option V->Option ac->Prop
 | some v,some u=>RelV v u
 | none,none=>True
 | _,_=>False
def KV{κ:Type}:List (κ×V)->List (κ×ac)->Prop:=Paired fun (p:κ×V) (q:κ×ac)=>p.1=q.1/\RelV p.2 q.2
def kV:Key->V
 | .inl i=>.int i
 | .inr x=>.str x
inductive HO where
 | lst (xs:List V)
 | tup (xs:List V)
 | dK (kvs:List (Key×V)) | dT (kvs:List (List Key×V))
 | set (S:Int->Bool) (n:Nat)
 | ins (C dx:aa) (fs:List (Str×V))
 | own (x:aa)
 | xd (fs:List (Str×V))
 | met (f x:aa)
 | rng (lo hi:Int)
 | frz (o:Obj) (u:HO)
 | tbl (ps:Array ac)
 | ext (φ:aq->Prop)
abbrev Hp:=aa->Option HO
def upd(H:Hp)(a:aa)(o:HO):Hp:=fun b=>if b=a then some o else H b
variable {H:Hp}{a:aa}{o:HO}
theorem ja:upd H a o a=some o:=by unfold upd;rw[Qg rfl]
variable {b:aa}
theorem jl(h:b≠a):upd H a o b=H b:=by unfold upd;rw[Qf h]
theorem j6{u:HO}(h:H a=some o)(h':H b=some u)(d:o≠u):a≠b:=by
 intro e;subst e;rw[h]at h';exact d (dW h')
theorem jo(h:H a=some o)(h':H b=none):a≠b:=by
 intro e;subst e;rw[h]at h';cases h'
section
variable (P:av)(w:ar)
def ObjOk(H:Hp)(h:aq)(a:aa):HO->Prop
 | .lst xs=>xs.length<=aB/\∃(its:List ac) (n:Nat),Vals xs its/\h.get? a=some { cls:=.type "list",data:=.seq its.toArray n }
 | .tup xs=>xs.length<=aB/\∃its:List ac,Vals xs its/\IsTup h a its.toArray
 | .dK kvs=>kvs.length<=aB/\(a == gT)=false/\∃vs,KV kvs vs/\h.DictOf (km P w) a vs
 | .dT kvs=>kvs.length<=aB/\(a == gT)=false/\∃xs:List (List Key×aa×ac),
   Paired (fun (p:List Key×V) (q:List Key×aa×ac)=>p.1=q.1/\H q.2.1=some (.tup (p.1.map kV))/\RelV p.2 q.2.2) kvs xs/\
   ∃o es ep,h.get? a=some o/\o.ExactDict/\o.data=.dict es ep/\es.toList=xs.map (entryOfKey (q_ (km P w)))/\(xs.map (·.1)).Nodup
 | .set S n=>h.SetOf (intKind P w) a S n
 | .ins C dx fs=>H dx=some (.own a)/\fs.length<=1000/\dx≠a/\h.get? a=some (mz C dx)/\
   ∃mA,h.Ns1 dx mA/\(∀f,RelO (fs.lookup f) (mA f))/\xi mA (fs.map (·.1))
 | .own _=>∃o,h.get? a=some o
 | .xd fs=>∃mA,h.Ns1 a mA/\∀f,RelO (fs.lookup f) (mA f)
 | .rng lo hi=>∃t u v,h.get? a=some { cls:=.type "range",data:=.fields #[.int lo t,.int hi u,.int 1 v] }
 | .frz o u=>h.get? a=some o/\ObjOk H h a u
 | .tbl ps=>h.get? a=some { cls:=.none,data:=.fields ps }
 | .met f x=>h.get? a=some (D7 (.ref f) (.ref x))
 | .ext φ=>φ h/\(∃o,h.get? a=some o)/\∀h1 h2:aq,φ h1->(∀o,h1.get? a=some o->h2.get? a=some o)->φ h2
def HOk(H:Hp)(h:aq):Prop:=∀a o,H a=some o->ObjOk P w H h a o
end
variable {w:ar}{H':Hp}{h h':aq}
section
variable {P:av}
theorem ObjOk.lt(x:ObjOk P w H h a o):a < h.objs.size:=by
 cases o with
 | lst xs=>obtain⟨_,_,_,_,e⟩:=x;exact aI e
 | tup xs=>obtain⟨_,_,_,p⟩:=x;exact p.lt
 | dK kvs=>obtain⟨_,_,_,_,o,_,_,e,_⟩:=x;exact aI e
 | dT kvs=>obtain⟨_,_,_,_,o,_,_,e,_⟩:=x;exact aI e
 | set S n=>obtain⟨o,_,_,_,e,_⟩:=x;exact aI e
 | ins C dx fs=>obtain⟨_,_,_,e,_⟩:=x;exact aI e
 | own y=>obtain⟨_,e⟩:=x;exact aI e
 | xd fs=>obtain⟨_,⟨_,_,_,e,_⟩,_⟩:=x;exact aI e
 | rng lo hi=>obtain⟨_,_,_,e⟩:=x;exact aI e
 | frz ob u=>obtain⟨e,_⟩:=x;exact aI e
 | tbl ps=>exact aI (show h.get? a=some _ from x)
 | met f y=>exact aI (show h.get? a=some _ from x)
 | ext φ=>obtain⟨_,⟨_,e⟩,_⟩:=x;exact aI e
theorem Paired.mapP{α β:Type}{F G:α->β->Prop}:∀{l₁:List α} {l₂:List β},Paired F l₁ l₂->(∀a b,F a b->G a b)->Paired G l₁ l₂
 | _,_,.nil,_=>.nil
 | _,_,.cons r t,f=>.cons (f _ _ r) (Paired.mapP t f)
theorem ObjOk.stay(x:ObjOk P w H h a o)(k:∀b u,(b=a\/H b=some (.own a))->h.get? b=some u->h'.get? b=some u)
  (ho:∀b,H b=some (.own a)->H' b=some (.own a)) (ht:∀b xs,H b=some (.tup xs)->H' b=some (.tup xs)):ObjOk P w H' h' a o:=by
 induction o with
 | lst xs=>obtain⟨z,its,n,r,e⟩:=x;exact⟨z,its,n,r,k _ _ (.inl rfl) e⟩
 | tup xs=>obtain⟨z,its,r,ob,e,c⟩:=x;exact⟨z,its,r,ob,k _ _ (.inl rfl) e,c⟩
 | dK kvs=>obtain⟨z,y,vs,r,ob,es,ep,e,c⟩:=x;exact⟨z,y,vs,r,ob,es,ep,k _ _ (.inl rfl) e,c⟩
 | dT kvs=>
  obtain⟨z,y,xs,r,ob,es,ep,e,c⟩:=x
  exact⟨z,y,xs,Paired.mapP r fun p q z=>⟨z.1,ht _ _ z.2.1,z.2.2⟩,ob,es,ep,k _ _ (.inl rfl) e,c⟩
 | set S n=>obtain⟨ob,es,ep,t,e,c⟩:=x;exact⟨ob,es,ep,t,k _ _ (.inl rfl) e,c⟩
 | ins C dx fs=>
  obtain⟨d,z,ne,e,mA,⟨od,es,ep,e2,c⟩,r⟩:=x
  exact⟨ho _ d,z,ne,k _ _ (.inl rfl) e,mA,⟨od,es,ep,k _ _ (.inr d) e2,c⟩,r⟩
 | own y=>obtain⟨ob,e⟩:=x;exact⟨ob,k _ _ (.inl rfl) e⟩
 | xd fs=>obtain⟨mA,⟨od,es,ep,e,c⟩,r⟩:=x;exact⟨mA,⟨od,es,ep,k _ _ (.inl rfl) e,c⟩,r⟩
 | rng lo hi=>obtain⟨t,u,v,e⟩:=x;exact⟨t,u,v,k _ _ (.inl rfl) e⟩
 | frz ob u ih=>obtain⟨e,q⟩:=x;exact⟨k _ _ (.inl rfl) e,ih q⟩
 | tbl ps=>
  have e:h.get? a=some { cls:=.none,data:=.fields ps }:=x
  show h'.get? a=some { cls:=.none,data:=.fields ps }
  exact k a _ (.inl rfl) e
 | met f y=>
  have e:h.get? a=some (D7 (.ref f) (.ref y)):=x
  show h'.get? a=some (D7 (.ref f) (.ref y))
  exact k a _ (.inl rfl) e
 | ext φ=>obtain⟨p,⟨o,e⟩,st⟩:=x;exact⟨st _ _ p fun o q=>k _ _ (.inl rfl) q,⟨o,k _ _ (.inl rfl) e⟩,st⟩
theorem HOk.lt(x:HOk P w H h)(e:H a=some o):a < h.objs.size:=(x a o e).lt
theorem HOk.fresh(x:HOk P w H h)(e:h.objs.size<=a):H a=none:=by
 cases q:H a with
 | none=>rfl
 | some u=>exact absurd (cm (x.lt q) e) (mF _)
theorem HOk.kept(x:HOk P w H h)(k:∀b u,h.get? b=some u->h'.get? b=some u):HOk P w H h':=fun a o e=>
 (x a o e).stay (fun b u _ q=>k b u q) (fun _ q=>q) fun _ _ q=>q
theorem HOk.laid(x:HOk P w H h)(k:∀b u,h.get? b=some u->h'.get? b=some u)(hp:h.objs.size<=a)(new:ObjOk P w (upd H a o) h' a o):HOk P w (upd H a o) h':=fun b u e=>by
 have hn:=x.fresh hp;by_cases hb:b=a
 .subst hb;rw[ja]at e;cases e;exact new
 .rw[jl hb]at e
  exact (x b u e).stay (fun c v _ q=>k c v q) (fun c q=>by rw[jl (jo q hn)];exact q) fun c xs q=>by rw[jl (jo q hn)];exact q
end
def Rd(H:Hp)(a:aa)(u:HO):Prop:=H a=some u\/∃o,H a=some (.frz o u)
theorem Rd.ok{P:av}{u:HO}(r:Rd H a u)(x:HOk P w H h):ObjOk P w H h a u:=by
 rcases r with r | ⟨o,r⟩
 .exact x a u r
 .obtain⟨_,q⟩:=x a _ r
  exact q
def Mut:Option HO->Prop
 | some (.lst _)=>True
 | some (.dK _)=>True
 | some (.dT _)=>True
 | some (.set _ _)=>True
 | some (.ins _ _ _)=>True
 | some (.ext _)=>True
 | _=>False
section
variable {P:av}{x e:aa}{o':HO}
theorem HOk.write(ok:HOk P w H h)(mu:Mut (H x))(he:e=x\/H e=some (.own x))(k:∀b u,b≠e->h.get? b=some u->h'.get? b=some u)(nv:∃u,h'.get? e=some u)
  (new:ObjOk P w (upd H x o') h' x o'):HOk P w (upd H x o') h':=fun b u q=>by
 have Ay:∀c y,H c=some (.own y)->c≠x:=fun c y r z=>by subst z;rw[r]at mu;exact mu
 have FS:∀c xs,H c=some (.tup xs)->c≠x:=fun c xs r z=>by subst z;rw[r]at mu;exact mu
 by_cases hb:b=x
 .subst hb;rw[ja]at q;cases q;exact new
 .rw[jl hb]at q
  by_cases eO:b=e
  .have q':H b=some (.own x):=by
    rcases he with z | z
    .exact absurd (eO.trans z) hb
    .rw[eO];exact z
   rw[q]at q';cases q';obtain⟨v,hv⟩:=nv;exact⟨v,by rw[eO];exact hv⟩
  .refine (ok b u q).stay (fun c v hc r=>k c v ?_ r) (fun c r=>by rw[jl (Ay c b r)];exact r) fun c xs r=>by rw[jl (FS c xs r)];exact r
   rcases hc with rfl | hc
   .exact eO
   .rintro rfl
    rcases he with z | z
    .exact Ay c b hc z
    .rw[hc]at z;cases z;exact hb rfl
end
structure Un(fs ex:List aa)(H H':Hp)(h h':aq):Prop where
 keep:∀b o,h.get? b=some o->H b=none->b ∉ fs->b ∉ ex->h'.get? b=some o
 slot:∀b o,h.get? b=some o->H b=none->b∈fs->b ∉ ex->∃sl,h'.get? b=some { o with slots:=sl }
 free:∀b o,h.get? b=some o->H b=none->b ∉ ex->H' b=none
 there:∀b o,h.get? b=some o->b ∉ ex->∃o',h'.get? b=some o'
 tups:∀b xs,H b=some (.tup xs)->H' b=some (.tup xs)
 frzs:∀b o u,H b=some (.frz o u)->H' b=some (.frz o u)
 tbls:∀b ps,H b=some (.tbl ps)->∃more,H' b=some (.tbl (ps++more))
 stay:∀b o xs,H b=some (.tup xs)->h.get? b=some o->b ∉ fs->b ∉ ex->h'.get? b=some o
section
variable {fs nC ex ex':List aa}{H1 H2:Hp}{h1 h2:aq}{x e:aa}
theorem Un.any(u:Un fs ex H H1 h h1){ob:Obj}(q:h.get? b=some ob)(n:H b=none)(hx:b ∉ ex):∃sl,h1.get? b=some { ob with slots:=sl }:=by
 by_cases hb:b∈fs
 .exact u.slot b ob q n hb hx
 .exact⟨ob.slots,u.keep b ob q n hb hx⟩
theorem Un.kept(k:∀b u,h.get? b=some u->h'.get? b=some u):Un fs ex H H h h':=
 ⟨fun b ob q _ _ _=>k b ob q,fun b ob q _ _ _=>⟨ob.slots,k b ob q⟩,fun _ _ _ n _=>n,fun b ob q _=>⟨ob,k b ob q⟩,fun _ _ q=>q,fun _ _ _ q=>q,fun _ ps q=>⟨#[],by rw[q];simp⟩,fun b ob _ _ q _ _=>k b ob q⟩
theorem Un.refl:Un fs ex H H h h:=Un.kept fun _ _ q=>q
theorem Un.laid(k:∀b u,h.get? b=some u->h'.get? b=some u)(hp:h.objs.size<=a)(hn:H a=none):Un fs ex H (upd H a o) h h' where
 keep:=fun b u q _ _ _=>k b u q
 slot:=fun b u q _ _ _=>⟨u.slots,k b u q⟩
 free:=fun b u q n _=>by rw[jl (aN (cm (aI q) hp))];exact n
 there:=fun b u q _=>⟨u,k b u q⟩
 tups:=fun b xs q=>by rw[jl (jo q hn)];exact q
 frzs:=fun b u xs q=>by rw[jl (jo q hn)];exact q
 tbls:=fun b ps q=>⟨#[],by rw[jl (jo q hn),q];simp⟩
 stay:=fun b u _ _ q _ _=>k b u q
theorem Un.write(mu:Mut (H x))(he:e=x\/H e=some (.own x))(k:∀b u,b≠e->h.get? b=some u->h'.get? b=some u)(nv:∃u,h'.get? e=some u):Un fs ex H (upd H x o) h h':=by
 have hx:∀b,H b=none->b≠x:=fun b n z=>by subst z;rw[n]at mu;exact mu
 have hb:∀b,H b=none->b≠e:=fun b n z=>by
  subst z;rcases he with r | r
  .exact hx b n r
  .rw[n]at r;cases r
 have hm:∀b u,H b=some u->¬Mut (some u)->b≠x:=fun b u q nm z=>by subst z;rw[q]at mu;exact nm mu
 refine⟨fun b u q n _ _=>k b u (hb b n) q,fun b u q n _ _=>⟨u.slots,k b u (hb b n) q⟩,fun b u q n _=>by rw[jl (hx b n)];exact n,fun b u q _=>?_,
  fun b xs q=>by rw[jl (hm b _ q fun z=>z)];exact q,fun b u xs q=>by rw[jl (hm b _ q fun z=>z)];exact q,fun b ps q=>⟨#[],by rw[jl (hm b _ q fun z=>z),q];simp⟩,fun b u xs q e' _ _=>k b u (fun z=>by
   subst z;rcases he with r | r
   .exact hm b _ q (fun z=>z) r
   .rw[q]at r;cases r) e'⟩
 by_cases eO:b=e
 .subst eO;exact nv
 .exact⟨u,k b u eO q⟩
end
def trk(h:aq)(H:Hp):List aa:=(bm h.objs.size).filter fun a=>(H a).isSome
def Y8(h:aq)(H:Hp):aq:=PySem.W.hideAll h (trk h H)
theorem jcg(h:aq)(H:Hp):(Y8 h H).objs.size=h.objs.size:=PySem.W.hideAll_size _ _
theorem jd0{o:Obj}(e:h.get? b=some o)(n:H b=none):(Y8 h H).get? b=some o:=
 PySem.W.hideAll_get _ e fun hm=>by
  have q:(H b).isSome=true:=(fI.mp hm).2;rw[n]at q;simp at q
theorem jfb{o:Obj}(e:(Y8 h H).get? b=some o):h.get? b=some o/\H b=none:=by
 have e':h.get? b=some o:=PySem.W.of_hideAll (trk h H) e;refine⟨e',?_⟩
 cases q:H b with
 | none=>rfl
 | some x=>
  have hm:b∈trk h H:=fI.mpr ⟨iI.mpr (aI e'),by simp[q]⟩;have z:(Y8 h H).get? b=none:=PySem.W.hideAll_none (trk h H) hm;rw[z]at e;cases e
def jfw(g h:aq)(L:aa):List (aa×Obj):=(bm h.objs.size).filterMap fun a=>if a=L\/(g.get? a).isSome=true then none else (h.get? a).map fun o=>(a,o)
def kh(g h:aq)(L d:aa):List (aa×Obj):=(jfw g h L).filter fun p=>decide (p.1≠d)
structure Mod(K:ai)(mg:Str->Option ac)(base:aq):Prop where
 kin:K.In base
 glob:base.Ns br mg
 blt:∃mb,base.Ns D1 mb/\∀x:Str,x≠"__name__"->mb x=bS x
 nolimit:base.NoLimit
structure Cx where
 prog:av
 w:ar
 K:ai
 mg:Str->Option ac
 base:aq
 A:aD
 N:List Str
 s₀:ae
 H₀:Hp
 env:Env
 outer:List Env
 stack:List Env
 ex:List aa
 fn:Str->Bool
 calm:Bool
 pn:List (aa×Obj)
 xe:ac->ae->Prop
def frs(l:List Env):List aa:=l.filterMap (·.frame)
abbrev Cx.fs(X:Cx):List aa:=frs X.outer
def Vis(sc:b_)(x:Str):Prop:=sc.names.lookup x=some .local\/sc.names.lookup x=some .cell\/sc.names.lookup x=some .free
def Loc(sc:b_)(x:Str):Prop:=sc.names.lookup x=some .local\/sc.names.lookup x=some .cell
def jhA(env:Env)(h:aq)(m:Str->Option ac)(x:Str)(u:ac):Prop:=
 (env.kindOf x=some .local/\m x=some u)\/((env.kindOf x=some .cell\/env.kindOf x=some .free)/\∃c,env.cells.lookup x=some c/\h.IsCell c (some u))
structure Cx.Ok(X:Cx):Prop where
 mod:Mod X.K X.mg X.base
 kind:X.env.scope.kind=.function
 glob:X.env.globals=br
 blt:X.env.builtins=D1
 above:X.s₀.heap.objs.size<=X.env.locals
 inj:∀x y c,X.env.cells.lookup x=some c->X.env.cells.lookup y=some c->x=y
 has:∀x,(X.env.kindOf x=some .cell\/X.env.kindOf x=some .free)->∃c,X.env.cells.lookup x=some c
 cab:∀x c,X.fn x=true->X.env.cells.lookup x=some c->X.s₀.heap.objs.size<=c
 hd:X.calm=true->X.A.handled=none
 frames:X.A.frames=some X.stack
 stk:X.stack=X.outer\/(X.stack=X.env :: X.outer/\X.env.frame=some X.env.locals)
 exf:∀b∈X.ex,b≠X.env.locals/\∀x c,X.env.cells.lookup x=some c->c≠b
 bs:∀b o,X.base.get? b=some o->X.s₀.heap.get? b=some o/\X.H₀ b=none
 bsz:X.base.objs.size<=X.s₀.heap.objs.size
 noex:∀b o,X.base.get? b=some o->b ∉ X.ex
 exfs:∀b∈X.ex,b ∉ X.fs
 funs:X.s₀.heap.FunFrames X.base X.outer
 frf:∀b∈X.fs,X.H₀ b=none
structure Inv(X:Cx)(ab:List (aa×Obj))(σ:List (Option V))(H:Hp)(s:ae):Prop where
 ok:X.Ok
 os:s.os=X.s₀.os
 bare:lh s.gens
 base:Un X.fs X.ex X.H₀ H X.s₀.heap s.heap
 loc:∃m,s.heap.Ns X.env.locals m/\∀(i:Nat) (x:Str) (v:V),X.N[i]?=some x->σ[i]?=some (some v)->Vis X.env.scope x->∃u,RelV v u/\jhA X.env s.heap m x u
 cell:∀x c,X.env.cells.lookup x=some c->∃v,s.heap.IsCell c v
 free:H X.env.locals=none
 freeC:∀x c,X.env.cells.lookup x=some c->H c=none
 pin:∀p∈X.pn++ab,s.heap.get? p.1=some p.2/\H p.1=none/\p.1≠X.env.locals/\p.1 ∉ X.fs/\∀v,p.2.data≠.cell v
 hok:HOk X.prog X.w H s.heap
 len:σ.length=X.N.length
variable {X:Cx}{ab:List (aa×Obj)}{s s':ae}{t' i:Nat}{ch:List aa}{x:Str}{v:V}{u:ac}
section
variable {σ:List (Option V)}
theorem Cx.Ok.nofr(ok:X.Ok){o:Obj}(e:X.base.get? b=some o):b ∉ X.fs:=fun hb=>by
 have:=(ok.funs.mem hb).1;rw[e]at this;cases this
theorem Inv.bs(I:Inv X ab σ H s):∀b o,X.base.get? b=some o->s.heap.get? b=some o/\H b=none:=fun b o e=>
 ⟨I.base.keep b o (I.ok.bs b o e).1 (I.ok.bs b o e).2 (I.ok.nofr e) (I.ok.noex b o e),I.base.free b o (I.ok.bs b o e).1 (I.ok.bs b o e).2 (I.ok.noex b o e)⟩
theorem Inv.bk(I:Inv X ab σ H s):∀b o,X.base.get? b=some o->s.heap.get? b=some o:=fun b o e=>(I.bs b o e).1
theorem Inv.mod(I:Inv X ab σ H s):Mod X.K X.mg X.base:=I.ok.mod
theorem Inv.kIn(I:Inv X ab σ H s):X.K.In s.heap:=I.ok.mod.kin.keeps I.bk
theorem Inv.nolimit(I:Inv X ab σ H s):s.heap.NoLimit:=I.ok.mod.nolimit.keeps I.bk
theorem Inv.fr(I:Inv X ab σ H s):∃m,Fr X.base X.env.locals s.heap m:=
 let ⟨m,hn,_⟩:=I.loc
 ⟨m,hn,I.bk,aZ I.ok.bsz I.ok.above⟩
theorem Inv.lt(I:Inv X ab σ H s):X.env.locals < s.heap.objs.size:=let ⟨_,hn,_⟩:=I.loc;hn.lt
theorem Inv.sz(I:Inv X ab σ H s):X.s₀.heap.objs.size<=s.heap.objs.size:=aZ I.ok.above (cQ I.lt)
theorem Inv.nofs(I:Inv X ab σ H s)(h:s.heap.objs.size<=a):a ∉ X.fs:=fun hb=>by
 obtain⟨_,o,ho,_⟩:=I.ok.funs.mem hb;exact absurd (cm (aI ho) (aZ I.sz h)) (mF _)
theorem Inv.cne(I:Inv X ab σ H s):∀x c,X.env.cells.lookup x=some c->c≠X.env.locals:=fun x c e z=>by
 obtain⟨v,o,ho,hd⟩:=I.cell x c e;obtain⟨m,⟨o',es,ep,im,iu,_⟩,_⟩:=I.loc;rw[z,im]at ho;cases ho;rw[iu]at hd;cases hd
theorem Inv.funs(I:Inv X ab σ H s):s.heap.FunFrames X.base X.outer:=by
 have all:∀(l:List Env),(∀b∈frs l,b∈X.fs)->X.s₀.heap.FunFrames X.base l->s.heap.FunFrames X.base l:=by
  intro l;induction l with
  | nil=>intro _ _;trivial
  | cons env r ih=>
   intro hs hl;obtain⟨hk,⟨L,o,hf,hn,ho,hd⟩,hr⟩:=hl;have hL:L∈X.fs:=hs L (by unfold frs;rw[x9,hf];exact bQ);obtain⟨sl,e⟩:=I.base.slot L o ho (I.ok.frf L hL) hL fun z=>I.ok.exfs L z hL
   exact⟨hk,⟨L,_,hf,hn,e,hd⟩,ih (fun b hb=>hs b (by unfold frs;rw[x9,hf];exact bK _ hb)) hr⟩
 exact all X.outer (fun _ hb=>hb) I.ok.funs
theorem Inv.stack(I:Inv X ab σ H s):s.heap.FunFrames X.base X.stack:=by
 rcases I.ok.stk with e | ⟨e,hf⟩
 .rw[e];exact I.funs
 .rw[e]
  obtain⟨m,hn,_⟩:=I.loc;refine .cons (by rw[I.ok.kind];decide) hf hn ?_ I.funs;exact aq.get?_none_of_le (aZ I.ok.bsz I.ok.above)
theorem Inv.stkSub(I:Inv X ab σ H s):∀b∈frs X.stack,b∈X.env.locals :: X.fs:=fun b hb=>by
 rcases I.ok.stk with e | ⟨e,hf⟩
 .rw[e]at hb;exact bK _ hb
 .rw[e]at hb
  unfold frs at hb;rw[x9,hf]at hb;exact hb
theorem Inv.stkFree(I:Inv X ab σ H s):∀b∈frs X.stack,H b=none:=fun b hb=>by
 rcases bg.mp (I.stkSub b hb) with e | hb
 .rw[e];exact I.free
 .obtain⟨_,o,ho,_⟩:=I.ok.funs.mem hb
  exact I.base.free b o ho (I.ok.frf b hb) fun z=>I.ok.exfs b z hb
theorem Inv.step{g':Array xy}{d':Drawn}(I:Inv X ab σ H s)
  (ez:∀b∈ch,(b∈X.ex\/X.s₀.heap.objs.size<=b)/\b≠X.env.locals/\(∀x c,X.env.cells.lookup x=some c->c≠b)/\∀p∈X.pn++ab,p.1≠b)
  (keep:∀b o,b≠X.env.locals->b ∉ X.fs->b ∉ ch->s.heap.get? b=some o->(H b=none\/∃xs,H b=some (.tup xs))->h'.get? b=some o)
  (slot:∀b o,b≠X.env.locals->b∈X.fs->b ∉ ch->s.heap.get? b=some o->H b=none->∃sl,h'.get? b=some { o with slots:=sl }) (free:∀b o,b ∉ ch->s.heap.get? b=some o->H b=none->H' b=none)
  (there:∀b o,b ∉ ch->s.heap.get? b=some o->∃o',h'.get? b=some o')
  (tups:∀b xs,H b=some (.tup xs)->H' b=some (.tup xs)) (frzs:∀b o u,H b=some (.frz o u)->H' b=some (.frz o u)) (tbls:∀b ps,H b=some (.tbl ps)->∃more,H' b=some (.tbl (ps++more)))
  (ns:∀m,s.heap.Ns X.env.locals m->h'.Ns X.env.locals m) (hok:HOk X.prog X.w H' h') (hg:lh g') :
  Inv X ab σ H' { s with heap:=h',gens:=g',drawn:=d',toks:=t' }:=by
 have uE:∀b o,X.s₀.heap.get? b=some o->b≠X.env.locals:=fun b o e=>aN (cm (aI e) I.ok.above)
 have oN:∀b o,X.s₀.heap.get? b=some o->b ∉ X.ex->b ∉ ch:=fun b o e hx hb=>by
  rcases (ez b hb).1 with z | z
  .exact hx z
  .exact absurd (cm (aI e) z) (mF _)
 have CK:∀x c,X.env.cells.lookup x=some c->∀v,s.heap.IsCell c v->h'.IsCell c v:=fun x c e v ⟨o,ho,hd⟩=>by
  have oO:c ∉ ch:=fun z=>(ez c z).2.2.1 x c e rfl
  by_cases hc:c∈X.fs
  .obtain⟨sl,q⟩:=slot c o (I.cne x c e) hc oO ho (I.freeC x c e)
   exact⟨_,q,hd⟩
  .exact⟨o,keep c o (I.cne x c e) hc oO ho (.inl (I.freeC x c e)),hd⟩
 have Fl:=I.base.tups
 refine⟨I.ok,I.os,hg,⟨fun b o e n hb hx=>?_,fun b o e n hb hx=>?_,fun b o e n hx=>?_,fun b o e hx=>?_,fun b xs e=>tups b xs (I.base.tups b xs e),fun b o xs e=>frzs b o xs (I.base.frzs b o xs e),fun b ps e=>?_,fun b o xs q e hb hx=>keep b o (uE b o e) hb (oN b o e hx) (I.base.stay b o xs q e hb hx) (.inr ⟨xs,Fl b xs q⟩)⟩,?_,fun x c e=>?_,?_,fun x c e=>?_,fun p hp=>?_,hok,I.len⟩
 .exact keep b o (uE b o e) hb (oN b o e hx) (I.base.keep b o e n hb hx) (.inl (I.base.free b o e n hx))
 .obtain⟨sl,e1⟩:=I.base.slot b o e n hb hx
  obtain⟨ut,e2⟩:=slot b _ (uE b o e) hb (oN b o e hx) e1 (I.base.free b o e n hx)
  exact⟨ut,e2⟩
 .obtain⟨o',e1⟩:=I.base.there b o e hx
  exact free b o' (oN b o e hx) e1 (I.base.free b o e n hx)
 .obtain⟨o',e1⟩:=I.base.there b o e hx
  exact there b o' (oN b o e hx) e1
 .obtain⟨m1,e1⟩:=I.base.tbls b ps e
  obtain⟨m2,e2⟩:=tbls b _ e1
  exact⟨m1++m2,by rw[e2,Array.append_assoc]⟩
 .obtain⟨m,hn,hl⟩:=I.loc
  refine⟨m,ns m hn,fun i x v e1 e2 e3=>?_⟩
  obtain⟨u,r,l⟩:=hl i x v e1 e2 e3
  refine⟨u,r,?_⟩
  rcases l with l | ⟨k,c,e,z⟩
  .exact .inl l
  .exact .inr ⟨k,c,e,CK x c e _ z⟩
 .obtain⟨v,z⟩:=I.cell x c e
  exact⟨v,CK x c e v z⟩
 .obtain⟨m,⟨o,_,_,ho,_⟩,_⟩:=I.loc
  exact free _ o (fun z=>(ez _ z).2.1 rfl) ho I.free
 .obtain⟨v,o,ho,hd⟩:=I.cell x c e
  exact free c o (fun z=>(ez c z).2.2.1 x c e rfl) ho (I.freeC x c e)
 .obtain⟨e,n,ne,nf,d⟩:=I.pin p hp
  have oO:p.1 ∉ ch:=fun z=>(ez p.1 z).2.2.2 p hp rfl
  exact⟨keep p.1 p.2 ne nf oO e (.inl n),free p.1 p.2 oO e n,ne,nf,d⟩
theorem Inv.un(I:Inv X ab σ H s)(u:Un X.fs [] H H' s.heap h')(hok:HOk X.prog X.w H' h'):Inv X ab σ H' { s with heap:=h',toks:=t' }:=by
 obtain⟨m,⟨o,es,ep,ho,r⟩,_⟩:=id I.loc;obtain⟨sl,hL⟩:=u.any ho I.free (by simp);exact I.step (g':=s.gens) (d':=s.drawn) (ch:=[]) (fun _ z=>nomatch z) (fun b o _ hb _ e n=>n.elim (fun n=>u.keep b o e n hb (by simp)) fun⟨xs,n⟩=>u.stay b o xs n e hb (by simp)) (fun b o _ hb _ e n=>u.slot b o e n hb (by simp)) (fun b o _ e n=>u.free b o e n (by simp)) (fun b o _ e=>u.there b o e (by simp)) u.tups u.frzs u.tbls (fun m' hm=>by
  obtain⟨o',dw,wg,im,r'⟩:=hm;rw[ho]at im;cases im;exact⟨_,dw,wg,hL,r'⟩) hok I.bare
theorem Inv.call{g':Array xy}{d':Drawn}(I:Inv X ab σ H s)(u:Un (frs X.stack) ch H H' s.heap h')(hok:HOk X.prog X.w H' h')(hg:lh g')
  (ez:∀b∈ch,(b∈X.ex\/X.s₀.heap.objs.size<=b)/\b≠X.env.locals/\(∀x c,X.env.cells.lookup x=some c->c≠b)/\∀p∈X.pn++ab,p.1≠b) :
  Inv X ab σ H' { s with heap:=h',gens:=g',drawn:=d',toks:=t' }:=by
 obtain⟨m,⟨o,es,ep,ho,r⟩,_⟩:=id I.loc
 obtain⟨sl,hL⟩:=u.any ho I.free fun z=>(ez _ z).2.1 rfl
 exact I.step (ch:=ch) ez (fun b o hL hb hc e n=>n.elim (fun n=>u.keep b o e n (fun z=>(bg.mp (I.stkSub b z)).elim hL hb) hc) fun⟨xs,n⟩=>u.stay b o xs n e (fun z=>(bg.mp (I.stkSub b z)).elim hL hb) hc) (fun b o _ _ hc e n=>u.any e n hc) (fun b o hc e n=>u.free b o e n hc) (fun b o hc e=>u.there b o e hc) u.tups u.frzs u.tbls (fun m' hm=>by
  obtain⟨o',dw,wg,im,r'⟩:=hm;rw[ho]at im;cases im;exact⟨_,dw,wg,hL,r'⟩) hok hg
theorem Inv.turned{it:aa}(I:Inv X ab σ H s)(k:∀b o,b≠it->s.heap.get? b=some o->h'.get? b=some o)(hn:H it=none)(hL:it≠X.env.locals)
  (h1:it∈X.ex\/X.s₀.heap.objs.size<=it) (h2:∀x c,X.env.cells.lookup x=some c->c≠it) (h3:∀p∈X.pn++ab,p.1≠it):Inv X ab σ H { s with heap:=h',toks:=t' }:=by
 have AA:∀b u,H b=some u->b≠it:=fun b u e z=>by rw[z,hn]at e;cases e
 refine I.step (g':=s.gens) (d':=s.drawn) (ch:=[it]) (fun b hb=>?_) (fun b o _ _ hc e _=>k b o (fun z=>hc (by simp[z])) e) (fun b o _ _ hc e _=>⟨o.slots,k b o (fun z=>hc (by simp[z])) e⟩) (fun _ _ _ _ n=>n)
  (fun b o hc e=>⟨o,k b o (fun z=>hc (by simp[z])) e⟩) (fun _ _ e=>e) (fun _ _ _ e=>e) (fun b ps e=>⟨#[],by rw[e];simp⟩) (fun m hm=>?_) (fun b u e=>?_) I.bare
 .have e:b=it:=by simpa using hb
  subst e
  exact⟨h1,hL,h2,h3⟩
 .obtain⟨o,es,ep,ho,r⟩:=hm
  exact⟨o,es,ep,k _ o (aO hL) ho,r⟩
 .refine (I.hok b u e).stay (fun c v hc q=>k c v ?_ q) (fun _ q=>q) fun _ _ q=>q
  rcases hc with z | z
  .rw[z];exact AA b u e
  .exact AA c _ z
theorem Inv.tok(I:Inv X ab σ H s)(t:Nat):Inv X ab σ H { s with toks:=t }:=I.un (h':=s.heap) (t':=t) Un.refl I.hok
theorem Inv.kept(I:Inv X ab σ H s)(k:∀b u,s.heap.get? b=some u->h'.get? b=some u):Inv X ab σ H { s with heap:=h',toks:=t' }:=I.un (Un.kept k) (I.hok.kept k)
theorem Inv.laid(I:Inv X ab σ H s)(k:∀b u,s.heap.get? b=some u->h'.get? b=some u)(hp:s.heap.objs.size<=a)(new:ObjOk X.prog X.w (upd H a o) h' a o):
  Inv X ab σ (upd H a o) { s with heap:=h',toks:=t' }:=I.un (Un.laid k hp (I.hok.fresh hp)) (I.hok.laid k hp new)
theorem Inv.write{x e:aa}(I:Inv X ab σ H s)(mu:Mut (H x))(he:e=x\/H e=some (.own x))(k:∀b u,b≠e->s.heap.get? b=some u->h'.get? b=some u)(nv:∃u,h'.get? e=some u)
  (new:ObjOk X.prog X.w (upd H x o) h' x o):Inv X ab σ (upd H x o) { s with heap:=h',toks:=t' }:=I.un (Un.write mu he k nv) (I.hok.write mu he k nv new)
theorem Inv.pins_of{Au:List (aa×Obj)}(I:Inv X ab σ H s)(h:∀p∈Au,s.heap.get? p.1=some p.2/\H p.1=none/\p.1≠X.env.locals/\p.1 ∉ X.fs/\∀v,p.2.data≠.cell v):Inv X Au σ H s:=
 ⟨I.ok,I.os,I.bare,I.base,I.loc,I.cell,I.free,I.freeC,fun p hp=>(cZ.mp hp).elim (fun z=>I.pin p (iJ _ z)) (h p),I.hok,I.len⟩
theorem ZJ{N:List Str}(hN:N.Nodup){j:Nat}(a:N[i]?=some x)(b:N[j]?=some x):i=j:=by
 obtain⟨h1,e1⟩:=aV.mp a;obtain⟨h2,e2⟩:=aV.mp b;exact (List.getElem_inj hN).mp (e1.trans e2.symm)
theorem Ye{M:Model}{A:aD}{E:ac->ae->Prop}{Q:Unit->ae->Prop}(I:Inv X ab σ H s)(hN:X.N.Nodup)(hi:X.N[i]?=some x)(hx:Loc X.env.scope x)(r:RelV v u)
  (h:∀s',Inv X ab (σ.set i (some v)) H s'->(∃a,df a s.heap s'.heap/\(a=X.env.locals\/X.env.cells.lookup x=some a))->Q () s') (hf:X.fn x=true\/X.env.scope.names.lookup x=some .local:=by first | exact .inl rfl | exact .inr rfl | assumption):af M A (storeName X.env x u) Q E s:=by
 obtain⟨m,hn,hl⟩:=id I.loc
 have Ld:(X.env.scope.kind == .class || (X.env.scope.kind == .module && X.env.locals != X.env.globals))=false:=by rw[I.ok.kind];rfl
 have Bx:i < σ.length:=by rw[I.len];exact (aV.mp hi).1
 have cne:=I.cne
 have Ab:∀{a:aa} {h':aq},(∃o,s.heap.get? a=some o/\H a=none)->df a s.heap h'->HOk X.prog X.w H h':=fun {a h'} ha hs b ob e=>by
  obtain⟨_,_,BH⟩:=ha;refine (I.hok b ob e).stay (fun c w' hc q=>(hs.2 c ?_).trans q) (fun _ q=>q) fun _ _ q=>q
  rintro rfl;rcases hc with rfl | hc
  .rw[BH]at e;cases e
  .rw[BH]at hc;cases hc
 rcases hx with hk | hk
 .refine wpAny_storeName_local hk hn (fun h' Ia hs=>?_) Ld
  obtain⟨oL,_,_,ik,_⟩:=id hn
  refine h _ ⟨I.ok,I.os,I.bare,⟨fun b o e n hb hx=>?_,fun b o e n hb hx=>?_,I.base.free,fun b o e hx=>?_,I.base.tups,I.base.frzs,I.base.tbls,fun b o xs q e hb hx=>(hs.2 b (aN (cm (aI e) I.ok.above))).trans (I.base.stay b o xs q e hb hx)⟩,⟨_,Ia,fun j y v' e1 e2 e3=>?_⟩,fun y c e=>?_,I.free,I.freeC,fun p hp=>?_,Ab ⟨oL,ik,I.free⟩ hs,by simpa using I.len⟩ ⟨_,hs,.inl rfl⟩
  .exact (hs.2 b (aN (cm (aI e) I.ok.above))).trans (I.base.keep b o e n hb hx)
  .obtain⟨sl,e1⟩:=I.base.slot b o e n hb hx
   exact⟨sl,(hs.2 b (aN (cm (aI e) I.ok.above))).trans e1⟩
  .obtain⟨o',e1⟩:=I.base.there b o e hx
   exact⟨o',(hs.2 b (aN (cm (aI e) I.ok.above))).trans e1⟩
  .by_cases hj:j=i
   .subst hj
    rw[hi]at e1;cases e1
    rw[PF Bx]at e2
    cases e2
    exact⟨u,r,.inl ⟨hk,by simp⟩⟩
   .rw[PH (aO hj)]at e2
    obtain⟨u',r',q⟩:=hl j y v' e1 e2 e3
    refine⟨u',r',?_⟩
    rcases q with⟨k,e⟩ | ⟨k,c,e,z⟩
    .refine .inl ⟨k,?_⟩
     have:y≠x:=fun e=>hj (ZJ hN e1 (e ▸ hi))
     simp[this,e]
    .exact .inr ⟨k,c,e,z.sameBut hs (cne y c e)⟩
  .obtain⟨w',z⟩:=I.cell y c e
   exact⟨w',z.sameBut hs (cne y c e)⟩
  .obtain⟨e,n,ne,nf,d⟩:=I.pin p hp
   exact⟨(hs.2 p.1 ne).trans e,n,ne,nf,d⟩
 .have sS:X.fn x=true:=by
   rcases hf with z | z
   .exact z
   .rw[z]at hk;cases hk
  obtain⟨c,hc⟩:=I.ok.has x (.inl hk);obtain⟨w',z⟩:=I.cell x c hc;refine wpAny_storeName_cell I.ok.kind hk hc z (fun h' bw hs=>?_);obtain⟨oc,Be,HN⟩:=id z;refine h { s with heap:=h' } ⟨I.ok,I.os,I.bare,⟨fun b o e n hb hx=>?_,fun b o e n hb hx=>?_,I.base.free,fun b o e hx=>?_,I.base.tups,I.base.frzs,I.base.tbls,fun b o xs q e hb hx=>(hs.2 b (aN (cm (aI e) (I.ok.cab x c sS hc)))).trans (I.base.stay b o xs q e hb hx)⟩,⟨m,hn.sameBut hs (aO (cne x c hc)),fun j y v' e1 e2 e3=>?_⟩,fun y c' e=>?_,I.free,I.freeC,fun p hp=>?_,Ab ⟨oc,Be,I.freeC x c hc⟩ hs,by simpa using I.len⟩ ⟨c,hs,.inr hc⟩
  .exact (hs.2 b (aN (cm (aI e) (I.ok.cab x c sS hc)))).trans (I.base.keep b o e n hb hx)
  .obtain⟨sl,e1⟩:=I.base.slot b o e n hb hx
   exact⟨sl,(hs.2 b (aN (cm (aI e) (I.ok.cab x c sS hc)))).trans e1⟩
  .obtain⟨o',e1⟩:=I.base.there b o e hx
   exact⟨o',(hs.2 b (aN (cm (aI e) (I.ok.cab x c sS hc)))).trans e1⟩
  .by_cases hj:j=i
   .subst hj
    rw[hi]at e1;cases e1;rw[PF Bx]at e2
    cases e2
    exact⟨u,r,.inr ⟨.inl hk,c,hc,bw⟩⟩
   .rw[PH (aO hj)]at e2
    obtain⟨u',r',q⟩:=hl j y v' e1 e2 e3;refine⟨u',r',?_⟩;rcases q with q | ⟨k,c',e,z'⟩
    .exact .inl q
    .refine .inr ⟨k,c',e,z'.sameBut hs ?_⟩
     rintro rfl;exact hj (ZJ hN e1 (I.ok.inj _ _ _ e hc ▸ hi))
  .by_cases hcc:c'=c
   .subst hcc;exact⟨_,bw⟩
   .obtain⟨w2,z2⟩:=I.cell y c' e
    exact⟨w2,z2.sameBut hs hcc⟩
  .obtain⟨e,n,ne,nf,d⟩:=I.pin p hp
   refine⟨(hs.2 p.1 ?_).trans e,n,ne,nf,d⟩;intro q;rw[q,Be]at e;have q':oc=p.2:=dW e;exact d w' (by rw[<- q'];exact HN)
theorem zY{M:Model}{A:aD}{E:ac->ae->Prop}{Q:Unit->ae->Prop}(I:Inv X ab σ H s)(hN:X.N.Nodup)(hi:X.N[i]?=some x)(hx:Loc X.env.scope x)(r:RelV v u)
  (h:∀s',Inv X ab (σ.set i (some v)) H s'->Q () s') (hf:X.fn x=true\/X.env.scope.names.lookup x=some .local:=by first | exact .inl rfl | exact .inr rfl | assumption):af M A (storeName X.env x u) Q E s:=
 Ye I hN hi hx r (fun s' I' _=>h s' I') hf
theorem Inv.call'(I:Inv X ab σ H s)(ho:s'.os=s.os)(u:Un (frs X.stack) ch H H' s.heap s'.heap)(hok:HOk X.prog X.w H' s'.heap)(hg:lh s'.gens)
  (ez:∀b∈ch,(b∈X.ex\/X.s₀.heap.objs.size<=b)/\b≠X.env.locals/\(∀x c,X.env.cells.lookup x=some c->c≠b)/\∀p∈X.pn++ab,p.1≠b):Inv X ab σ H' s':=by
 obtain⟨h',g',d',t',o'⟩:=s'
 have e:o'=s.os:=ho
 subst e
 exact I.call (g':=g') (t':=t') (d':=d') u hok hg ez
end
abbrev XK:=ac->Option aa->Hp->Prop
abbrev St:=List (Option V)
abbrev VK:=V->Hp->Prop
abbrev TE:=St->Hp->VK->Prop
abbrev TT:=St->Hp->(Bool->Hp->Prop)->Prop
abbrev TA:=St->Hp->(List V->Hp->Prop)->Prop
structure Ends where
 nx:St->Hp->Prop
 rt:VK
 bk:St->Hp->Prop:=fun _ _=>False
 ct:St->Hp->Prop:=fun _ _=>False
abbrev TS:=Ends->St->Hp->Prop
def EP(X:Cx)(ab:List (aa×Obj))(σ:St)(Q:VK)(u:ac)(s':ae):Prop:=∃v H',Inv X ab σ H' s'/\RelV v u/\Q v H'
def TP(X:Cx)(ab:List (aa×Obj))(σ:St)(Q:Bool->Hp->Prop)(b:Bool)(s':ae):Prop:=∃H',Inv X ab σ H' s'/\Q b H'
def AP(X:Cx)(ab:List (aa×Obj))(σ:St)(Q:List V->Hp->Prop)(us:List ac)(s':ae):Prop:=∃vs H',Inv X ab σ H' s'/\Vals vs us/\Q vs H'
def SP(X:Cx)(ab:List (aa×Obj))(D:Ends)(f:Flow)(s':ae):Prop:=
 match f with
 | .next=>∃σ' H',Inv X ab σ' H' s'/\D.nx σ' H'
 | .brk=>∃σ' H',Inv X ab σ' H' s'/\D.bk σ' H'
 | .cont=>∃σ' H',Inv X ab σ' H' s'/\D.ct σ' H'
 | .ret u=>∃v σ' H',Inv X ab σ' H' s'/\RelV v u/\D.rt v H'
def PE(X:Cx)(e:ag)(t:TE):Prop:=
 ∀(ab:List (aa×Obj)) (s:ae) (σ:St) (H:Hp) (Q:VK),Inv X ab σ H s->t σ H Q->af (aj X.prog X.w) X.A (eval e X.env) (EP X ab σ Q) X.xe s
def PT(X:Cx)(e:ag)(t:TT):Prop:=
 ∀(ab:List (aa×Obj)) (s:ae) (σ:St) (H:Hp) (Q:Bool->Hp->Prop),Inv X ab σ H s->t σ H Q->af (aj X.prog X.w) X.A (isTrue e X.env (eval e X.env)) (TP X ab σ Q) X.xe s
def PW(X:Cx)(e:ag)(t:TT):Prop:=
 ∀(lD:Sem ac) (ab:List (aa×Obj)) (s:ae) (σ:St) (H:Hp) (Q:Bool->Hp->Prop),Inv X ab σ H s->t σ H Q->af (aj X.prog X.w) X.A (isTrue e X.env lD) (TP X ab σ Q) X.xe s
variable {e:ag}
theorem PW.pt{t:TT}(h:PW X e t):PT X e t:=h _
def PA(X:Cx)(es:List ag)(t:TA):Prop:=
 ∀(pos:Pos) (ab:List (aa×Obj)) (s:ae) (σ:St) (H:Hp) (Q:List V->Hp->Prop),Inv X ab σ H s->t σ H Q->af (aj X.prog X.w) X.A (spliced (eE pos (bo es X.env))) (AP X ab σ Q) X.xe s
def PS(X:Cx)(st:au)(t:TS):Prop:=
 ∀(ab:List (aa×Obj)) (s:ae) (σ:St) (H:Hp) (D:Ends),Inv X ab σ H s->t D σ H->af (aj X.prog X.w) X.A (exec st X.env) (SP X ab D) X.xe s
def PSs(X:Cx)(st:List au)(t:TS):Prop:=
 ∀(ab:List (aa×Obj)) (s:ae) (σ:St) (H:Hp) (D:Ends),Inv X ab σ H s->t D σ H->af (aj X.prog X.w) X.A (execs st X.env) (SP X ab D) X.xe s
variable {M:Model}{A:aD}{E:ac->ae->Prop}
theorem thn{α:Type}{t:Sem α}{Q Q':α->ae->Prop}(h:af M A t Q E s)(hQ:∀a s,Q a s->Q' a s):af M A t Q' E s:=cB h hQ fun _ _ x=>x
variable {ta tb:TE}{pos:Pos}{Q:ac->ae->Prop}{op:CmpOp}
section
theorem bin{a b:ag}(ha:PE X a ta)(hb:PE X b tb){σ:St}{R:V->V->Hp->Prop}(I:Inv X ab σ H s)(h:ta σ H fun x H1=>tb σ H1 fun y H2=>R x y H2)
  {α:Type} {Q:α->ae->Prop} {f:ac->ac->Sem α}
  (hf:∀v u s2 x y H2,Inv X ab σ H2 s2->RelV x v->RelV y u->R x y H2->af (aj X.prog X.w) X.A (f v u) Q X.xe s2) :
  af (aj X.prog X.w) X.A (eval a X.env) (fun v s₁=>af (aj X.prog X.w) X.A (eval b X.env) (fun u s₂=>af (aj X.prog X.w) X.A (f v u) Q X.xe s₂) X.xe s₁) X.xe s:=by
 refine thn (ha ab s σ H _ I h) fun v s1 hM=>?_
 obtain⟨x,H1,I1,r1,q1⟩:=hM
 refine thn (hb ab s1 σ H1 _ I1 q1) fun u s2 hM=>?_
 obtain⟨y,H2,I2,r2,q2⟩:=hM
 exact hf v u s2 x y H2 I2 r1 r2 q2
def jfU(i:Nat):TE:=fun σ H Q=>∃v,σ[i]?=some (some v)/\Q v H
def tC(v:V):TE:=fun _ H Q=>Q v H
theorem jgb(hN:X.N[i]?=some x)(hv:Vis X.env.scope x)(hd:(x == ("__debug__" : Str))=false:=by decide)(fZ:(x == ("__classdict__" : Str))=false:=by decide):PE X (.Name x pos) (jfU i):=by
 intro ab s σ H Q I h;obtain⟨v,e,h⟩:=h;obtain⟨m,hn,hl⟩:=I.loc;obtain⟨u,r,l⟩:=hl i x v hN e hv;have fin:EP X ab σ Q u s:=⟨v,H,I,r,h⟩
 rcases l with⟨hk,hm⟩ | ⟨hk,c,hc,BS⟩
 .exact DJ (wpAny_loadName_local I.ok.kind hk hn hm fin) hd
 .rcases hk with hk | hk
  .exact DJ (wpAny_loadName_cell I.ok.kind hk hc BS fin) hd
  .exact DJ (wpAny_loadName_free I.ok.kind hk hc BS fin fZ) hd
theorem je{i j pos}:PE X (.Constant (.int i) j pos) (tC (.int i)):=fun _ _ _ H _ I h=>wpAny_Constant_int ⟨.int i,H,I.tok _,⟨_,rfl⟩,h⟩
theorem jfJ{b j pos}:PE X (.Constant (.bool b) j pos) (tC (.bl b)):=fun _ _ _ H _ I h=>Constant_bool ⟨.bl b,H,I,rfl,h⟩
theorem jgd{j pos}:PE X (.Constant .none j pos) (tC .non):=fun _ _ _ H _ I h=>Constant_none ⟨.non,H,I,rfl,h⟩
theorem kc{x j pos}:PE X (.Constant (.str x) j pos) (tC (.str x)):=fun _ _ _ H _ I h=>Calls.Constant_str ⟨.str x,H,I.tok _,⟨_,rfl⟩,h⟩
def Gl(X:Cx)(x:Str):Prop:=X.env.kindOf x=some .globalImplicit
theorem Y4{E:ac->ae->Prop}{σ:St}{pos:Pos}(I:Inv X ab σ H s)(hg:Gl X x)(hm:X.mg x=some u)(h:Q u s)
  (hd:(x == ("__debug__" : Str))=false:=by decide):af (aj X.prog X.w) X.A (eval (.Name x pos) X.env) Q E s:=
 OA I.ok.kind hg (Calls.loadGlobal_global (by rw[I.ok.glob];exact I.mod.glob.keeps I.bk) hm h) hd
theorem yh{E:ac->ae->Prop}{σ:St}{pos:Pos}(I:Inv X ab σ H s)(hg:Gl X x)(hm:X.mg x=none)(hv:bS x=some u)(h:Q u s)
  (hn:x≠"__name__":=by decide) (hd:(x == ("__debug__" : Str))=false:=by decide):af (aj X.prog X.w) X.A (eval (.Name x pos) X.env) Q E s:=by
 obtain⟨mb,h1,h2⟩:=I.mod.blt
 exact OA I.ok.kind hg (Calls.loadGlobal_builtin (by rw[I.ok.glob];exact I.mod.glob.keeps I.bk) hm (by rw[I.ok.blt];exact h1.keeps I.bk) ((h2 x hn).trans hv) h) hd
theorem jeP(hg:Gl X x)(hm:X.mg x=some u)(r:RelV v u)(hd:(x == ("__debug__" : Str))=false:=by decide):PE X (.Name x pos) (tC v):=
 fun _ _ _ H _ I h=>Y4 I hg hm ⟨v,H,I,r,h⟩ hd
theorem jeV{x:Str}{v:V}{u:ac}{pos:Pos}(hg:Gl X x)(hm:X.mg x=none)(hv:bS x=some u)(r:RelV v u)(hn:x≠"__name__":=by decide)(hd:(x == ("__debug__" : Str))=false:=by decide):PE X (.Name x pos) (tC v):=
 fun _ _ _ H _ I h=>yh I hg hm hv ⟨v,H,I,r,h⟩ hn hd
variable {a b:ag}
def PC(X:Cx)(op:CmpOp)(a b:ag)(t:TE):Prop:=
 ∀(ab:List (aa×Obj)) (s:ae) (σ:St) (H:Hp) (Q:VK),Inv X ab σ H s->t σ H Q->
  af (aj X.prog X.w) X.A (eval a X.env) (fun v s₁=>af (aj X.prog X.w) X.A (eval b X.env) (fun u s₂=>af (aj X.prog X.w) X.A (cX op v u) (EP X ab σ Q) X.xe s₂) X.xe s₁) X.xe s
theorem jdJ(b:ag)(h:op≠.In)(h2:op≠.NotIn):j_ op b=false:=by
 have e1:(op == CmpOp.In)=false:=by cases op <;> first | rfl | exact absurd rfl h
 have e2:(op == CmpOp.NotIn)=false:=by cases op <;> first | rfl | exact absurd rfl h2
 cases b <;> simp[j_,e1,e2]
def tB(t:TE):TT:=fun σ H Q=>t σ H fun x H1=>∃c,x=.bl c/\Q c H1
theorem jhv{t:TE}(h:PC X op a b t)(h1:j_ op b=false:=by first | exact jdJ _ (by decide) (by decide) | rfl):PT X (.Compare a [op] [b] pos) (tB t):=by
 intro ab s σ H Q I hw;refine MX (thn (h ab s σ H _ I hw) fun v s1 h1=>thn h1 fun u s2 h2=>thn h2 fun c s3 hM=>?_) h1;obtain⟨x,H1,I1,r1,q1⟩:=hM;obtain⟨d,rfl,q⟩:=q1
 cases r1
 exact nQ ⟨H1,I1,q⟩
theorem jdk{t:TE}(h:PE X e t)(he:∀lD,isTrue e X.env lD=(do let v <- lD;standAt e.pos;holding [v] (truthy v)):=by intro _;rfl):PT X e (tB t):=by
 intro ab s σ H Q I hw;refine isTrue_plain (thn (h ab s σ H _ I hw) fun v s1 hM=>?_) (he _);obtain⟨x,H1,I1,r1,q1⟩:=hM;obtain⟨d,rfl,q⟩:=q1
 cases r1
 exact nQ ⟨H1,I1,q⟩
variable {tA gE:TT}{kh:List ag}
def jgX(t u:TT):TT:=fun σ H Q=>t σ H fun c H1=>if c=true then u σ H1 Q else Q false H1
def tOr(t u:TT):TT:=fun σ H Q=>t σ H fun c H1=>if c=true then Q true H1 else u σ H1 Q
def jgT(t:TT):TT:=fun σ H Q=>t σ H fun c H1=>Q (!c) H1
theorem jbf(ha:PT X a tA):PW X (.BoolOp .And [a] pos) tA:=by
 intro wh ab s σ H Q I h;refine isTrue_and (thn (ha ab s σ H Q I h) fun c s1 e=>?_)
 cases c with
 | true=>exact isTrue_and_nil e
 | false=>exact e
theorem jdg(ha:PT X a tA):PW X (.BoolOp .Or [a] pos) tA:=by
 intro wh ab s σ H Q I h;refine isTrue_or (thn (ha ab s σ H Q I h) fun c s1 e=>?_)
 cases c with
 | false=>exact isTrue_or_nil e
 | true=>exact e
theorem jdh(ha:PT X a tA)(hb:PW X (.BoolOp .And (b :: kh) pos) gE):PW X (.BoolOp .And (a :: b :: kh) pos) (jgX tA gE):=by
 intro wh ab s σ H Q I h;refine isTrue_and (thn (ha ab s σ H _ I h) fun c s1 hM=>?_);obtain⟨H1,I1,q1⟩:=hM
 cases c with
 | true=>exact hb wh ab s1 σ H1 Q I1 q1
 | false=>exact⟨H1,I1,q1⟩
theorem jfI(ha:PT X a tA)(hb:PW X (.BoolOp .Or (b :: kh) pos) gE):PW X (.BoolOp .Or (a :: b :: kh) pos) (tOr tA gE):=by
 intro wh ab s σ H Q I h;refine isTrue_or (thn (ha ab s σ H _ I h) fun c s1 hM=>?_);obtain⟨H1,I1,q1⟩:=hM
 cases c with
 | true=>exact⟨H1,I1,q1⟩
 | false=>exact hb wh ab s1 σ H1 Q I1 q1
theorem jdl(ha:PT X a tA):PT X (.UnaryOp .Not a pos) (jgT tA):=by
 intro ab s σ H Q I h;exact isTrue_not (ha ab s σ H (fun c H1=>Q (!c) H1) I h)
def jfF(ta tb:TE):TE:=fun σ H Q=>ta σ H fun x H1=>∃c,x=.bl c/\if c=true then tb σ H1 Q else Q (.bl false) H1
theorem jgc{op}{t:TE}(h:PE X a t):PE X (.BoolOp op [a] pos) t:=fun ab s σ H Q I hw=>BoolOp_one (h ab s σ H Q I hw)
theorem jgf(ha:PE X a ta)(hb:PE X (.BoolOp .And (b :: kh) pos) tb):PE X (.BoolOp .And (a :: b :: kh) pos) (jfF ta tb):=by
 intro ab s σ H Q I h;refine BoolOp_and (thn (ha ab s σ H _ I h) fun v s1 hM=>?_);obtain⟨x,H1,I1,r1,q1⟩:=hM;obtain⟨c,rfl,q1⟩:=q1
 cases r1
 refine nQ ?_
 cases c with
 | true=>exact hb ab s1 σ H1 Q I1 q1
 | false=>exact⟨.bl false,H1,I1,rfl,q1⟩
end
def SqL(K:ai)(H:Hp)(a:aa)(xs:List V):Prop:=
 Rd H a (.lst xs)\/
  ∃(o:Obj) (its:Array ac) (n:Nat),K.lookup a=some o/\o.cls=.type "list"/\o.dict=none/\o.data=.seq its n/\its.size<=aB/\Vals xs its.toList
def SqT(K:ai)(H:Hp)(a:aa)(xs:List V):Prop:=
 Rd H a (.tup xs)\/
  ∃(o:Obj) (its:Array ac) (n:Nat),K.lookup a=some o/\o.cls=.type "tuple"/\o.data=.seq its n/\its.size<=aB/\Vals xs its.toList
def jhz:ac->Option V
 | .none=>some .non
 | .bool b=>some (.bl b)
 | .int i _=>some (.int i)
 | .str x _=>some (.str x)
 | .bytes b _=>some (.byt b)
 | .float b _=>some (.flt b)
 | .ref a=>some (.ref a)
 | .type n=>some (.ty n)
 | _=>none
theorem RelV.abs{x:V}(r:RelV x u):jhz u=some x:=by
 cases x with
 | non=>cases r;rfl
 | bl _=>cases r;rfl
 | int _=>obtain⟨t,rfl⟩:=r;rfl
 | str _=>obtain⟨t,rfl⟩:=r;rfl
 | byt _=>obtain⟨t,rfl⟩:=r;rfl
 | flt _=>obtain⟨t,rfl⟩:=r;rfl
 | ref _=>cases r;rfl
 | ty _=>cases r;rfl
variable {y:V}
theorem RelV.inj{x:V}(r:RelV x u)(q:RelV y u):x=y:=dW (r.abs.symm.trans q.abs)
theorem Vals.inj:∀{xs ys:List V} {us:List ac},Vals xs us->Vals ys us->xs=ys
 | _,_,_,.nil,.nil=>rfl
 | _,_,_,.cons r t,.cons r' t'=>by rw[r.inj r',Vals.inj t t']
variable {K:ai}
section
variable {σ:St}{ys:List V}
theorem SqL.of(h:H a=some (.lst xs)):SqL K H a xs:=.inl (.inl h)
theorem SqT.of(h:H a=some (.tup xs)):SqT K H a xs:=.inl (.inl h)
theorem Inv.list(I:Inv X ab σ H s)(h:SqL X.K H a xs):∃its:List ac,Vals xs its/\PlainL s.heap a its.toArray/\xs.length<=aB:=by
 rcases h with h | ⟨o,its,n,hk,hc,hd,hs,hz,r⟩
 .obtain⟨z,its,n,r,e⟩:=h.ok I.hok
  exact⟨its,r,⟨_,n,e,rfl,rfl,rfl⟩,z⟩
 .refine⟨its.toList,r,⟨o,n,I.kIn a o hk,hc,hd,by simpa using hs⟩,?_⟩
  have e:=r.length;simp only[fL]at e;omega
theorem Inv.tuple(I:Inv X ab σ H s)(h:SqT X.K H a xs):∃its:List ac,Vals xs its/\IsTup s.heap a its.toArray/\xs.length<=aB:=by
 rcases h with h | ⟨o,its,n,hk,hc,hs,hz,r⟩
 .obtain⟨z,its,r,p⟩:=h.ok I.hok
  exact⟨its,r,p,z⟩
 .refine⟨its.toList,r,⟨o,I.kIn a o hk,hc,n,by simpa using hs⟩,?_⟩
  have e:=r.length;simp only[fL]at e;omega
theorem Inv.list_inj(I:Inv X ab σ H s)(h:SqL X.K H a xs)(h':SqL X.K H a ys):xs=ys:=by
 obtain⟨its,r,⟨o,n,e,_,_,d⟩,_⟩:=I.list h;obtain⟨its',r',⟨o',n',e',_,_,d'⟩,_⟩:=I.list h';rw[e]at e';cases e';rw[d]at d';injection d' with d1 _;have:its=its':=by simpa using Qi P9 d1
 subst this;exact r.inj r'
theorem Inv.tuple_inj(I:Inv X ab σ H s)(h:SqT X.K H a xs)(h':SqT X.K H a ys):xs=ys:=by
 obtain⟨its,r,⟨o,e,_,n,d⟩,_⟩:=I.tuple h;obtain⟨its',r',⟨o',e',_,n',d'⟩,_⟩:=I.tuple h';rw[e]at e';cases e';rw[d]at d';injection d' with d1 _;have:its=its':=by simpa using Qi P9 d1
 subst this;exact r.inj r'
end
abbrev Cx.wish(X:Cx)(E:ac->ae->Prop):Cx:={ X with xe:=E }
abbrev Cx.nox(X:Cx):Cx:=X.wish fun _ _=>False
theorem Cx.Ok.wish(ok:X.Ok)(E:ac->ae->Prop):(X.wish E).Ok:=
 ⟨ok.mod,ok.kind,ok.glob,ok.blt,ok.above,ok.inj,ok.has,ok.cab,ok.hd,ok.frames,ok.stk,ok.exf,ok.bs,ok.bsz,ok.noex,ok.exfs,ok.funs,ok.frf⟩
theorem Cx.Ok.unwish(ok:(X.wish E).Ok):X.Ok:=
 ⟨ok.mod,ok.kind,ok.glob,ok.blt,ok.above,ok.inj,ok.has,ok.cab,ok.hd,ok.frames,ok.stk,ok.exf,ok.bs,ok.bsz,ok.noex,ok.exfs,ok.funs,ok.frf⟩
section
variable {σ:St}
theorem Inv.wish(I:Inv X ab σ H s)(E:ac->ae->Prop):Inv (X.wish E) ab σ H s:=⟨I.ok.wish E,I.os,I.bare,I.base,I.loc,I.cell,I.free,I.freeC,I.pin,I.hok,I.len⟩
theorem Inv.unwish(I:Inv (X.wish E) ab σ H s):Inv X ab σ H s:=⟨I.ok.unwish,I.os,I.bare,I.base,I.loc,I.cell,I.free,I.freeC,I.pin,I.hok,I.len⟩
theorem SP.unwish{D:Ends}{f:Flow}(h:SP (X.wish E) ab D f s'):SP X ab D f s':=by
 cases f with
 | next=>obtain⟨σ',H',I,q⟩:=h;exact⟨σ',H',I.unwish,q⟩
 | brk=>obtain⟨σ',H',I,q⟩:=h;exact⟨σ',H',I.unwish,q⟩
 | cont=>obtain⟨σ',H',I,q⟩:=h;exact⟨σ',H',I.unwish,q⟩
 | ret u=>obtain⟨v,σ',H',I,r,q⟩:=h;exact⟨v,σ',H',I.unwish,r,q⟩
theorem PSs.nox{st:List au}{t:TS}(h:PSs X.nox st t):PSs X st t:=fun ab s σ H D I hw=>
 cB (h ab s σ H D (I.wish _) hw) (fun _ _ q=>q.unwish) fun _ _ z=>fK z
end
section
variable {st:au}{kh:List au}{t u:TS}{te:TE}
def jfA:TS:=fun D σ H=>D.nx σ H
def jfV(t u:TS):TS:=fun D σ H=>t { D with nx:=u D } σ H
theorem j4:PSs X [] jfA:=fun _ _ σ H _ I h=>wW ⟨σ,H,I,h⟩
theorem jm(h1:PS X st t)(h2:PSs X kh u):PSs X (st :: kh) (jfV t u):=by
 intro ab s σ H D I h;refine MY (thn (h1 ab s σ H { D with nx:=u D } I h) fun f s1 q=>?_)
 cases f with
 | next=>
  obtain⟨σ',H',I',q⟩:=q;exact h2 ab s1 σ' H' D I' q
 | ret v=>exact q
 | brk=>exact q
 | cont=>exact q
theorem js(h1:PS X st t):PSs X [st] t:=by
 intro ab s σ H D I h;refine MY (thn (h1 ab s σ H D I h) fun f s1 q=>?_)
 cases f with
 | next=>exact wW q
 | ret v=>exact q
 | brk=>exact q
 | cont=>exact q
theorem Inv.quiet{σ:St}(I:Inv X ab σ H s):interactive X.env=false:=by simp[interactive,I.ok.kind]
def jfC(te:TE):TS:=fun D σ H=>te σ H fun _ H1=>D.nx σ H1
theorem qD(he:PE X e te)(hs:iz e none pos.line X.env=pure false:=by rfl):PS X (.Expr e pos) (jfC te):=by
 intro ab s σ H D I h;exact wpAny_Expr_any (thn (he ab s σ H _ I h) fun v s1 ⟨x,H1,I1,r1,q1⟩=>⟨σ,H1,I1,q1⟩) I.quiet hs
def jgS(te:TE):TS:=fun D σ H=>te σ H D.rt
theorem jN(he:PE X e te):PS X (.Return (some e) pos) (jgS te):=by
 intro ab s σ H D I h;exact wpAny_Return_some (thn (he ab s σ H _ I h) fun v s1 ⟨x,H1,I1,r1,q1⟩=>⟨x,σ,H1,I1,r1,q1⟩)
def jgU(c:TT)(t u:TS):TS:=fun D σ H=>c σ H fun b H1=>if b=true then t D σ H1 else u D σ H1
theorem kB{c:ag}{a b:List au}{tc:TT}(hc:PT X c tc)(ha:PSs X a t)(hb:PSs X b u):PS X (.If c a b pos) (jgU tc t u):=by
 intro ab s σ H D I h;refine wpAny_If (thn (hc ab s σ H _ I h) fun d s1 hM=>?_);obtain⟨H1,I1,q1⟩:=hM
 cases d with
 | true=>exact ha ab s1 σ H1 D I1 q1
 | false=>exact hb ab s1 σ H1 D I1 q1
def jcY:TS:=fun _ _ _=>False
theorem jdm:PS X st jcY:=fun _ _ _ _ _ _ h=>h.elim
end
abbrev TG:=V->St->Hp->(St->Hp->Prop)->Prop
abbrev TGs:=List V->St->Hp->(St->Hp->Prop)->Prop
def PG(X:Cx)(target:ag)(t:TG):Prop:=
 ∀(ab:List (aa×Obj)) (s:ae) (σ:St) (H:Hp) (v:V) (u:ac) (Q:St->Hp->Prop),Inv X ab σ H s->RelV v u->t v σ H Q->
  af (aj X.prog X.w) X.A (assign target X.env u) (fun _ s'=>∃σ' H',Inv X ab σ' H' s'/\Q σ' H') X.xe s
def PGs(X:Cx)(ts:List ag)(t:TGs):Prop:=
 ∀(ab:List (aa×Obj)) (s:ae) (σ:St) (H:Hp) (vs:List V) (us:List ac) (Q:St->Hp->Prop),Inv X ab σ H s->Vals vs us->t vs σ H Q->
  af (aj X.prog X.w) X.A (D5 ((fG ts X.env).map (·.2)) us) (fun _ s'=>∃σ' H',Inv X ab σ' H' s'/\Q σ' H') X.xe s
section
def kU(i:Nat):TG:=fun v σ H Q=>Q (σ.set i (some v)) H
theorem jA{i:Nat}{x:Str}(hN:X.N.Nodup)(hi:X.N[i]?=some x)(hx:Loc X.env.scope x)(hf:X.fn x=true\/X.env.scope.names.lookup x=some .local:=by first | exact .inl rfl | exact .inr rfl | assumption):PG X (.Name x pos) (kU i):=by
 intro ab s σ H v u Q I r h;exact M1 (zY I hN hi hx r (fun s' I'=>⟨_,H,I',h⟩) hf)
def jhi:TGs:=fun vs σ H Q=>vs=[]/\Q σ H
def jfP(t:TG)(u:TGs):TGs:=fun vs σ H Q=>∃v r,vs=v :: r/\t v σ H fun σ' H'=>u r σ' H' Q
theorem kE:PGs X [] jhi:=by
 intro ab s σ H vs us Q I r h;obtain⟨e,h⟩:=h;subst e
 cases r
 exact O2 ⟨σ,H,I,h⟩
theorem jI{e:ag}{es:List ag}{t:TG}{u:TGs}(h1:PG X e t)(h2:PGs X es u)
  (hs:(fG (e :: es) X.env).map (·.2)=assign e X.env :: (fG es X.env).map (·.2):=by rfl):PGs X (e :: es) (jfP t u):=by
 intro ab s σ H vs us Q I r h
 obtain⟨v,vr,e1,h⟩:=h
 subst e1
 cases r with
 | cons r rr=>
  rw[hs]
  refine xK (thn (h1 ab s σ H _ _ _ I r h) fun _ s1 hM=>?_)
  obtain⟨σ1,H1,I1,q1⟩:=hM
  exact h2 ab s1 σ1 H1 _ _ Q I1 rr q1
def jgz(K:ai)(n:Nat)(t:TGs):TG:=fun v σ H Q=>∃a xs,v=.ref a/\SqT K H a xs/\xs.length=n/\t xs σ H Q
theorem qA{es:List ag}{k:Nat}{t:TGs}{n:Nat}(hc:X.calm=true)(h:PGs X es t)
  (hn:(fG es X.env).length=n:=by rfl) (bv:(fG es X.env).findIdx? (·.1)=none:=by rfl):PG X (.Tuple es k pos) (jgz X.K n t):=by
 intro ab s σ H v u Q I r hw
 obtain⟨a,xs,e1,hq,hl,hw⟩:=hw
 subst e1
 cases r
 obtain⟨its,rv,ht,hz⟩:=I.tuple hq
 refine assign_Tuple_tuple (I.ok.hd hc) ht (by simp[hn,<- hl,rv.length]) bv fun h' hx=>?_
 have I1:Inv X ab σ H { s with heap:=h' }:=I.kept (t':=s.toks) fun b o e=>hx b o (aN (aI e)) e
 exact h ab _ σ H xs _ Q I1 (by simpa using rv) hw
def jap(te:TE)(g:TG):TS:=fun D σ H=>te σ H fun x H1=>g x σ H1 D.nx
theorem yK{tg e:ag}{te:TE}{g:TG}(he:PE X e te)(hg:PG X tg g)(hs:wZ [tg] e pos.line X.env=pure false:=by rfl)(hw:w8 [tg] e X.env=pure none:=by rfl)
  (h1:(fG [tg] X.env).map (·.2)=[assign tg X.env]:=by rfl):PS X (.Assign [tg] e pos) (jap te g):=by
 intro ab s σ H D I h
 refine wpAny_Assign_stores (thn (he ab s σ H _ I h) fun v s1 hM=>?_) hs hw
 obtain⟨x,H1,I1,r1,q1⟩:=hM
 rw[h1]
 exact thn (hg ab s1 σ H1 x v _ I1 r1 q1) fun _ s2 q=>q
theorem jH{i:Nat}{x:Str}{e:ag}{te:TE}{dl:Pos}(hN:X.N.Nodup)(hi:X.N[i]?=some x)(hx:Loc X.env.scope x)(he:PE X e te)(hs:iz e (some (.Name x dl)) pos.line X.env=pure false:=by rfl)(hf:X.fn x=true\/X.env.scope.names.lookup x=some .local:=by first | exact .inl rfl | exact .inr rfl | assumption):
  PS X (.Assign [.Name x dl] e pos) (jap te (kU i)):=by
 intro ab s σ H D I h
 refine wpAny_Assign_Name (thn (he ab s σ H _ I h) fun v s1 hM=>?_) hs
 obtain⟨y,H1,I1,r1,q1⟩:=hM
 exact zY I1 hN hi hx r1 (fun s2 I2=>⟨_,H1,I2,q1⟩) hf
def jam(c:TT)(tb:TS):TS:=fun D σ H=>∃W:Nat->St->Hp->Prop,(∃m,W m σ H)/\∀m σ H,W m σ H->
 c σ H fun b H1=>if b=true then ∃N:St->Hp->Prop,(∀σ' H',N σ' H'->∃m',m' < m/\W m' σ' H')/\tb { D with nx:=N,ct:=N,bk:=D.nx } σ H1 else D.nx σ H1
theorem ZC{c:ag}{body:List au}{tc:TT}{tb:TS}(hp:xo (aj X.prog X.w) X.A X.env X.xe)(hc:PT X c tc)(hb:PSs X body tb):PS X (.While c body [] pos) (jam tc tb):=by
 intro ab s σ H D I h;obtain⟨W,⟨m0,w0⟩,eL⟩:=h;refine wpAny_While (codeAny_whileLoop (fun n s'=>∃σ' H',Inv X ab σ' H' s'/\W n σ' H') ?_ m0 ⟨σ,H,I,w0⟩);rintro n s1 ⟨σ1,H1,I1,w1⟩;refine nR hp (thn (hc ab s1 σ1 H1 _ I1 (eL n σ1 H1 w1)) fun b s2 hM=>?_);obtain⟨H2,I2,q2⟩:=hM
 cases b with
 | true=>
  obtain⟨N,hN,q2⟩:=q2;rw[Qg rfl];refine nR hp (thn (hb ab s2 σ1 H2 _ I2 q2) fun f s3 q3=>?_)
  cases f with
  | next=>
   obtain⟨σ3,H3,I3,n3⟩:=q3;obtain⟨m',hm,w3⟩:=hN σ3 H3 n3;exact⟨m',hm,σ3,H3,I3,w3⟩
  | cont=>
   obtain⟨σ3,H3,I3,n3⟩:=q3;obtain⟨m',hm,w3⟩:=hN σ3 H3 n3;exact⟨m',hm,σ3,H3,I3,w3⟩
  | brk=>exact q3
  | ret v=>exact q3
 | false=>
  rw[Qf bB];exact wW ⟨σ1,H2,I2,q2⟩
end
structure It where
 go:Nat->Hp->Prop
 yld:Nat->Hp->V->Hp->Prop
 stop:Nat->Hp->Prop
def Jm(X:Cx)(ab:List (aa×Obj))(H:Hp)(b:aa):Prop:=
 H b=none/\b≠X.env.locals/\b ∉ X.fs/\(b∈X.ex\/X.s₀.heap.objs.size<=b)/\(∀x c,X.env.cells.lookup x=some c->c≠b)/\∀p∈X.pn++ab,p.1≠b
theorem Inv.fpOk{σ:St}(I:Inv X ab σ H s)(hb:s.heap.objs.size<=b)(hn:H' b=none):Jm X ab H' b:=by
 refine⟨hn,gZ (cm I.lt hb),I.nofs hb,.inr (aZ I.sz hb),fun x c e z=>?_,fun p hp z=>?_⟩
 .obtain⟨v,q⟩:=I.cell x c e
  exact absurd (cm q.lt (by rw[z];exact hb)) (mF _)
 .exact absurd (cm (aI (I.pin p hp).1) (by rw[z];exact hb)) (mF _)
structure Turn(P:av)(w:ar)(K:ai)(tg:ag)(J:It)(fp:List aa)(it:aa)(tn:Nat->aq->Prop):Prop where
 mem:it∈fp
 obj:∀i h,tn i h->∀b∈fp,∃o,h.get? b=some o/\∀v,o.data≠.cell v
 keep:∀i h h',tn i h->(∀b∈fp,∀o,h.get? b=some o->h'.get? b=some o)->tn i h'
 item:∀(X:Cx),X.prog=P->X.w=w->X.K=K->X.calm=true->∀(i:Nat) (ab:List (aa×Obj)) (s:ae) (σ:St) (H:Hp) (E:ac->ae->Prop),Inv X ab σ H s->(∀b∈fp,Jm X ab H b)->tn i s.heap->J.go i H->
  af (aj P w) X.A (cC (.ref it)) (fun r s1=>∃u,r=some u/\
   af (aj P w) X.A (tM tg (.ref it) u) (fun _ s2=>∃x H',Inv X ab σ H' s2/\RelV x u/\J.yld i H x H'/\tn (i+1) s2.heap/\∀b∈fp,H' b=none) E s1) E s
 done:∀(X:Cx),X.prog=P->X.w=w->X.K=K->X.calm=true->∀(i:Nat) (ab:List (aa×Obj)) (s:ae) (σ:St) (H:Hp) (E:ac->ae->Prop),Inv X ab σ H s->(∀b∈fp,Jm X ab H b)->tn i s.heap->J.stop i H->
  af (aj P w) X.A (cC (.ref it)) (fun r s1=>r=none/\Inv X ab σ H s1) E s
 self:∀(A:aD) (i:Nat) (s:ae) (Q:ac->ae->Prop) (E:ac->ae->Prop),tn i s.heap->Q (.ref it) s->af (aj P w) A (tL (.ref it)) Q E s
abbrev TI:=St->Hp->(It->Hp->Prop)->Prop
def PIE(X:Cx)(ab:List (aa×Obj))(σ:St)(tg:ag)(R:It->Hp->Prop)(oP:ac)(s2:ae):Prop:=
 ∃(it:aa) (fp:List aa) (tn:Nat->aq->Prop) (J:It) (H':Hp),oP=.ref it/\Inv X ab σ H' s2/\Turn X.prog X.w X.K tg J fp it tn/\tn 0 s2.heap/\(∀b∈fp,Jm X ab H' b)/\R J H'
def PI(X:Cx)(tg iter:ag)(wi:TI):Prop:=
 ∀(ab:List (aa×Obj)) (s:ae) (σ:St) (H:Hp) (R:It->Hp->Prop),Inv X ab σ H s->wi σ H R->
  af (aj X.prog X.w) X.A (eval iter X.env) (fun v s1=>af (aj X.prog X.w) X.A (tL v) (PIE X ab σ tg R) X.xe s1) X.xe s
variable {tg:ag}
theorem jd2{it:aa}{o:Obj}{n:String}{vs:Array ac}{Q:Unit->ae->Prop}(ho:s.heap.get? it=some o)(hc:o.cls=.type n)(hd:o.data=.fields vs)
  (hn:["enumerate","zip","dict_itemiterator","dict_reverseitemiterator","odict_iterator","itertools.zip_longest","itertools.pairwise"].contains n=false) (hQ:Q () s):af M A (tM tg (.ref it) u) Q E s:=by
 unfold tM
 cases tg <;> first
  | exact al hQ
  | (cases u <;> first
    | exact al hQ
    | (refine ad (p7 ho ?_)
       rw[hc,hd]
       show af M A (if (["enumerate","zip","dict_itemiterator","dict_reverseitemiterator","odict_iterator","itertools.zip_longest","itertools.pairwise"].contains n && vs[0]? == some (bx _))=true then _ else _) Q E s
       rw[Qf (by intro h;rw[hn,Bool.false_and]at h;cases h)]
       exact al hQ))
def Itl(K:ai)(a:aa):It:=
 ⟨fun i H=>∃xs x,SqL K H a xs/\xs[i]?=some x,fun i H x H'=>H'=H/\∀xs,SqL K H a xs->xs[i]?=some x,fun i H=>∃xs,SqL K H a xs/\xs.length<=i⟩
def Itt(K:ai)(a:aa):It:=
 ⟨fun i H=>∃xs x,SqT K H a xs/\xs[i]?=some x,fun i H x H'=>H'=H/\∀xs,SqT K H a xs->xs[i]?=some x,fun i H=>∃xs,SqT K H a xs/\xs.length<=i⟩
def Itr(lo:Int)(n:Nat):It:=⟨fun i _=>i < n,fun i H x H'=>H'=H/\x=.int (lo+i),fun i _=>n<=i⟩
theorem jbJ{P:av}(a it:aa):Turn P w K tg (Itl K a) [it] it (fun i h=>h.IsListIter it a i) where
 mem:=by simp
 obj:=fun i h st b hb=>by
  have e:b=it:=by simpa using hb
  subst e;obtain⟨o,e,c,d⟩:=st;exact⟨o,e,fun v z=>by rw[d]at z;cases z⟩
 keep:=fun i h h' st k=>st.at fun o e=>k it (by simp) o e
 item:=by
  intro X hP hw hK hc i ab s σ H E I hf st hg;subst hP hw hK;obtain⟨xs,x,hq,hx⟩:=hg;obtain⟨its,rv,p,hz⟩:=I.list hq;obtain⟨u,hu,ru⟩:=rv.get hx;obtain⟨f0,f1,f2,f3,f4,f5⟩:=hf it (by simp);refine MS st p.isList (x:=u) (by simpa using hu) fun h' bH sb=>?_
  have I1:Inv X ab σ H { s with heap:=h' }:=I.turned (t':=s.toks) (fun b o hb e=>(sb.2 b hb).trans e) f0 f1 f3 f4 f5;obtain⟨o,e,c,d⟩:=id bH;exact⟨u,rfl,jd2 (s:={ s with heap:=h' }) e c d (by decide) ⟨x,H,I1,ru,⟨rfl,fun ys hy=>by rw[I.list_inj hy hq];exact hx⟩,bH,fun b hb=>(hf b hb).1⟩⟩
 done:=by
  intro X hP hw hK hc i ab s σ H E I hf st hg;subst hP hw hK;obtain⟨xs,hq,hx⟩:=hg;obtain⟨its,rv,p,hz⟩:=I.list hq;obtain⟨f0,f1,f2,f3,f4,f5⟩:=hf it (by simp);have hl:=rv.length;exact MT (I.ok.hd hc) st p.isList (by simp;omega) fun h' eb=>⟨rfl,I.turned (t':=s.toks) (fun b o hb e=>eb b o hb e) f0 f1 f3 f4 f5⟩
 self:=fun _ _ _ _ _ st h=>wpAny_pyIter_listiter st h
theorem jaj{P:av}(a it:aa):Turn P w K tg (Itt K a) [it] it (fun i h=>h.IsTupleIter it a i) where
 mem:=by simp
 obj:=fun i h st b hb=>by
  have e:b=it:=by simpa using hb
  subst e;obtain⟨o,e,c,d⟩:=st;exact⟨o,e,fun v z=>by rw[d]at z;cases z⟩
 keep:=fun i h h' st k=>st.at fun o e=>k it (by simp) o e
 item:=by
  intro X hP hw hK hc i ab s σ H E I hf st hg;subst hP hw hK;obtain⟨xs,x,hq,hx⟩:=hg;obtain⟨its,rv,p,hz⟩:=I.tuple hq;obtain⟨u,hu,ru⟩:=rv.get hx;obtain⟨f0,f1,f2,f3,f4,f5⟩:=hf it (by simp);refine wpAny_pyNext_tuple_item st (show s.heap.IsTuple a its.toArray from p) (x:=u) (by simpa using hu) fun h' bH sb=>?_
  have I1:Inv X ab σ H { s with heap:=h' }:=I.turned (t':=s.toks) (fun b o hb e=>(sb.2 b hb).trans e) f0 f1 f3 f4 f5;obtain⟨o,e,c,d⟩:=id bH;exact⟨u,rfl,jd2 (s:={ s with heap:=h' }) e c d (by decide) ⟨x,H,I1,ru,⟨rfl,fun ys hy=>by rw[I.tuple_inj hy hq];exact hx⟩,bH,fun b hb=>(hf b hb).1⟩⟩
 done:=by
  intro X hP hw hK hc i ab s σ H E I hf st hg;subst hP hw hK;obtain⟨xs,hq,hx⟩:=hg;obtain⟨its,rv,p,hz⟩:=I.tuple hq;obtain⟨f0,f1,f2,f3,f4,f5⟩:=hf it (by simp);have hl:=rv.length;exact wpAny_pyNext_tuple_end (I.ok.hd hc) st (show s.heap.IsTuple a its.toArray from p) (by simp;omega) fun h' eb=>⟨rfl,I.turned (t':=s.toks) (fun b o hb e=>eb b o hb e) f0 f1 f3 f4 f5⟩
 self:=fun _ _ _ _ _ st h=>wpAny_pyIter_tupleiter st h
theorem jak{P:av}(it:aa)(lo:Int)(n:Nat):Turn P w K tg (Itr lo n) [it] it (fun i h=>IsRangeIter h it (lo+(i:Nat) * 1) ((n:Int) - (i:Nat)) 1) where
 mem:=by simp
 obj:=fun i h st b hb=>by
  have e:b=it:=by simpa using hb
  subst e;exact⟨_,st,fun v z=>by
   have z':Data.fields _=Data.cell v:=z
   cases z'⟩
 keep:=fun i h h' st k=>k it (by simp) _ st
 item:=by
  intro X hP hw hK hc i ab s σ H E I hf st hg;subst hP hw hK;obtain⟨f0,f1,f2,f3,f4,f5⟩:=hf it (by simp);have W:=Walks.range (prog:=X.prog) (w:=X.w) (I.ok.hd hc) it lo 1 n;refine W.item i s _ _ hg st fun v h' tk hv bH kk=>?_
  obtain⟨t,rfl⟩:=hv;have I1:Inv X ab σ H { s with heap:=h',toks:=tk }:=I.turned (fun b o hb e=>kk b o (by simpa using hb) e) f0 f1 f3 f4 f5;refine⟨_,rfl,jd2 (s:={ s with heap:=h',toks:=tk }) (n:="range_iterator") bH rfl rfl (by decide) ⟨.int (lo+i),H,I1,⟨t,?_⟩,⟨rfl,rfl⟩,bH,fun b hb=>(hf b hb).1⟩⟩;rw[x_]
 done:=by
  intro X hP hw hK hc i ab s σ H E I hf st hg;subst hP hw hK;obtain⟨f0,f1,f2,f3,f4,f5⟩:=hf it (by simp);exact wpAny_pyNext_range_end (I.ok.hd hc) st (by have:n<=i:=hg;omega) fun h' eb=>⟨rfl,I.turned (t':=s.toks) (fun b o hb e=>eb b o hb e) f0 f1 f3 f4 f5⟩
 self:=fun _ _ _ _ _ st h=>wpAny_pyIter_rangeiter st h
variable {fp:List aa}
section
def jfN(K:ai)(tl:TE):TI:=fun σ H R=>tl σ H fun x H1=>∃a,x=.ref a/\(∃xs,SqL K H1 a xs)/\R (Itl K a) H1
def jhh(K:ai)(tl:TE):TI:=fun σ H R=>tl σ H fun x H1=>∃a,x=.ref a/\(∃xs,SqT K H1 a xs)/\R (Itt K a) H1
theorem qe{l:ag}{tl:TE}(hl:PE X l tl):PI X tg l (jfN X.K tl):=by
 intro ab s σ H R I h;refine thn (hl ab s σ H _ I h) fun v s1 hM=>?_
 obtain⟨x,H1,I1,r1,q1⟩:=hM;obtain⟨a,e,⟨xs,hq⟩,q⟩:=q1;subst e
 cases r1
 obtain⟨its,rv,p,hz⟩:=I1.list hq;refine wT p.isList ?_;refine⟨s1.heap.objs.size,[s1.heap.objs.size],_,_,H1,rfl,I1.kept (t':=s1.toks) fun b o e=>aF _ e,jbJ a _,⟨_,bz _ rfl,rfl,rfl⟩,fun b hb=>?_,q⟩;have e:b=s1.heap.objs.size:=by simpa using hb
 subst e;exact I1.fpOk (ay _) (I1.hok.fresh (ay _))
theorem zM{l:ag}{tl:TE}(hl:PE X l tl):PI X tg l (jhh X.K tl):=by
 intro ab s σ H R I h;refine thn (hl ab s σ H _ I h) fun v s1 hM=>?_
 obtain⟨x,H1,I1,r1,q1⟩:=hM;obtain⟨a,e,⟨xs,hq⟩,q⟩:=q1;subst e
 cases r1
 obtain⟨its,rv,p,hz⟩:=I1.tuple hq;refine tJ (show s1.heap.IsTuple a its.toArray from p) ?_;refine⟨s1.heap.objs.size,[s1.heap.objs.size],_,_,H1,rfl,I1.kept (t':=s1.toks) fun b o e=>aF _ e,jaj a _,⟨_,bz _ rfl,rfl,rfl⟩,fun b hb=>?_,q⟩;have e:b=s1.heap.objs.size:=by simpa using hb
 subst e;exact I1.fpOk (ay _) (I1.hok.fresh (ay _))
theorem jdf{σ:St}{R:It->Hp->Prop}{lo hi:Int}{t u v:Tok}{tk:Nat}(I:Inv X ab σ H s)(h1:-(2 ^ 62)<=lo)(h2:lo < 2 ^ 62)(h3:-(2 ^ 62)<=hi)(h4:hi < 2 ^ 62)
  (q:R (Itr lo (hi - lo).toNat) H):af (aj X.prog X.w) X.A (tL (.ref s.heap.objs.size)) (PIE X ab σ tg R) E { s with heap:=s.heap.push { cls:=.type "range",data:=.fields #[.int lo t,.int hi u,.int 1 v] },toks:=tk }:=by
 refine wpAny_pyIter_range (IsRange.new ..) (small_one h1 h2 h3 h4) ?_
 have I1:Inv X ab σ H { s with heap:=s.heap.push { cls:=.type "range",data:=.fields #[.int lo t,.int hi u,.int 1 v] },toks:=tk }:=I.kept fun b o e=>aF _ e
 refine⟨(s.heap.push { cls:=.type "range",data:=.fields #[.int lo t,.int hi u,.int 1 v] }).objs.size,[(s.heap.push { cls:=.type "range",data:=.fields #[.int lo t,.int hi u,.int 1 v] }).objs.size],_,_,H,rfl,
  I1.kept (t':=tk) fun b o e=>aF _ e,jak _ lo (hi - lo).toNat,?_,fun b hb=>?_,q⟩
 .have e1:lo+((0:Nat):Int) * 1=lo:=by simp
  have e2:(((hi - lo).toNat:Nat):Int) - ((0:Nat):Int)=Builtin.Range.rangeSize lo hi 1:=by rw[rangeSize_one];split <;> omega
  show IsRangeIter _ _ (lo+((0:Nat):Int) * 1) ((((hi - lo).toNat:Nat):Int) - ((0:Nat):Int)) 1
  rw[e1,e2]
  exact bz _ rfl
 .have e:b=(s.heap.push { cls:=.type "range",data:=.fields #[.int lo t,.int hi u,.int 1 v] }).objs.size:=by simpa using hb
  subst e
  exact I1.fpOk (ay _) (I1.hok.fresh (ay _))
def jfM(ta:TA):TI:=fun σ H R=>ta σ H fun vs H1=>∃j:Int,vs=[.int j]/\-(2 ^ 62)<=j/\j < 2 ^ 62/\R (Itr 0 j.toNat) H1
theorem qV{a:ag}{ta:TA}{p pos:Pos}(hg:Gl X "range")(hm:X.mg "range" = none)(ha:PA X [a] ta)(hs:bo [a] X.env=[(false,eval a X.env)]:=by rfl):PI X tg (.Call (.Name "range" p) [a] [] pos) (jfM ta):=by
 intro ab s σ H R I h;refine Call_ (yh I hg hm boot_range (rA (thn (ha pos ab s σ H _ I h) fun us s1 hM=>?_) hs rfl));obtain⟨vs,H1,I1,r1,q1⟩:=hM;obtain⟨j,e,q1,q2,q⟩:=q1;subst e
 cases r1 with
 | cons r rr=>
  cases rr
  obtain⟨t,rfl⟩:=r;exact call_range_1 (jdf I1 (by omega) (by omega) q1 q2 (by simpa using q))
def jgV(wi:TI)(g:TG)(tb:TS):TS:=fun D σ H=>wi σ H fun J H1=>∃W:Nat->Nat->St->Hp->Prop,(∃m,W 0 m σ H1)/\∀i m σ H,W i m σ H->
 (J.stop i H/\D.nx σ H)\/(J.go i H/\∃N:St->Hp->Prop,(∀σ' H',N σ' H'->∃m',m' < m/\W (i+1) m' σ' H')/\∀x H',J.yld i H x H'->g x σ H' fun σ2 H2=>tb { D with nx:=N,ct:=N,bk:=D.nx } σ2 H2)
def zL(fp:List aa)(h:aq):List (aa×Obj):=fp.filterMap fun b=>(h.get? b).map fun o=>(b,o)
theorem kX{o:Obj}(hb:b∈fp)(e:h.get? b=some o):(b,o)∈zL fp h:=Pu.mpr ⟨b,hb,by rw[e];rfl⟩
theorem jb7{p:aa×Obj}(hp:p∈zL fp h):p.1∈fp/\h.get? p.1=some p.2:=by
 obtain⟨b,hb,e⟩:=Pu.mp hp
 cases q:h.get? b with
 | none=>rw[q]at e;cases e
 | some o=>
  rw[q]at e;have e':(b,o)=p:=dW e;subst e';exact⟨hb,q⟩
theorem Inv.pinned{σ:St}(I:Inv X ab σ H s)(hf:∀b∈fp,Jm X ab H b)(ho:∀b∈fp,∃o,s.heap.get? b=some o/\∀v,o.data≠.cell v):Inv X (ab++zL fp s.heap) σ H s:=
 I.pins_of fun p hp=>(cZ.mp hp).elim (fun z=>I.pin p (cE _ z)) fun z=>by
  obtain⟨hb,e⟩:=jb7 z;obtain⟨f0,f1,f2,_⟩:=hf p.1 hb;obtain⟨o,e',d⟩:=ho p.1 hb;rw[e]at e';cases e';exact⟨e,f0,f1,f2,d⟩
theorem Inv.unpinned{pl:List (aa×Obj)}{σ:St}(I:Inv X (ab++pl) σ H s):Inv X ab σ H s:=I.pins_of fun p hp=>I.pin p (cE _ (iJ _ hp))
theorem zd{iter:ag}{body:List au}{wi:TI}{g:TG}{tb:TS}{pos:Pos}(hp:xo (aj X.prog X.w) X.A X.env X.xe)(hc:X.calm=true)(hi:PI X tg iter wi)(hg:PG X tg g)(hb:PSs X body tb)
  (hs:∀x,gV iter X.env x=pure x:=by intro _;rfl):PS X (.For tg iter body [] pos) (jgV wi g tb):=by
 intro ab s σ H D I h
 refine wpAny_For (thn (hi ab s σ H _ I h) fun v s1 h1=>thn h1 fun oP s2 h2=>?_) hs
 obtain⟨it,fp,tn,J,H2,e,I2,T,eX,f2,W,⟨m0,w0⟩,eL⟩:=h2
 subst e
 have cF:∀{H':Hp},(∀b∈fp,H' b=none)->∀b∈fp,Jm X ab H' b:=fun hn b hb=>⟨hn b hb,(f2 b hb).2⟩
 refine codeAny_forLoop_any (fun n s'=>∃i σ' H',Inv X ab σ' H' s'/\tn i s'.heap/\(∀b∈fp,H' b=none)/\W i n σ' H') ?_ m0 ⟨0,σ,H2,I2,eX,fun b hb=>(f2 b hb).1,w0⟩
 rintro n s3 ⟨i,σ3,H3,I3,st3,Cq,w3⟩
 rcases eL i n σ3 H3 w3 with⟨stop,qn⟩ | ⟨go,N,hN,step⟩
 .refine nR hp (thn (T.done X rfl rfl rfl hc i ab s3 σ3 H3 X.xe I3 (cF Cq) st3 stop) fun r s4 ⟨hr,I4⟩=>?_)
  subst hr
  exact wW ⟨σ3,H3,I4,qn⟩
 .refine nR hp (thn (T.item X rfl rfl rfl hc i ab s3 σ3 H3 X.xe I3 (cF Cq) st3 go) fun r s4 ⟨u,hr,h4⟩=>?_)
  subst hr
  refine nR hp (thn h4 fun _ s5 hM=>?_)
  obtain⟨x,H5,I5,r5,y5,ur,Ma⟩:=hM
  have ML:=I5.pinned (cF Ma) (T.obj _ _ ur)
  refine nR hp (thn (hg _ s5 σ3 H5 x u _ ML r5 (step x H5 y5)) fun _ s6 hM=>?_)
  obtain⟨σ6,H6,I6,q6⟩:=hM
  refine nR hp (thn (hb _ s6 σ6 H6 _ I6 q6) fun f s7 q7=>?_)
  have again:∀{σ7:St} {H7:Hp},Inv X (ab++zL fp s5.heap) σ7 H7 s7->N σ7 H7->∃m,m < n/\∃i σ' H',Inv X ab σ' H' s7/\tn i s7.heap/\(∀b∈fp,H' b=none)/\W i m σ' H':=fun {σ7 H7} I7 n7=>by
   obtain⟨m',hm,w7⟩:=hN σ7 H7 n7;refine⟨m',hm,i+1,σ7,H7,I7.unpinned,T.keep _ _ _ ur fun b hb o e=>(I7.pin (b,o) (cE _ (cE _ (kX hb e)))).1,fun b hb=>?_,w7⟩;obtain⟨o,e,d⟩:=T.obj _ _ ur b hb;exact (I7.pin (b,o) (cE _ (cE _ (kX hb e)))).2.1
  cases f with
  | next=>obtain⟨σ7,H7,I7,n7⟩:=q7;exact again I7 n7
  | cont=>obtain⟨σ7,H7,I7,n7⟩:=q7;exact again I7 n7
  | brk=>obtain⟨σ7,H7,I7,q7⟩:=q7;exact⟨σ7,H7,I7.unpinned,q7⟩
  | ret v=>obtain⟨x7,σ7,H7,I7,r7,q7⟩:=q7;exact⟨x7,σ7,H7,I7.unpinned,r7,q7⟩
end
variable {g:TG}
theorem yj{tb:TS}{D:Ends}{σ:St}(Pv:Nat->St->Hp->Prop)(h0:Pv 0 σ H)(hl:∀i σ H,i<=xs.length->Pv i σ H->SqL K H a xs)
  (hs:∀i x σ H,xs[i]?=some x->Pv i σ H->g x σ H fun σ2 H2=>tb { D with nx:=Pv (i+1),ct:=Pv (i+1),bk:=D.nx } σ2 H2) (hd:∀σ H,Pv xs.length σ H->D.nx σ H) :
  ∃W:Nat->Nat->St->Hp->Prop,(∃m,W 0 m σ H)/\∀i m σ H,W i m σ H->
   ((Itl K a).stop i H/\D.nx σ H)\/((Itl K a).go i H/\∃N:St->Hp->Prop,(∀σ' H',N σ' H'->∃m',m' < m/\W (i+1) m' σ' H')/\∀x H',(Itl K a).yld i H x H'->g x σ H' fun σ2 H2=>tb { D with nx:=N,ct:=N,bk:=D.nx } σ2 H2):=by
 refine⟨fun i m σ H=>m=xs.length - i/\i<=xs.length/\Pv i σ H,⟨xs.length,by simp,bE _,h0⟩,?_⟩
 rintro i m σ H ⟨rfl,hi,p⟩
 have q:=hl i σ H hi p
 by_cases aG:i < xs.length
 .refine .inr ⟨⟨xs,xs[i],q,by simp[aG]⟩,Pv (i+1),fun σ' H' p'=>⟨xs.length - (i+1),by omega,rfl,aG,p'⟩,fun x H' y=>?_⟩
  obtain⟨e,y⟩:=y
  subst e
  exact hs i x σ _ (y xs q) p
 .have e:i=xs.length:=by omega
  subst e
  exact .inl ⟨⟨xs,q,ay _⟩,hd σ H p⟩
theorem Zb{tb:TS}{D:Ends}{σ:St}(Pv:Nat->St->Hp->Prop)(h0:Pv 0 σ H)(hl:∀i σ H,i<=xs.length->Pv i σ H->SqT K H a xs)
  (hs:∀i x σ H,xs[i]?=some x->Pv i σ H->g x σ H fun σ2 H2=>tb { D with nx:=Pv (i+1),ct:=Pv (i+1),bk:=D.nx } σ2 H2) (hd:∀σ H,Pv xs.length σ H->D.nx σ H) :
  ∃W:Nat->Nat->St->Hp->Prop,(∃m,W 0 m σ H)/\∀i m σ H,W i m σ H->
   ((Itt K a).stop i H/\D.nx σ H)\/((Itt K a).go i H/\∃N:St->Hp->Prop,(∀σ' H',N σ' H'->∃m',m' < m/\W (i+1) m' σ' H')/\∀x H',(Itt K a).yld i H x H'->g x σ H' fun σ2 H2=>tb { D with nx:=N,ct:=N,bk:=D.nx } σ2 H2):=by
 refine⟨fun i m σ H=>m=xs.length - i/\i<=xs.length/\Pv i σ H,⟨xs.length,by simp,bE _,h0⟩,?_⟩
 rintro i m σ H ⟨rfl,hi,p⟩
 have q:=hl i σ H hi p
 by_cases aG:i < xs.length
 .refine .inr ⟨⟨xs,xs[i],q,by simp[aG]⟩,Pv (i+1),fun σ' H' p'=>⟨xs.length - (i+1),by omega,rfl,aG,p'⟩,fun x H' y=>?_⟩
  obtain⟨e,y⟩:=y
  subst e
  exact hs i x σ _ (y xs q) p
 .have e:i=xs.length:=by omega
  subst e
  exact .inl ⟨⟨xs,q,ay _⟩,hd σ H p⟩
theorem JE{lo:Int}{n:Nat}{tb:TS}{D:Ends}{σ:St}(Pv:Nat->St->Hp->Prop)(h0:Pv 0 σ H)
  (hs:∀i σ H,i < n->Pv i σ H->g (.int (lo+i)) σ H fun σ2 H2=>tb { D with nx:=Pv (i+1),ct:=Pv (i+1),bk:=D.nx } σ2 H2) (hd:∀σ H,Pv n σ H->D.nx σ H) :
  ∃W:Nat->Nat->St->Hp->Prop,(∃m,W 0 m σ H)/\∀i m σ H,W i m σ H->
   ((Itr lo n).stop i H/\D.nx σ H)\/((Itr lo n).go i H/\∃N:St->Hp->Prop,(∀σ' H',N σ' H'->∃m',m' < m/\W (i+1) m' σ' H')/\∀x H',(Itr lo n).yld i H x H'->g x σ H' fun σ2 H2=>tb { D with nx:=N,ct:=N,bk:=D.nx } σ2 H2):=by
 refine⟨fun i m σ H=>m=n - i/\i<=n/\Pv i σ H,⟨n,by simp,bE _,h0⟩,?_⟩
 rintro i m σ H ⟨rfl,hi,p⟩
 by_cases aG:i < n
 .refine .inr ⟨aG,Pv (i+1),fun σ' H' p'=>⟨n - (i+1),by omega,rfl,aG,p'⟩,fun x H' y=>?_⟩
  obtain⟨e,y⟩:=y
  subst e y
  exact hs i σ _ aG p
 .have e:i=n:=by omega
  subst e
  exact .inl ⟨ay _,hd σ H p⟩
theorem jcQ{c:TT}{tb:TS}{D:Ends}{σ:St}(Pv:St->Hp->Prop)(μ:St->Hp->Nat)(h0:Pv σ H)
  (hs:∀σ H,Pv σ H->c σ H fun b H1=>if b=true then tb { D with nx:=fun σ' H'=>Pv σ' H'/\μ σ' H' < μ σ H,ct:=fun σ' H'=>Pv σ' H'/\μ σ' H' < μ σ H,bk:=D.nx } σ H1 else D.nx σ H1)
  (mono:∀σ H Q Q',(∀b H1,Q b H1->Q' b H1)->c σ H Q->c σ H Q'):jam c tb D σ H:=by
 refine⟨fun m σ H=>m=μ σ H/\Pv σ H,⟨_,rfl,h0⟩,?_⟩
 rintro m σ H ⟨rfl,p⟩
 refine mono σ H _ _ (fun b H1 q=>?_) (hs σ H p)
 cases b with
 | true=>exact⟨_,fun σ' H' ⟨p',l⟩=>⟨_,l,rfl,p'⟩,q⟩
 | false=>exact q
abbrev R2:=V->V->Hp->VK->Prop
def OpR(X:Cx)(f:ac->ac->Sem ac)(r:R2):Prop:=
 ∀(ab:List (aa×Obj)) (s:ae) (σ:St) (H:Hp) (x y:V) (v u:ac) (Q:VK),Inv X ab σ H s->RelV x v->RelV y u->r x y H Q->
  af (aj X.prog X.w) X.A (f v u) (EP X ab σ Q) X.xe s
def UnR(X:Cx)(f:ac->Sem ac)(r:V->Hp->VK->Prop):Prop:=
 ∀(ab:List (aa×Obj)) (s:ae) (σ:St) (H:Hp) (x:V) (v:ac) (Q:VK),Inv X ab σ H s->RelV x v->r x H Q->
  af (aj X.prog X.w) X.A (f v) (EP X ab σ Q) X.xe s
def qd(X:Cx)(f:ac)(r:List V->Hp->VK->Prop):Prop:=
 ∀(ab:List (aa×Obj)) (s:ae) (σ:St) (H:Hp) (xs:List V) (us:List ac) (Q:VK),Inv X ab σ H s->Vals xs us->r xs H Q->
  af (aj X.prog X.w) X.A (call f us) (EP X ab σ Q) X.xe s
def tOp(r:R2)(ta tb:TE):TE:=fun σ H Q=>ta σ H fun x H1=>tb σ H1 fun y H2=>r x y H2 Q
def tUn(r:V->Hp->VK->Prop)(ta:TE):TE:=fun σ H Q=>ta σ H fun x H1=>r x H1 Q
def rI(C:Int->Int->Prop)(g:Int->Int->V):R2:=fun x y H Q=>∃i j,x=.int i/\y=.int j/\C i j/\Q (g i j) H
def rI0(g:Int->Int->V):R2:=fun x y H Q=>∃i j,x=.int i/\y=.int j/\Q (g i j) H
def rU(g:Int->V):V->Hp->VK->Prop:=fun x H Q=>∃i,x=.int i/\Q (g i) H
section
variable {a b c:ag}{tc:TE}
theorem jgH(ha:PE X a ta)(hb:PE X b tb){σ:St}{R:V->V->Hp->Prop}(I:Inv X ab σ H s)
  (h:ta σ H fun x H1=>tb σ H1 fun y H2=>R x y H2) {Q:ac->ae->Prop} {f:ac->ac->Sem ac}
  (hf:∀v u s2 x y H2,Inv X ab σ H2 s2->RelV x v->RelV y u->R x y H2->af (aj X.prog X.w) X.A (f v u) Q X.xe s2) :
  af (aj X.prog X.w) X.A (eval a X.env) (fun v s₁=>af (aj X.prog X.w) X.A (eval b X.env) (fun u s₂=>af (aj X.prog X.w) X.A (f v u) Q X.xe s₂) X.xe s₁) X.xe s:=by
 refine thn (ha ab s σ H _ I h) fun v s1 hM=>?_
 obtain⟨x,H1,I1,r1,q1⟩:=hM
 refine thn (hb ab s1 σ H1 _ I1 q1) fun u s2 hM=>?_
 obtain⟨y,H2,I2,r2,q2⟩:=hM
 exact hf v u s2 x y H2 I2 r1 r2 q2
theorem jr{op:Operator}{r:R2}(ho:OpR X (eD op) r)(ha:PE X a ta)(hb:PE X b tb):PE X (.BinOp a op b pos) (tOp r ta tb):=by
 intro ab s σ H Q I h;exact wpAny_BinOp (jgH ha hb I h fun v u s2 x y H2 I2 rx ry q=>ho ab s2 σ H2 x y v u Q I2 rx ry q)
theorem jg7{op:UnaryOp}{r:V->Hp->VK->Prop}(ho:UnR X (unaryOp op) r)(ha:PE X a ta):PE X (.UnaryOp op a pos) (tUn r ta):=by
 intro ab s σ H Q I h;exact UnaryOp_ (thn (ha ab s σ H _ I h) fun v s1 ⟨x,H1,I1,r1,q1⟩=>ho ab s1 σ H1 x v Q I1 r1 q1)
theorem opI{f:ac->ac->Sem ac}{C:Int->Int->Prop}{g:Int->Int->Int}
  (rule:∀(i j:Int) (t u:Tok) (s:ae) (Q:ac->ae->Prop) (E:ac->ae->Prop),C i j->Q (.int (g i j) s.toks) { s with toks:=s.toks+1 }->af (aj X.prog X.w) X.A (f (.int i t) (.int j u)) Q E s) :
  OpR X f (rI C fun i j=>.int (g i j)):=by
 intro ab s σ H x y v u Q I rx ry h
 obtain⟨i,j,rfl,rfl,hc,q⟩:=h
 obtain⟨t,rfl⟩:=rx
 obtain⟨t',rfl⟩:=ry
 exact rule i j t t' s _ _ hc ⟨.int (g i j),H,I.tok _,⟨_,rfl⟩,q⟩
theorem jha{f:ac->ac->Sem ac}{g:Int->Int->Int}
  (rule:∀(i j:Int) (t u:Tok) (s:ae) (Q:ac->ae->Prop) (E:ac->ae->Prop),Q (.int (g i j) s.toks) { s with toks:=s.toks+1 }->af (aj X.prog X.w) X.A (f (.int i t) (.int j u)) Q E s) :
  OpR X f (rI0 fun i j=>.int (g i j)):=by
 intro ab s σ H x y v u Q I rx ry h
 obtain⟨i,j,rfl,rfl,q⟩:=h
 obtain⟨t,rfl⟩:=rx
 obtain⟨t',rfl⟩:=ry
 exact rule i j t t' s _ _ ⟨.int (g i j),H,I.tok _,⟨_,rfl⟩,q⟩
theorem jeZ{f:ac->ac->Sem ac}{g:Int->Int->Bool}
  (rule:∀(i j:Int) (t u:Tok) (s:ae) (Q:ac->ae->Prop) (E:ac->ae->Prop),Q (.bool (g i j)) s->af (aj X.prog X.w) X.A (f (.int i t) (.int j u)) Q E s) :
  OpR X f (rI0 fun i j=>.bl (g i j)):=by
 intro ab s σ H x y v u Q I rx ry h
 obtain⟨i,j,rfl,rfl,q⟩:=h
 obtain⟨t,rfl⟩:=rx
 obtain⟨t',rfl⟩:=ry
 exact rule i j t t' s _ _ ⟨.bl (g i j),H,I,rfl,q⟩
def jhC(i j:Int):Prop:=0<=j/\j<=1000000/\i.natAbs < 2 ^ 64
def CMul(i j:Int):Prop:=(-(2 ^ 64) < i/\i < 2 ^ 64)\/(-(2 ^ 64) < j/\j < 2 ^ 64)
theorem CMul.ok{i j:Int}(h:CMul i j):IntMulOk i j:=by
 rcases h with⟨h1,h2⟩ | ⟨h1,h2⟩
 .exact .of_left (intBits_le_64 h1 h2)
 .exact .of_right (intBits_le_64 h1 h2)
theorem jU:OpR X (eD .Add) (rI0 fun i j=>.int (i+j)):=jha fun _ _ _ _ _ _ _ q=>add_int q
theorem kO:OpR X (eD .Sub) (rI0 fun i j=>.int (i - j)):=jha fun _ _ _ _ _ _ _ q=>sub_int q
theorem kP:OpR X (eD .Mult) (rI CMul fun i j=>.int (i * j)):=opI fun _ _ _ _ _ _ _ hc q=>mul_int q hc.ok
theorem jM:OpR X (eD .Mod) (rI (fun _ j=>0 < j) fun i j=>.int (i % j)):=opI fun i j _ _ _ _ _ hc q=>by
 have h1:(0:Int) < j:=hc;exact mod_int' (by omega) (by rw[Int.fmod_eq_emod_of_nonneg i (by omega)];exact q)
theorem ze:OpR X (eD .Pow) (rI jhC fun i j=>.int (i ^ j.toNat)):=opI fun _ _ _ _ _ _ _ hc q=>pow_int_small hc.1 hc.2.1 hc.2.2 q
theorem unI{f:ac->Sem ac}{g:Int->Int}
  (rule:∀(i:Int) (t:Tok) (s:ae) (Q:ac->ae->Prop) (E:ac->ae->Prop),Q (.int (g i) s.toks) { s with toks:=s.toks+1 }->af (aj X.prog X.w) X.A (f (.int i t)) Q E s) :
  UnR X f (rU fun i=>.int (g i)):=by
 intro ab s σ H x v Q I rx h
 obtain⟨i,rfl,q⟩:=h
 obtain⟨t,rfl⟩:=rx
 exact rule i t s _ _ ⟨.int (g i),H,I.tok _,⟨_,rfl⟩,q⟩
theorem J9:UnR X (unaryOp .USub) (rU fun i=>.int (-i)):=unI fun _ _ _ _ _ q=>neg_int q
end
def jgY:V->V->Bool
 | .non,.non=>true | .non,.int _=>true | .int _,.non=>true | .non,.bl _=>true | .bl _,.non=>true | .non,.str _=>true | .str _,.non=>true
 | .int _,.int _=>true | .bl _,.bl _=>true | .str _,.str _=>true | .byt _,.byt _=>true
 | .int _,.str _=>true | .str _,.int _=>true | .bl _,.str _=>true | .str _,.bl _=>true
 | _,_=>false
def rEq:R2:=fun x y H Q=>jgY x y=true/\Q (.bl (decide (x=y))) H
def rNe:R2:=fun x y H Q=>jgY x y=true/\Q (.bl (!decide (x=y))) H
theorem jbv{i j:Int}:decide (V.int i=V.int j)=(i == j):=by
 rw[mL];simp
theorem jeb{i j:Bool}:decide (V.bl i=V.bl j)=(i == j):=by
 rw[mL];simp
theorem jbu{i j:Str}:decide (V.str i=V.str j)=(i == j):=by
 rw[mL];simp
theorem jbw{i j:Array UInt8}:decide (V.byt i=V.byt j)=(i.toList == j.toList):=by
 rw[mL]
 cases i
 cases j
 simp
section
variable {a b c:ag}{tc:TE}
theorem kf{σ:St}{Q:VK}{k k':Bool}(I:Inv X ab σ H s)(q:Q (.bl k) H)(e:k=k'):EP X ab σ Q (.bool k') s:=by
 subst e;exact⟨.bl k,H,I,rfl,q⟩
theorem j5:OpR X (cX .Eq) rEq:=by
 intro ab s σ H x y v u Q I rx ry h;obtain⟨hs,q⟩:=h
 cases x with
 | non=>
  cases rx
  cases y with
  | non=>cases ry;exact PySem.EqNone.eq_none_none (kf I q (by simp))
  | bl j=>cases ry;exact PySem.EqNone.eq_none_bool (kf I q (by simp))
  | int j=>obtain⟨t',rfl⟩:=ry;exact PySem.EqNone.eq_none_int (kf I q (by simp))
  | str j=>obtain⟨t',rfl⟩:=ry;exact PySem.EqNone.eq_none_str (kf I q (by simp))
  | _=>exact absurd (show false=true from hs) bB
 | bl i=>
  cases rx
  cases y with
  | non=>cases ry;exact PySem.EqNone.eq_bool_none (kf I q (by simp))
  | bl j=>cases ry;exact eq_bool (kf I q jeb)
  | str j=>obtain⟨t',rfl⟩:=ry;exact PySem.EqMixed.eq_bool_str (kf I q (by simp))
  | _=>exact absurd (show false=true from hs) bB
 | int i=>
  obtain⟨t,rfl⟩:=rx
  cases y with
  | non=>cases ry;exact PySem.EqNone.eq_int_none (kf I q (by simp))
  | int j=>obtain⟨t',rfl⟩:=ry;exact eq_int (kf I q jbv)
  | str j=>obtain⟨t',rfl⟩:=ry;exact PySem.EqMixed.eq_int_str (kf I q (by simp))
  | _=>exact absurd (show false=true from hs) bB
 | str i=>
  obtain⟨t,rfl⟩:=rx
  cases y with
  | non=>cases ry;exact PySem.EqNone.eq_str_none (kf I q (by simp))
  | bl j=>cases ry;exact PySem.EqMixed.eq_str_bool (kf I q (by simp))
  | int j=>obtain⟨t',rfl⟩:=ry;exact PySem.EqMixed.eq_str_int (kf I q (by simp))
  | str j=>obtain⟨t',rfl⟩:=ry;exact eq_str (kf I q jbu)
  | _=>exact absurd (show false=true from hs) bB
 | byt i=>
  obtain⟨t,rfl⟩:=rx
  cases y with
  | byt j=>obtain⟨t',rfl⟩:=ry;exact PySem.W.eq_bytes (kf I q jbw)
  | _=>exact absurd (show false=true from hs) bB
 | _=>cases y <;> exact absurd (show false=true from hs) bB
theorem jfL:OpR X (cX .NotEq) rNe:=by
 intro ab s σ H x y v u Q I rx ry h;obtain⟨hs,q⟩:=h
 cases x with
 | non=>
  cases rx
  cases y with
  | non=>cases ry;exact PySem.EqNone.ne_none_none (kf I q (by simp))
  | bl j=>cases ry;exact PySem.EqNone.ne_none_bool (kf I q (by simp))
  | int j=>obtain⟨t',rfl⟩:=ry;exact PySem.EqNone.ne_none_int (kf I q (by simp))
  | str j=>obtain⟨t',rfl⟩:=ry;exact PySem.EqNone.ne_none_str (kf I q (by simp))
  | _=>exact absurd (show false=true from hs) bB
 | bl i=>
  cases rx
  cases y with
  | non=>cases ry;exact PySem.EqNone.ne_bool_none (kf I q (by simp))
  | bl j=>cases ry;exact ne_bool (kf I q (Qi not jeb))
  | str j=>obtain⟨t',rfl⟩:=ry;exact PySem.EqMixed.ne_bool_str (kf I q (by simp))
  | _=>exact absurd (show false=true from hs) bB
 | int i=>
  obtain⟨t,rfl⟩:=rx
  cases y with
  | non=>cases ry;exact PySem.EqNone.ne_int_none (kf I q (by simp))
  | int j=>obtain⟨t',rfl⟩:=ry;exact ne_int (kf I q (Qi not jbv))
  | str j=>obtain⟨t',rfl⟩:=ry;exact PySem.EqMixed.ne_int_str (kf I q (by simp))
  | _=>exact absurd (show false=true from hs) bB
 | str i=>
  obtain⟨t,rfl⟩:=rx
  cases y with
  | non=>cases ry;exact PySem.EqNone.ne_str_none (kf I q (by simp))
  | bl j=>cases ry;exact PySem.EqMixed.ne_str_bool (kf I q (by simp))
  | int j=>obtain⟨t',rfl⟩:=ry;exact PySem.EqMixed.ne_str_int (kf I q (by simp))
  | str j=>obtain⟨t',rfl⟩:=ry;exact ne_str (kf I q (Qi not jbu))
  | _=>exact absurd (show false=true from hs) bB
 | byt i=>
  obtain⟨t,rfl⟩:=rx
  cases y with
  | byt j=>obtain⟨t',rfl⟩:=ry;exact PySem.W.ne_bytes (kf I q (Qi not jbw))
  | _=>exact absurd (show false=true from hs) bB
 | _=>cases y <;> exact absurd (show false=true from hs) bB
theorem Kr:OpR X (cX .Lt) (rI0 fun i j=>.bl (decide (i < j))):=jeZ fun _ _ _ _ _ _ _ q=>lt_int q
theorem zV:OpR X (cX .LtE) (rI0 fun i j=>.bl (decide (i<=j))):=jeZ fun _ _ _ _ _ _ _ q=>le_int q
theorem jdx:OpR X (cX .Gt) (rI0 fun i j=>.bl (decide (j < i))):=jeZ fun _ _ _ _ _ _ _ q=>gt_int q
theorem jbk:OpR X (cX .GtE) (rI0 fun i j=>.bl (decide (j<=i))):=jeZ fun _ _ _ _ _ _ _ q=>ge_int q
theorem Jx:OpR X (cX .Is) (fun x y H Q=>y=.non/\Q (.bl (decide (x=.non))) H):=by
 intro ab s σ H x y v u Q I rx ry h;obtain⟨rfl,q⟩:=h
 cases ry
 refine is_none_gen (kf I q ?_)
 cases x <;> first
  | (cases rx;rfl)
  | (obtain⟨t,rfl⟩:=rx;rfl)
theorem jbi:OpR X (cX .IsNot) (fun x y H Q=>y=.non/\Q (.bl (!decide (x=.non))) H):=by
 intro ab s σ H x y v u Q I rx ry h;obtain⟨rfl,q⟩:=h
 cases ry
 refine isnot_none_gen (kf I q ?_)
 cases x <;> first
  | (cases rx;rfl)
  | (obtain⟨t,rfl⟩:=rx;rfl)
theorem ju(b:ag)(h:op≠.In:=by decide)(h2:op≠.NotIn:=by decide):j_ op b=false:=by
 have e1:(op == CmpOp.In)=false:=by cases op <;> first | rfl | exact absurd rfl h
 have e2:(op == CmpOp.NotIn)=false:=by cases op <;> first | rfl | exact absurd rfl h2
 cases b <;> simp[j_,e1,e2]
theorem k0{op:CmpOp}{r:R2}(ho:OpR X (cX op) r)(ha:PE X a ta)(hb:PE X b tb)(hm:j_ op b=false):PE X (.Compare a [op] [b] pos) (tOp r ta tb):=by
 intro ab s σ H Q I h;exact wpAny_Compare1 (jgH ha hb I h fun v u s2 x y H2 I2 rx ry q=>ho ab s2 σ H2 x y v u Q I2 rx ry q) hm
def jcX(t:TE):TT:=fun σ H Q=>t σ H fun x H'=>∃k,x=.bl k/\Q k H'
theorem jW{op:CmpOp}{r:R2}(ho:OpR X (cX op) r)(ha:PE X a ta)(hb:PE X b tb)(hm:j_ op b=false):PT X (.Compare a [op] [b] pos) (jcX (tOp r ta tb)):=by
 intro ab s σ H Q I h;refine MX (thn (ha ab s σ H _ I h) fun v s1 ⟨x,H1,I1,r1,q1⟩=>thn (hb ab s1 σ H1 _ I1 q1) fun u s2 ⟨y,H2,I2,r2,q2⟩=>
  thn (ho ab s2 σ H2 x y v u _ I2 r1 r2 q2) fun c s3 ⟨z,H3,I3,r3,k,e,q3⟩=>?_) hm
 subst e
 cases r3
 exact nQ ⟨H3,I3,q3⟩
def jfY(r r':R2)(ta tb tc:TE):TE:=fun σ H Q=>ta σ H fun x H1=>tb σ H1 fun y H2=>r x y H2 fun z H3=>∃k,z=.bl k/\
 (if k=true then tc σ H3 fun w' H4=>r' y w' H4 Q else Q (.bl false) H3)
theorem Jb{uA:CmpOp}{r r':R2}(ho:OpR X (cX op) r)(im:OpR X (cX uA) r')(ha:PE X a ta)(hb:PE X b tb)(hc:PE X c tc)
  (hm:lastMarks [op,uA] [b,c]=false:=by with_unfolding_all rfl):PT X (.Compare a [op,uA] [b,c] pos) (jcX (jfY r r' ta tb tc)):=by
 intro ab s σ H Q I h
 refine isTrue_chain (thn (ha ab s σ H _ I h) fun v s1 ⟨x,H1,I1,r1,q1⟩=>test_link (thn (hb ab s1 σ H1 _ I1 q1) fun u s2 ⟨y,H2,I2,r2,q2⟩=>
  thn (ho ab s2 σ H2 x y v u _ I2 r1 r2 q2) fun d s3 ⟨z,H3,I3,r3,k,e,q3⟩=>?_)) hm
 subst e
 cases r3
 refine nQ ?_
 cases k with
 | false=>
  obtain⟨k',e',q'⟩:=q3
  cases e'
  exact ite_ff ⟨H3,I3,q'⟩
 | true=>
  refine ite_tt (test_last (thn (hc ab s3 σ H3 _ I3 q3) fun w' s4 ⟨z',H4,I4,r4,q4⟩=>thn (im ab s4 σ H4 y z' u w' _ I4 r2 r4 q4) fun d' s5 hM=>?_))
  obtain⟨z2,H5,I5,r5,k2,e2,q5⟩:=hM
  subst e2
  cases r5
  exact nQ ⟨H5,I5,q5⟩
theorem Y1:(aB:Nat) < 2 ^ 63:=by rw[gr];decide
theorem jaA:OpR X (eD .Add) (fun x y H Q=>∃i j,x=.str i/\y=.str j/\i.length+j.length<=aB/\Q (.str (i++j)) H):=by
 intro ab s σ H x y v u Q I rx ry h;obtain⟨i,j,rfl,rfl,hz,q⟩:=h;obtain⟨t,rfl⟩:=rx;obtain⟨t',rfl⟩:=ry;exact add_str (fun t' tk=>⟨.str (i++j),H,I.tok _,⟨_,rfl⟩,q⟩) hz
theorem qZ{x:V}(r:Vals [x] us):∃u,us=[u]/\RelV x u:=by
 cases r with
 | cons r1 r2=>cases r2;exact⟨_,rfl,r1⟩
theorem ja5{x:V}(r:Vals [x,y] us):∃u w',us=[u,w']/\RelV x u/\RelV y w':=by
 cases r with
 | cons r1 r2=>
  cases r2 with
  | cons r3 r4=>cases r4;exact⟨_,_,rfl,r1,r3⟩
theorem jcx(hc:X.calm=true):qd X (.builtin "max") (fun xs H Q=>∃i j,xs=[.int i,.int j]/\Q (.int (if j > i then j else i)) H):=by
 intro ab s σ H xs us Q I r h;obtain⟨i,j,rfl,q⟩:=h;obtain⟨u,w',rfl,⟨t,rfl⟩,⟨t',rfl⟩⟩:=ja5 r;refine max_two_ints (I.ok.hd hc) fun h' tk k=>⟨_,H,I.kept k,?_,q⟩
 by_cases hj:j > i
 .rw[Qg hj,Qg hj];exact⟨_,rfl⟩
 .rw[Qf hj,Qf hj];exact⟨_,rfl⟩
theorem zE:qd X (.type "int") (fun xs H Q=>(∃i,xs=[.int i]/\Q (.int i) H)\/∃k,xs=[.bl k]/\Q (.int (if k then 1 else 0)) H):=by
 intro ab s σ H xs us Q I r h;rcases h with⟨i,rfl,q⟩ | ⟨k,rfl,q⟩
 .obtain⟨u,rfl,t,rfl⟩:=qZ r
  exact call_int_int ⟨.int i,H,I,⟨_,rfl⟩,q⟩
 .obtain⟨u,rfl,r1⟩:=qZ r
  cases r1
  exact call_int_bool ⟨.int (if k then 1 else 0),H,I.tok _,⟨_,rfl⟩,q⟩
end
structure ObjM(h:aq)(x dx C:aa)(mA:Str->Option ac):Prop where
 obj:h.get? x=some (mz C dx)
 ns:h.Ns1 dx mA
 ne:dx≠x
variable {dx:aa}{mA:Str->Option ac}
theorem jb9(n:h.Ns1 dx mA):∃od,h.get? dx=some od/\∀name,D8 name od=some (mA name):=by
 obtain⟨o,es,ep,ho,hd,hk,_,hm⟩:=n;refine⟨o,ho,fun name=>?_⟩;have e:=hm name;unfold nsFind findBy at e;rw[<- Array.find?_toList]at e;unfold D8;rw[hd];dsimp only;split
 .rename_i y q
  rw[q]at e;exact Qi some e
 .rename_i q
  rw[q]at e;have a:es.toList.any (·.refKey)=false:=by
   rw[PR];intro y hy;obtain⟨z,t,IC⟩:=hk y (Array.mem_toList_iff.mp hy);simp[DictEntry.refKey,IC]
  have a':¬es.toList.any (·.refKey)=true:=by rw[a];exact bB
  rw[Qf a'];exact Qi some e
variable {C:aa}
theorem ObjM.look{x:aa}(I:ObjM h x dx C mA):∃od,PySem.W.InstAt h x (mz C dx) C (some od)/\∀name,D8 name od=some (mA name):=
 let ⟨od,ho,hl⟩:=jb9 I.ns
 ⟨od,⟨I.obj,rfl,rfl,ho⟩,hl⟩
variable {f:aa}{kw:List (Str×ac)}
section
variable {prog:av}{x:aa}{name:Str}{v:ac}
theorem jfl{Md:Bool}(X:K.In s.heap)(I:ObjM s.heap x dx C mA)(hg:tQ K C name=true)(hh:tS K C=true)
  (ha:cp K (.ref C) name=some none) (hv:mA name=some v) (fc:NW v=true) (h:Q v { s with toks:=s.toks+1 }) :
  af (aj prog w) A (getAttr (.ref x) name Md) Q E s:=by
 obtain⟨od,J,hl⟩:=I.look
 exact PySem.W.get_value X J (PySem.W.plainGet_of hg).1 (PySem.W.findObj_own hh ha rfl (by rw[hl,hv])) fc h
theorem jez{ns:List Str}{Q:Unit->ae->Prop}(X:K.In s.heap)(I:ObjM s.heap x dx C mA)
  (hs:cp K (.ref C) "__setattr__" = some (some (.builtin "object.__setattr__"))) (hp:xj K C=true) (ht:D6 K C name=some none) (hh:tS K C=true)
  (hw:xi mA ns) (hsz:ns.length<=aB)
  (h:∀h',ObjM h' x dx C (fun y=>if y=name then some v else mA y)->df dx s.heap h'->Q () { s with heap:=h',toks:=s.toks+2 }) :
  af (aj prog w) A (setAttr (.ref x) name v) Q E s:=by
 obtain⟨od,J,hl⟩:=I.look
 refine PySem.W.set_plain X J hs (PySem.W.osa_open (s:={ s with toks:=s.toks+1 }) (r:=none) X J hp ht fun b=>?_)
 obtain⟨cd,hc,iu⟩:=PySem.W.any_some hh
 have hx:s.heap.get? x=some ⟨.ref C,some dx,.plain,#[]⟩:=I.obj
 refine ad (al (ad (ad (wpAny_loadPart hx (ad (PySem.W.Looks.here (s:={ s with toks:=s.toks+1 }) (PySem.W.looks_clsIn X hc) ?_))))))
 rw[iu]
 refine al (a:=some dx) (ad (al (ad ?_)))
 refine wpAny_nsSet1 (s:={ s with toks:=s.toks+1 }) I.ns fun h' ng lO=>?_
 obtain⟨oD,esD,epD,HP,J_,Lg⟩:=ng.count (xi.cons name v hw)
 refine ad (wpAny_lookBehind HP (by rw[J_];exact pastItsLine_dict (aZ Lg (by rw[bi];omega))) ?_)
 exact al (h _ ⟨(lO.2 _ (aO I.ne)).trans I.obj,ng,I.ne⟩ lO)
theorem jdP{R:lb->ae->Prop}{vs:List ac}(X:K.In s.heap)(hm:xk K C=true)
  (hi:cp K (.ref C) "__init__" = some (some (.ref f))) (hf:PySem.W.typeIn K (.ref f)=some (.type "function"))
  (h:dR (aj prog w) (A.under (.builtin "type.__call__" ⟨.ref C :: vs,kw⟩)) (.call (.ref f) ⟨.ref (s.heap.objs.size+1) :: vs,kw⟩) (PySem.W.InitBack (s.heap.objs.size+1) R)
   { s with heap:=(s.heap.push k_).push (mz C s.heap.objs.size) }) :
  dR (aj prog w) A (.call (.ref C) ⟨vs,kw⟩) R s:=by
 obtain⟨hh,g,d,t,os⟩:=s
 exact PySem.W.make_core (PySem.W.makes_of X hm) (PySem.W.looks_findIn X hi) (fun self=>PySem.W.bind_fn X self hf) (.inl rfl) h
end
def j3(f:Str)(v:V):List (Str×V)->List (Str×V)
 | []=>[(f,v)]
 | (g,x) :: r=>if g=f then (g,v) :: r else (g,x) :: j3 f v r
theorem JJ(f g:Str)(v:V):∀fs:List (Str×V),(j3 f v fs).lookup g=if g=f then some v else fs.lookup g
 | []=>by
  show fJ g [(f,v)]=_;by_cases h:g=f
  .have hb:(g == f)=true:=beq_iff_eq.mpr h
   simp only[fJ,hb,Qg h]
  .have hb:(g == f)=false:=Qh.mpr h
   simp only[fJ,hb,Qf h]
 | (k,x) :: r=>by
  have ih:=JJ f g v r;rw[show j3 f v ((k,x) :: r)=(if k=f then (k,v) :: r else (k,x) :: j3 f v r) from rfl];by_cases hk:k=f
  .rw[Qg hk]
   by_cases h:g=k
   .have hb:(g == k)=true:=beq_iff_eq.mpr h
    simp only[fJ,hb,Qg (h.trans hk)]
   .have hb:(g == k)=false:=Qh.mpr h
    simp only[fJ,hb,Qf (fun e:g=f=>h (e.trans hk.symm))]
  .rw[Qf hk]
   by_cases h:g=k
   .have hb:(g == k)=true:=beq_iff_eq.mpr h
    simp only[fJ,hb,Qf (fun e:g=f=>hk (h.symm.trans e))]
   .have hb:(g == k)=false:=Qh.mpr h
    simp only[fJ,hb];exact ih
theorem Jz(f:Str)(v:V):∀fs:List (Str×V),f∈(j3 f v fs).map (·.1)/\∀g,g∈fs.map (·.1)->g∈(j3 f v fs).map (·.1)
 | []=>⟨by simp[j3],fun g h=>by simp at h⟩
 | (k,x) :: r=>by
  obtain⟨i1,i2⟩:=Jz f v r;rw[show j3 f v ((k,x) :: r)=(if k=f then (k,v) :: r else (k,x) :: j3 f v r) from rfl];by_cases hk:k=f
  .rw[Qg hk]
   subst hk;exact⟨by simp,fun g h=>by simpa using h⟩
  .rw[Qf hk]
   refine⟨?_,fun g h=>?_⟩
   .rw[bW]
    exact bK _ i1
   .rw[bW]at h |-
    rcases bg.mp h with e | e
    .exact bg.mpr (.inl e)
    .exact bK _ (i2 g e)
theorem JK(f:Str)(v:V):∀fs:List (Str×V),(j3 f v fs).length<=fs.length+1
 | []=>by simp[j3]
 | (k,x) :: r=>by
  have ih:=JK f v r;rw[show j3 f v ((k,x) :: r)=(if k=f then (k,v) :: r else (k,x) :: j3 f v r) from rfl];by_cases hk:k=f
  .rw[Qg hk,bi,bi];omega
  .rw[Qf hk,bi,bi];omega
theorem RelO.some_of{o:Option ac}(r:RelO (some v) o):∃u,o=some u/\RelV v u:=by
 cases o with
 | none=>exact (show False from r).elim
 | some u=>exact⟨u,rfl,r⟩
theorem jch(r:RelV v u):NW u=true:=by
 cases v with
 | non=>cases (show u=Value.none from r);rfl
 | bl b=>cases (show u=Value.bool b from r);rfl
 | int i=>obtain⟨t,e⟩:=(show ∃t,u=Value.int i t from r);cases e;rfl
 | str x=>obtain⟨t,e⟩:=(show ∃t,u=Value.str x t from r);cases e;rfl
 | byt b=>obtain⟨t,e⟩:=(show ∃t,u=Value.bytes b t from r);cases e;rfl
 | flt b=>obtain⟨t,e⟩:=(show ∃t,u=Value.float b t from r);cases e;rfl
 | ref a=>cases (show u=Value.ref a from r);rfl
 | ty n=>cases (show u=Value.type n from r);rfl
section
variable {P:av}{fs nC:List (Str×V)}
theorem Y7(hok:HOk P w H h)(e:H a=some (.ins C dx fs)):∃mA,ObjM h a dx C mA/\(∀f,RelO (fs.lookup f) (mA f))/\xi mA (fs.map (·.1))/\fs.length<=1000/\H dx=some (.own a):=by
 obtain⟨d,z,ne,ob,mA,n,r,q⟩:=(show ObjOk P w H h a (.ins C dx fs) from hok a _ e)
 exact⟨mA,⟨ob,n,ne⟩,r,q,z,d⟩
end
structure Cls(K:ai)(C:aa):Prop where
 pg:tQ K C Ec=true
 hd:tS K C=true
 po:xj K C=true
 sa:cp K (.ref C) "__setattr__" = some (some (.builtin "object.__setattr__"))
theorem Cls.get(c:Cls K C)(f:Str):tQ K C f=true:=c.pg
def NoAttr(K:ai)(C:aa)(f:Str):Prop:=cp K (.ref C) f=some none
theorem NoAttr.taker{f:Str}(n:NoAttr K C f):D6 K C f=some none:=by
 unfold D6;rw[show cp K (.ref C) f=some none from n];rfl
section
variable {σ:St}{fs:List (Str×V)}{f:Str}
theorem KB{b:Bool}(I:Inv X ab σ H s)(e:H a=some (.ins C dx fs))(c:Cls X.K C)(n:NoAttr X.K C f)(l:fs.lookup f=some v)
  (h:∀u s',Inv X ab σ H s'->RelV v u->Q u s'):af (aj X.prog X.w) A (getAttr (.ref a) f b) Q E s:=by
 obtain⟨mA,O,r,_,_,_⟩:=Y7 I.hok e
 obtain⟨u,hu,ru⟩:=RelO.some_of (v:=v) (o:=mA f) (by rw[<- l];exact r f)
 exact jfl I.kIn O (c.get f) c.hd n hu (jch ru) (h u _ (I.tok _) ru)
theorem Kf{Q:Unit->ae->Prop}(I:Inv X ab σ H s)(e:H a=some (.ins C dx fs))(c:Cls X.K C)(n:NoAttr X.K C f)(hl:fs.length < 1000)(ry:RelV y u)
  (h:∀s',Inv X ab σ (upd H a (.ins C dx (j3 f y fs))) s'->Q () s'):af (aj X.prog X.w) A (setAttr (.ref a) f u) Q E s:=by
 obtain⟨mA,O,r,wi,_,ho⟩:=Y7 I.hok e
 have hz:(fs.map (·.1)).length<=aB:=by rw[am,gr];omega
 refine jez I.kIn O c.sa c.po n.taker c.hd wi hz fun h' O' sb=>h _ ?_
 have hd:∃o,h'.get? dx=some o:=let ⟨o,_,_,e',_⟩:=O'.ns;⟨o,e'⟩
 refine I.write (x:=a) (e:=dx) (by rw[e];exact True.intro) (.inr ho) (fun b q hb z=>(sb.2 b hb).trans z) hd ?_
 refine⟨by rw[jl O.ne];exact ho,?_,O.ne,O'.obj,_,O'.ns,fun g=>?_,fun g hg=>?_⟩
 .have:=JK f y fs;omega
 .show RelO ((j3 f y fs).lookup g) (if g=f then some u else mA g)
  rw[JJ]
  by_cases q:g=f
  .rw[Qg q,Qg q];exact ry
  .rw[Qf q,Qf q];exact r g
 .by_cases q:g=f
  .rw[q];exact (Jz f y fs).1
  .refine (Jz f y fs).2 g (wi g fun z=>hg ?_)
   show (if g=f then some u else mA g)=none
   rw[Qf q];exact z
theorem Inv.made(I:Inv X ab σ H s):Inv X ab σ (upd (upd H s.heap.objs.size (.own (s.heap.objs.size+1))) (s.heap.objs.size+1) (.ins C s.heap.objs.size []))
  { s with heap:=(s.heap.push k_).push (mz C s.heap.objs.size) }:=by
 have e1:(s.heap.push k_).get? s.heap.objs.size=some k_:=bz s.heap rfl
 have e2:((s.heap.push k_).push (mz C s.heap.objs.size)).get? (s.heap.objs.size+1)=some (mz C s.heap.objs.size):=by
  have:=bz (s.heap.push k_) (o:=mz C s.heap.objs.size) rfl;rwa [dU]at this
 have e3:(s.heap.push k_).Ns s.heap.objs.size (fun _=>none):=⟨k_,#[],_,e1,rfl,(fun e he=>absurd he (by simp)),fun _=>rfl⟩
 have I1:=I.laid (a:=s.heap.objs.size) (o:=.own (s.heap.objs.size+1)) (h':=s.heap.push k_) (t':=s.toks) (fun b u q=>aF _ q) (ay _) ⟨_,e1⟩
 refine I1.laid (a:=s.heap.objs.size+1) (o:=.ins C s.heap.objs.size []) (t':=s.toks) (fun b u q=>aF _ q) (mG (dU _ _)) ?_
 have ne:s.heap.objs.size≠s.heap.objs.size+1:=aN (xP _)
 refine⟨by rw[jl ne,ja],bE _,ne,e2,fun _=>none,(aq.Ns1.of_empty e3).at fun o q=>aF _ q,fun _=>True.intro,fun y hy=>absurd rfl hy⟩
theorem jft{prog:av}{env:Env}{f:Str}(hb:iD e f env (eval e env)=eval e env)
  (h:af (aj prog w) A (eval e env) (fun o s₁=>af (aj prog w) A (getAttr o f true) Q E s₁) E s):af (aj prog w) A (eval (.Attribute e f pos) env) Q E s:=
 Attribute_any_ h (by rw[arm_eval_Attribute,hb])
end
def jev(K:ai)(ta:TE)(f:Str):TE:=fun σ H Q=>ta σ H fun x H1=>∃a C dx fs v,x=.ref a/\H1 a=some (.ins C dx fs)/\Cls K C/\NoAttr K C f/\fs.lookup f=some v/\Q v H1
def jgZ(K:ai)(ta tv:TE)(f:Str):TS:=fun D σ H=>tv σ H fun y H1=>ta σ H1 fun x H2=>∃a C dx fs,x=.ref a/\H2 a=some (.ins C dx fs)/\Cls K C/\NoAttr K C f/\fs.length < 1000/\
 D.nx σ (upd H2 a (.ins C dx (j3 f y fs)))
def jgP(X:Cx)(op:Operator)(rd:V->V->Hp->VK->Prop):Prop:=
 ∀(ab:List (aa×Obj)) (s:ae) (σ:St) (H:Hp) (x y:V) (u v:ac) (Q:VK),Inv X ab σ H s->RelV x u->RelV y v->rd x y H Q->af (aj X.prog X.w) X.A (inplaceOp op u v) (EP X ab σ Q) X.xe s
def jbd(K:ai)(ta tv:TE)(rd:V->V->Hp->VK->Prop)(f:Str):TS:=fun D σ H=>ta σ H fun x H1=>∃a C dx fs v,x=.ref a/\H1 a=some (.ins C dx fs)/\Cls K C/\NoAttr K C f/\fs.lookup f=some v/\
 tv σ H1 fun y H2=>rd v y H2 fun z H3=>∃wn nC,H3 a=some (.ins C wn nC)/\nC.length < 1000/\D.nx σ (upd H3 a (.ins C wn (j3 f z nC)))
section
variable {o value:ag}{f:Str}{dl rO:Pos}{tv:TE}
theorem jdr(he:PE X e ta)(hb:iD e f X.env (eval e X.env)=eval e X.env):PE X (.Attribute e f pos) (jev X.K ta f):=by
 intro ab s σ H Q I h;refine jft hb (thn (he ab s σ H _ I h) fun u s1 hM=>?_);obtain⟨x,H1,I1,rx,a,C,dx,fs,v,ex,ea,c,n,l,q⟩:=hM;subst ex;obtain rfl:u=Value.ref a:=rx;exact KB I1 ea c n l fun u' s2 I2 ru=>⟨v,H1,I2,ru,q⟩
theorem jga(ha:PE X o ta)(hv:PE X value tv)(hs:iz value (some (.Attribute o f dl)) pos.line X.env=pure false):PS X (.Assign [.Attribute o f dl] value pos) (jgZ X.K ta tv f):=by
 intro ab s σ H D I h;refine plainObj_wpAny_Assign_Attribute (thn (hv ab s σ H _ I h) fun u s1 ⟨y,H1,I1,ry,q⟩=>thn (ha ab s1 σ H1 _ I1 q) fun ov s2 hM=>?_) hs;obtain⟨x,H2,I2,rx,a,C,dx,fs,ex,ea,c,n,l,q2⟩:=hM;subst ex;obtain rfl:ov=Value.ref a:=rx;exact Kf I2 ea c n l ry fun s3 I3=>⟨σ,_,I3,q2⟩
theorem jbP{op:Operator}{rd:V->V->Hp->VK->Prop}(ha:PE X o ta)(hv:PE X value tv)(HJ:jgP X op rd):PS X (.AugAssign (.Attribute o f rO) op value pos) (jbd X.K ta tv rd f):=by
 intro ab s σ H D I h;refine wpAny_AugAssign_AttributeAny (thn (ha ab s σ H _ I h) fun ov s1 hM=>?_);obtain⟨x,H1,I1,rx,a,C,dx,fs,v,ex,ea,c,n,l,q⟩:=hM;subst ex;obtain rfl:ov=Value.ref a:=rx;refine KB I1 ea c n l fun u s2 I2 ru=>thn (hv ab s2 σ H1 _ I2 q) fun w3 s3 ⟨y,H2,I3,ry,q3⟩=>thn (HJ ab s3 σ H2 v y u w3 _ I3 ru ry q3) fun w4 s4 hM=>?_
 obtain⟨z,H3,I4,rz,wn,nC,Mm,l',q4⟩:=hM;exact Kf I4 Mm c n l' rz fun s5 I5=>⟨σ,_,I5,q4⟩
def jhu:V->V->Hp->VK->Prop:=fun x y H Q=>∃i j,x=.int i/\y=.int j/\Q (.int (i+j)) H
theorem jaP:jgP X .Add jhu:=by
 rintro ab s σ H x y u v Q I rx ry ⟨i,j,rfl,rfl,q⟩;obtain⟨t,rfl⟩:=(show ∃t,u=Value.int i t from rx)
 obtain⟨t',rfl⟩:=(show ∃t',v=Value.int j t' from ry)
 exact PyProof.Rows.iadd_int ⟨.int (i+j),H,I.tok _,⟨_,rfl⟩,q⟩
end
section
variable {σ:St}{c:ac}{b:Bool}
inductive TyOf(K:ai)(H:Hp):V->ac->Prop where
 | non:TyOf K H .non (.type "NoneType")
 | bl (x:Bool):TyOf K H (.bl x) (.type "bool")
 | int (i:Int):TyOf K H (.int i) (.type "int")
 | str (x:Str):TyOf K H (.str x) (.type "str")
 | flt (x:UInt64):TyOf K H (.flt x) (.type "float")
 | lst {a:aa} {xs:List V} (e:H a=some (.lst xs)):TyOf K H (.ref a) (.type "list")
 | frz {a:aa} {o:Obj} {xs:List V} (e:H a=some (.frz o (.lst xs))):TyOf K H (.ref a) (.type "list")
 | tup {a:aa} {xs:List V} (e:H a=some (.tup xs)):TyOf K H (.ref a) (.type "tuple")
 | dK {a:aa} {kvs:List (Key×V)} (e:H a=some (.dK kvs)):TyOf K H (.ref a) (.type "dict")
 | dT {a:aa} {kvs:List (List Key×V)} (e:H a=some (.dT kvs)):TyOf K H (.ref a) (.type "dict")
 | ins {a C dx:aa} {fs:List (Str×V)} (e:H a=some (.ins C dx fs)) (cl:Cls K C) (ha:cp K (.ref C) "__class__" = some (some (.builtin "object.__class__")))
   (hn:PySem.W.specialIn K (.builtin "object.__class__") "__get__" = some (some (.builtin "getset_descriptor.__get__"))) (oY:PySem.W.takesIn K (.builtin "object.__class__")=some true)
   (hm:PySem.W.mroIn K C (.type "object")=some true):TyOf K H (.ref a) (.ref C)
theorem jcd{x:V}{t:ac}(I:Inv X ab σ H s)(rx:RelV x u)(ty:TyOf X.K H x t)(e:NQ X.K t c=some b)(h:∀tk,Q (.bool b) { s with toks:=tk }):
  af (aj X.prog X.w) A (call (.builtin "isinstance") [u,c]) Q E s:=by
 cases ty with
 | non=>cases (show u=Value.none from rx);exact gW PySem.W.kitx_none I.kIn True.intro e (fun z=>nomatch z) h
 | bl y=>cases (show u=Value.bool y from rx);exact gW PySem.W.kitx_bool I.kIn True.intro e (fun z=>nomatch z) h
 | int i=>obtain⟨t,q⟩:=(show ∃t,u=Value.int i t from rx);cases q;exact gW PySem.W.kitx_int I.kIn True.intro e (fun z=>nomatch z) h
 | str y=>obtain⟨t,q⟩:=(show ∃t,u=Value.str y t from rx);cases q;exact gW PySem.W.kitx_str I.kIn True.intro e (fun z=>nomatch z) h
 | flt y=>obtain⟨t,q⟩:=(show ∃t,u=Value.float y t from rx);cases q;exact gW PySem.W.kitx_float I.kIn True.intro e (fun z=>nomatch z) h
 | @lst a xs ea=>
  cases (show u=Value.ref a from rx)
  obtain⟨_,_,n,_,h1⟩:=(show ObjOk X.prog X.w H s.heap a (.lst xs) from I.hok a _ ea)
  exact gW NO I.kIn ⟨_,h1,rfl⟩ e (fun z=>nomatch z) h
 | @frz a ob xs ea=>
  cases (show u=Value.ref a from rx)
  obtain⟨_,_,_,n,_,h1⟩:=(show ObjOk X.prog X.w H s.heap a (.frz ob (.lst xs)) from I.hok a _ ea)
  exact gW NO I.kIn ⟨_,h1,rfl⟩ e (fun z=>nomatch z) h
 | @tup a xs ea=>
  cases (show u=Value.ref a from rx)
  obtain⟨_,_,_,p⟩:=(show ObjOk X.prog X.w H s.heap a (.tup xs) from I.hok a _ ea)
  obtain⟨o,h1,h2,_⟩:=p
  exact gW PySem.W.kitx_tuple I.kIn ⟨o,h1,h2⟩ e (fun z=>nomatch z) h
 | @dK a kvs ea=>
  cases (show u=Value.ref a from rx)
  obtain⟨_,_,vs,_,p⟩:=(show ObjOk X.prog X.w H s.heap a (.dK kvs) from I.hok a _ ea)
  obtain⟨o,es,ep,h1,h2,_⟩:=p
  exact gW NP I.kIn ⟨o,h1,h2.1⟩ e (fun z=>nomatch z) h
 | @dT a kvs ea=>
  cases (show u=Value.ref a from rx)
  obtain⟨_,_,xs,_,o,es,ep,h1,h2,_⟩:=(show ObjOk X.prog X.w H s.heap a (.dT kvs) from I.hok a _ ea)
  exact gW NP I.kIn ⟨o,h1,h2.1⟩ e (fun z=>nomatch z) h
 | @ins a C dx fs ea cl ha hn oY hm=>
  cases (show u=Value.ref a from rx)
  obtain⟨mA,O,_⟩:=Y7 I.hok ea
  obtain⟨od,J,_⟩:=O.look
  exact gW (PySem.W.kitx_own (cl.get _) cl.hd ha hn oY hm) I.kIn J e (fun z=>nomatch z) h
end
structure Room(k:Nat)(A:aD):Prop where
 hd:A.handled=none
 dp:A.depth+3 * k+5 < recursionLimit
 un:A.units+16 * k+200 < cLine
 gd:A.guards=some []
theorem Room.mono{j k:Nat}(r:Room k A)(h:j<=k):Room j A:=⟨r.hd,by have:=r.dp;omega,by have:=r.un;omega,r.gd⟩
theorem Room.deeper{k:Nat}(r:Room (k+1) A)(env:Env):Room k (A.deeper env):=
 ⟨r.hd,by have:=r.dp;show A.depth+1+3 * k+5 < _;omega,by have:=r.un;show A.units+3+16 * k+200 < _;omega,r.gd⟩
theorem Room.in1{k:Nat}(r:Room (k+1) A):Room k A.in1:=
 ⟨r.hd,by have:=r.dp;show A.depth+3 * k+5 < _;omega,by have:=r.un;show A.units+1+16 * k+200 < _;omega,r.gd⟩
theorem jaK:(A.under (.builtin "type.__call__" ⟨.ref C :: us,kw⟩)).depth=A.depth+1:=by
 first | rfl | simp[ED,Code.weight,Code.isCreation,Code.isGuard,Code.isCaller,Ow,Ex,guardIds]
theorem jaJ:(A.under (.builtin "type.__call__" ⟨.ref C :: us,kw⟩)).units=A.units+1:=by
 first | rfl | simp[ED,Code.cUnits,Ow,Ex]
theorem ZN:(A.under (.builtin "type.__call__" ⟨.ref C :: us,kw⟩)).guards=A.guards:=by
 first | rfl | (cases A with | mk a b c d e=>cases d <;> rfl)
theorem Room.make{k:Nat}(r:Room (k+1) A)(C:aa)(us:List ac)(kw:List (Str×ac)):Room k (A.under (.builtin "type.__call__" ⟨.ref C :: us,kw⟩)):=
 ⟨r.hd,by have:=r.dp;rw[jaK];omega,by have:=r.un;rw[jaJ];omega,by rw[ZN];exact r.gd⟩
theorem Room.depth{k:Nat}(r:Room k A):A.depth < recursionLimit:=by have:=r.dp;omega
theorem Room.units{k:Nat}(r:Room k A):A.units+64 < cLine:=by have:=r.un;omega
def jfW:TA:=fun _ H Q=>Q [] H
def ja9(ta:TE)(tr:TA):TA:=fun σ H Q=>ta σ H fun x H1=>tr σ H1 fun xs H2=>Q (x :: xs) H2
variable {es:List ag}
section
variable {te:TE}{t:TA}
theorem ji:PA X [] jfW:=fun _ _ _ _ H Q I h=>Ey ⟨[],H,I,.nil,h⟩
theorem jeW(ha:PE X e te)(hr:PA X es t)(hs:bo (e :: es) X.env=(false,eval e X.env) :: bo es X.env:=by rfl):PA X (e :: es) (ja9 te t):=by
 intro pos ab s σ H Q I h;rw[hs];show af _ _ (spliced ((false,eval e X.env) :: eE pos (bo es X.env))) _ _ s;refine xC (thn (ha ab s σ H _ I h) fun u s1 hM=>?_);obtain⟨x,H1,I1,r1,q1⟩:=hM;exact thn (hr pos ab s1 σ H1 _ I1 q1) fun us s2 ⟨xs,H2,I2,r2,q2⟩=>⟨x :: xs,H2,I2,.cons r1 r2,q2⟩
def jgR(t:TA):TE:=fun σ H Q=>t σ H fun xs H1=>xs.length<=aB/\∀p,H1 p=none->Q (.ref p) (upd H1 p (.tup xs))
def jfX(t:TA):TE:=fun σ H Q=>t σ H fun xs H1=>xs.length<=aB/\∀p,H1 p=none->Q (.ref p) (upd H1 p (.lst xs))
theorem j0{x1}(h:PA X es t):PE X (.Tuple es x1 pos) (jgR t):=by
 intro ab s σ H Q I hq;refine wpAny_Tuple_spliced (thn (h pos ab s σ H _ I hq) fun us s1 ⟨xs,H1,I1,r,z,q⟩=>⟨by rw[<- r.length];exact z,?_⟩);have hf:H1 s1.heap.objs.size=none:=I1.hok.fresh (ay _);refine⟨.ref s1.heap.objs.size,upd H1 s1.heap.objs.size (.tup xs),I1.laid (t':=s1.toks) (fun b u e=>aF _ e) (ay _) ?_,rfl,q _ hf⟩;exact⟨z,us,r,⟨_,bz _ rfl,rfl,_,rfl⟩⟩
theorem ko(h:PA X es t):PE X (.List es pos) (jfX t):=by
 intro ab s σ H Q I hq;refine wpAny_List_spliced (thn (h pos ab s σ H _ I hq) fun us s1 ⟨xs,H1,I1,r,z,q⟩=>⟨by rw[<- r.length];exact z,?_⟩);have hf:H1 s1.heap.objs.size=none:=I1.hok.fresh (ay _);refine⟨.ref s1.heap.objs.size,upd H1 s1.heap.objs.size (.lst xs),I1.laid (t':=s1.toks) (fun b u e=>aF _ e) (ay _) ?_,rfl,q _ hf⟩;exact⟨z,us,0,r,bz _ rfl⟩
end
abbrev Sp:=List V->Hp->VK->XK->Prop
abbrev CXT:=List Env->Hp->ae->XK->ac->ae->Prop
structure Env0(P:av)(w:ar)(K:ai)(mg:Str->Option ac)(base:aq)(A:aD)(outer:List Env)(s:ae)(H:Hp):Prop where
 frames:A.frames=some outer
 mod:Mod K mg base
 bs:∀b o,base.get? b=some o->s.heap.get? b=some o/\H b=none
 bsz:base.objs.size<=s.heap.objs.size
 funs:s.heap.FunFrames base outer
 frf:∀b∈frs outer,H b=none
 hok:HOk P w H s.heap
 bare:lh s.gens
def CE(outer:List Env)(P:av)(w:ar)(H:Hp)(s:ae)(Q:VK)(u:ac)(s':ae):Prop:=
 ∃v H',s'.os=s.os/\lh s'.gens/\Un (frs outer) [] H H' s.heap s'.heap/\HOk P w H' s'.heap/\RelV v u/\Q v H'
def CR(CX:CXT)(outer:List Env)(P:av)(w:ar)(H:Hp)(s:ae)(Q:VK)(E:XK)(r:lb)(s':ae):Prop:=
 match r with
 | .ok (.ret u)=>CE outer P w H s Q u s'
 | .ok _=>False
 | .error e=>CX outer H s E e s'
structure FnOk(P:av)(w:ar)(K:ai)(mg:Str->Option ac)(base:aq)(CX:CXT)(k:Nat)(f:aa)(fd:aH)(ps:List Str)(sp:Sp):Prop where
 len:∀vs H Q E,sp vs H Q E->vs.length=ps.length
 run:∀(A:aD) (outer:List Env) (s:ae) (H:Hp) (args:Args) (us:List ac) (vs:List V) (Q:VK) (E:XK),Room k A->Env0 P w K mg base A outer s H->ro s fd args (ps.zip us)->Vals vs us->sp vs H Q E->
  dR (aj P w) A (.call (.ref f) args) (CR CX outer P w H s Q E) s
variable {mg:Str->Option ac}{base:aq}{outer:List Env}
theorem Env0.make{P:av}(e:Env0 P w K mg base A outer s H)(C:aa)(us:List ac)(kw:List (Str×ac)):
  Env0 P w K mg base (A.under (.builtin "type.__call__" ⟨.ref C :: us,kw⟩)) outer s H:=⟨by first | exact e.frames | (simpa[ED,Code.envs,Ex,pushEnvs]using e.frames),e.mod,e.bs,e.bsz,e.funs,e.frf,e.hok,e.bare⟩
theorem Env0.in1{P:av}(e:Env0 P w K mg base A outer s H):
  Env0 P w K mg base A.in1 outer s H:=⟨e.frames,e.mod,e.bs,e.bsz,e.funs,e.frf,e.hok,e.bare⟩
section
variable {σ:St}
theorem Inv.env0(I:Inv X ab σ H s):Env0 X.prog X.w X.K X.mg X.base X.A X.stack s H:=
 ⟨I.ok.frames,I.ok.mod,I.bs,aZ I.ok.bsz I.sz,I.stack,I.stkFree,I.hok,I.bare⟩
theorem Inv.after{Q:VK}(I:Inv X ab σ H s)(h:CE X.stack X.prog X.w H s Q u s'):EP X ab σ Q u s':=by
 obtain⟨v,H',os,bare,un,hok,r,q⟩:=h;obtain⟨hh,g,d,t,FO⟩:=s';obtain rfl:FO=s.os:=os;exact⟨v,H',I.call (h':=hh) (g':=g) (d':=d) (t':=t) (ch:=[]) un hok bare (fun b z=>absurd z (by simp)),r,q⟩
end
def jc2(sp:Sp)(dQ:List V)(E:XK)(t:TA):TE:=fun σ H Q=>t σ H fun vs H1=>sp (vs++dQ) H1 Q E
def jcZ(C:aa)(sp:Sp)(dQ:List V)(E:XK)(t:TA):TE:=fun σ H Q=>t σ H fun vs H1=>∀x dx,H1 x=none->H1 dx=none->dx≠x->
 sp (.ref x :: (vs++dQ)) (upd (upd H1 dx (.own x)) x (.ins C dx [])) (fun v H2=>v=.non/\Q (.ref x) H2) E
def Binds(K:ai)(fd:aH)(ps:List Str)(ds:List ac):Prop:=
 ∀(s:ae) (us:List ac),K.In s.heap->(us++ds).length=ps.length->ro s fd ⟨us,[]⟩ (ps.zip (us++ds))
variable {ps:List Str}
theorem Binds.all{fd:aH}(h:∀us:List ac,us.length=ps.length->bindArgs fd ⟨us,[]⟩=pure (ps.zip us)):Binds K fd ps []:=fun s us _ hl=>by
 rw[dj]at hl |-;exact .of_eq (h us hl)
def KU(CX:CXT)(X:Cx)(E:XK):Prop:=∀(ab:List (aa×Obj)) (σ:St) (H:Hp) (s:ae) (e:ac) (s':ae),Inv X ab σ H s->CX X.stack H s E e s'->X.xe e s'
variable {CX:CXT}{vs:List V}
section
variable {k:Nat}{fd:aH}{sp:Sp}{dQ:List V}{ds:List ac}{E:XK}{m:Str}{p cW:Pos}{o:ag}{t:TA}
theorem jf6{σ:St}{Q:VK}(F:FnOk X.prog X.w X.K X.mg X.base CX k f fd ps sp)(hr:Room k X.A)(hb:Binds X.K fd ps ds)(hd:Vals dQ ds)(hx:KU CX X E)
  (I:Inv X ab σ H s) (r:Vals vs us) (h:sp (vs++dQ) H Q E):af (aj X.prog X.w) X.A (call (.ref f) us) (EP X ab σ Q) X.xe s:=by
 have r2:Vals (vs++dQ) (us++ds):=r.append hd
 have hl:(us++ds).length=ps.length:=by rw[<- r2.length];exact F.len _ _ _ _ h
 refine DH (rh (F.run X.A X.stack s H ⟨us,[]⟩ (us++ds) (vs++dQ) Q E hr I.env0 (hb s us I.kIn hl) r2 h) fun r s' hq=>?_)
 cases r with
 | error e=>exact hx ab σ H s e s' I hq
 | ok fl=>
  cases fl with
  | ret u=>exact I.after hq
  | next=>exact fK hq
  | brk=>exact fK hq
  | cont=>exact fK hq
theorem jeU(F:FnOk X.prog X.w X.K X.mg X.base CX k f fd ps sp)(hr:Room k X.A)(hg:Gl X x)(hm:X.mg x=some (.ref f))(hk:gX X.K (.ref f)=true)(hb:Binds X.K fd ps ds)(hd:Vals dQ ds)(hx:KU CX X E)
  (ha:PA X (e :: es) t) (fY:(x == ("__debug__" : Str))=false:=by decide) (he:bo (e :: es) X.env=(false,eval e X.env) :: bo es X.env:=by rfl) (bC:(eE pos (bo es X.env)).any (·.1)=false:=by rfl) :
  PE X (.Call (.Name x p) (e :: es) [] pos) (jc2 sp dQ E t):=by
 intro ab s σ H Q I h
 refine p9 (Y4 I hg hm ?_ fY)
 refine NY (h₀:=X.base) I.ok.mod.kin hk (thn (ha pos ab s σ H _ I h) fun us s1 ⟨vs,H1,I1,r,q⟩=>⟨I1.kIn,?_⟩) he bC
 exact jf6 F hr hb hd hx I1 r q
structure Mk(K:ai)(C f:aa):Prop where
 makes:xk K C=true
 init:cp K (.ref C) "__init__" = some (some (.ref f))
 fn:PySem.W.isFn K (.ref f)=true
 kp:gX K (.ref C)=true
theorem jdb{σ:St}{Q:VK}(M:Mk X.K C f)(F:FnOk X.prog X.w X.K X.mg X.base CX k f fd ps sp)(hr:Room (k+1) X.A)(hb:Binds X.K fd ps ds)(hd:Vals dQ ds)
  (hx:KU CX X E) (I:Inv X ab σ H s) (r:Vals vs us)
  (h:∀x dx,H x=none->H dx=none->dx≠x->sp (.ref x :: (vs++dQ)) (upd (upd H dx (.own x)) x (.ins C dx [])) (fun v H2=>v=.non/\Q (.ref x) H2) E) :
  af (aj X.prog X.w) X.A (call (.ref C) us) (EP X ab σ Q) X.xe s:=by
 have hq:=h (s.heap.objs.size+1) s.heap.objs.size (I.hok.fresh (dX _)) (I.hok.fresh (ay _)) (aN (xP _))
 have I2:=Inv.made (C:=C) I
 have r2:Vals (V.ref (s.heap.objs.size+1) :: (vs++dQ)) (Value.ref (s.heap.objs.size+1) :: (us++ds)):=.cons rfl (r.append hd)
 have hl:(Value.ref (s.heap.objs.size+1) :: us++ds).length=ps.length:=by
  have e:=r2.length;rw[F.len _ _ _ _ hq]at e;exact e.symm
 refine DH (jdP (f:=f) I.kIn M.makes M.init (beq_iff_eq.mp M.fn) (rh (F.run _ X.stack _ _ ⟨Value.ref (s.heap.objs.size+1) :: us,[]⟩ (Value.ref (s.heap.objs.size+1) :: (us++ds)) _ _ E (hr.make C us [])
  (I2.env0.make C us []) (hb _ (Value.ref (s.heap.objs.size+1) :: us) I2.kIn hl) r2 hq) fun r s' ig=>?_))
 cases r with
 | error e=>exact hx ab σ _ _ e s' I2 ig
 | ok fl=>
  cases fl with
  | ret u=>
   obtain⟨v,H',I3,rv,ev,q3⟩:=I2.after ig
   subst ev
   exact⟨rv,⟨V.ref (s.heap.objs.size+1),H',I3,rfl,q3⟩⟩
  | next=>exact fK ig
  | brk=>exact fK ig
  | cont=>exact fK ig
theorem jeO(M:Mk X.K C f)(F:FnOk X.prog X.w X.K X.mg X.base CX k f fd ps sp)(hr:Room (k+1) X.A)(hg:Gl X x)(hm:X.mg x=some (.ref C))(hb:Binds X.K fd ps ds)(hd:Vals dQ ds)(hx:KU CX X E)
  (ha:PA X (e :: es) t) (fY:(x == ("__debug__" : Str))=false:=by decide) (he:bo (e :: es) X.env=(false,eval e X.env) :: bo es X.env:=by rfl) (bC:(eE pos (bo es X.env)).any (·.1)=false:=by rfl) :
  PE X (.Call (.Name x p) (e :: es) [] pos) (jcZ C sp dQ E t):=by
 intro ab s σ H Q I h
 refine p9 (Y4 I hg hm ?_ fY)
 refine NY (h₀:=X.base) I.ok.mod.kin M.kp (thn (ha pos ab s σ H _ I h) fun us s1 ⟨vs,H1,I1,r,q⟩=>⟨I1.kIn,?_⟩) he bC
 exact jdb M F hr hb hd hx I1 r q
end
structure FnScope(N P:List Str)(sc:b_):Prop where
 kind:sc.kind=.function
 co:sc.isCoroutine=false
 gen:sc.isGenerator=false
 nd:N.Nodup
 pre:N.take P.length=P
 par:∀x∈P,sc.names.lookup x=some .local\/sc.names.lookup x=some .cell
 nofree:∀y∈sc.names,y.2≠.free
theorem Yx{kindOf:Str->Option gt}{x:Str}:∀{binds:List (Str×ac)} {m:Str->Option ac},(∀v,(x,v) ∉ binds)->bindL kindOf binds m x=m x
 | [],_,_=>rfl
 | (n,v) :: r,m,h=>by
  unfold bindL;rw[Yx fun w hw=>h w (bK _ hw)];split
  .have:x≠n:=by rintro rfl;exact h v bQ
   simp[this]
  .rfl
theorem Yz{kindOf:Str->Option gt}{x:Str}:∀{binds:List (Str×ac)} {m:Str->Option ac},(∀v,(x,v) ∉ binds)->bindC kindOf binds m x=m x
 | [],_,_=>rfl
 | (n,v) :: r,m,h=>by
  unfold bindC;rw[Yz fun w hw=>h w (bK _ hw)];split
  .rfl
  .have:x≠n:=by rintro rfl;exact h v bQ
   simp[this]
theorem Yy{kindOf:Str->Option gt}{x:Str}{v:ac}:∀{P:List Str} {vs:List ac} {i:Nat} {m:Str->Option ac},P.Nodup->P[i]?=some x->vs[i]?=some v->kindOf x=some .local->
  bindL kindOf (P.zip vs) m x=some v
 | [],_,_,_,_,h,_,_=>by simp at h
 | _ :: _,[],_,_,_,_,h,_=>by simp at h
 | p :: P,w :: vs,0,m,nd,h1,h2,hk=>by
  simp at h1 h2;subst h1;subst h2;show bindL kindOf ((p,w) :: P.zip vs) m p=_;unfold bindL;rw[Yx fun v hv=>(gz.mp nd).1 (xU hv).1,Qg hk];simp
 | p :: P,w :: vs,i+1,m,nd,h1,h2,hk=>by
  show bindL kindOf ((p,w) :: P.zip vs) m x=_;unfold bindL;exact Yy (i:=i) (gz.mp nd).2 (by simpa using h1) (by simpa using h2) hk
theorem YA{kindOf:Str->Option gt}{x:Str}{v:ac}:∀{P:List Str} {vs:List ac} {i:Nat} {m:Str->Option ac},P.Nodup->P[i]?=some x->vs[i]?=some v->kindOf x≠some .local->
  bindC kindOf (P.zip vs) m x=some v
 | [],_,_,_,_,h,_,_=>by simp at h
 | _ :: _,[],_,_,_,_,h,_=>by simp at h
 | p :: P,w :: vs,0,m,nd,h1,h2,hk=>by
  simp at h1 h2;subst h1;subst h2;show bindC kindOf ((p,w) :: P.zip vs) m p=_;unfold bindC;rw[Yz fun v hv=>(gz.mp nd).1 (xU hv).1,Qf hk];simp
 | p :: P,w :: vs,i+1,m,nd,h1,h2,hk=>by
  show bindC kindOf ((p,w) :: P.zip vs) m x=_;unfold bindC;exact YA (i:=i) (gz.mp nd).2 (by simpa using h1) (by simpa using h2) hk
def y0(N:List Str)(vs:List V):St:=vs.map some++List.replicate (N.length - vs.length) none
def JQ(CX:CXT)(P:av)(w:ar)(K:ai)(mg:Str->Option ac)(base:aq)(N:List Str)(bj:Str)(scope:b_)(f:aa)(cd:ac)(A:aD)(outer:List Env)(s:ae)(H:Hp)(E:XK):Cx where
 prog:=P
 w:=w
 K:=K
 mg:=mg
 base:=base
 A:=A.deeper (envOfC bj scope s.heap.objs.size f cd)
 N:=N
 s₀:=s
 H₀:=H
 env:=envOfC bj scope s.heap.objs.size f cd
 outer:=outer
 stack:=envOfC bj scope s.heap.objs.size f cd :: outer
 ex:=[]
 calm:=true
 fn:=fun _=>true
 pn:=[]
 xe:=fun e s'=>af (aj P w) (A.deeper (envOfC bj scope s.heap.objs.size f cd)) (leaving (envOfC bj scope s.heap.objs.size f cd) e) (fun _ lF=>CX outer H s E e lF) (fun e' lF=>CX outer H s E e' lF) s'
theorem jaa{sc:b_}{n:Nat}(h:sc.names.lookup x=some .cell):∃c,(DX n sc.names []).lookup x=some c:=by
 have q:=NX sc.names n [] (.inl h);exact tY.mp q
theorem jce{P:av}{N:List Str}{bj:Str}{scope:b_}{cd:ac}{s1:ae}{E:XK}
  (S:FnScope N ps scope) (hd:A.handled=none) (e0:Env0 P w K mg base A outer s H) (hl:vs.length=ps.length) (r:Vals vs us)
  (x:InCallC s s.heap.objs.size (bindL (envOfC bj scope s.heap.objs.size f cd).kindOf (ps.zip us) fun _=>none) (DX (s.heap.objs.size+1) scope.names []) (bindC (envOfC bj scope s.heap.objs.size f cd).kindOf (ps.zip us) fun _=>none) s1) :
  Inv (JQ CX P w K mg base N bj scope f cd A outer s H E) [] (y0 N vs) H s1:=by
 have bC:ps.length<=N.length:=by have:=Qi lz S.pre;rw[a_]at this;omega
 obtain⟨h1,tk,rfl,hk⟩:=x.done
 have oK:∀b:aa,b ∉ (JQ CX P w K mg base N bj scope f cd A outer s H E).ex:=fun b z=>absurd (show b∈([]:List aa) from z) (by simp)
 refine⟨⟨e0.mod,S.kind,rfl,rfl,ay _,fun y z c h1 h2=>?_,fun y hy=>?_,fun y c _ h=>?_,fun _=>hd,aD.frames_deeper e0.frames,.inr ⟨rfl,rfl⟩,fun b z=>absurd z (oK b),e0.bs,e0.bsz,fun b _ _=>oK b,fun b z=>absurd z (oK b),e0.funs,e0.frf⟩,
  rfl,e0.bare,Un.kept hk,⟨_,x.toInCall.ns,fun i y v h1 h2 h3=>?_⟩,fun y c h=>⟨_,x.cell y c h⟩,e0.hok.fresh (ay _),fun y c h=>?_,fun p hp=>absurd (show p∈([]:List (aa×Obj)) from hp) (by simp),e0.hok.kept hk,?_⟩
 .exact name_of_addr x.apart (my h1) (my h2)
 .have hy:scope.names.lookup y=some .cell\/scope.names.lookup y=some .free:=hy
  rcases hy with hy | hy
  .exact jaa hy
  .exact absurd rfl (S.nofree _ (my hy))
 .exact cQ (x.above y c (my h))
 .have hi:i < vs.length:=by
   unfold y0 at h2;by_cases hi:i < vs.length
   .exact hi
   .rw[rF (by simpa using hi)]at h2
    rw[List.getElem?_replicate]at h2;split at h2 <;> cases h2
  have ha:vs[i]?=some v:=by
   unfold y0 at h2;rw[EZ (by simpa using hi),bA]at h2
   cases e:vs[i]? with
   | none=>rw[e]at h2;cases h2
   | some a=>rw[e]at h2;cases h2;rfl
  obtain⟨u,hu,rv⟩:=r.get ha;have hp:ps[i]?=some y:=by
   rw[<- S.pre,List.getElem?_take_of_lt (by omega)];exact h1
  have AG:ps.Nodup:=by rw[<- S.pre];exact S.nd.sublist (ER _ _)
  refine⟨u,rv,?_⟩;rcases S.par y (EU hp) with k | k
  .exact .inl ⟨k,Yy AG hp hu k⟩
  .obtain⟨c,e⟩:=jaa (n:=s.heap.objs.size+1) k
   refine .inr ⟨.inl k,c,e,?_⟩;have q:=x.cell y c e;rw[YA AG hp hu (by show scope.names.lookup y≠_;rw[k];decide)]at q;exact q
 .exact e0.hok.fresh (cQ (x.above y c (my h)))
 .unfold y0
  show _=N.length
  rw[aP,am,List.length_replicate]
  omega
theorem jhj{P:av}{k:Nat}{name bj:Str}{params:Arguments}{body:List au}{scope:b_}{dV kV cN pm az ct oc:ac}{an od:Option aa}
  {iN:Array (Option ac)} {N ps:List Str} {sp:Sp} (lk:K.lookup f=some ⟨oc,od,.func (iE name bj params body scope dV kV cN pm an az ct),iN⟩) (fZ:nW K az bj=true) (S:FnScope N ps scope)
  (len:∀vs H Q E,sp vs H Q E->vs.length=ps.length)
  (pE:∀(A:aD) (outer:List Env) (s:ae) (H:Hp) (vs:List V) (Q:VK) (E:XK),Room k (A.deeper (envOfC bj scope s.heap.objs.size f az))->sp vs H Q E->
   ∃t,PSs (JQ CX P w K mg base N bj scope f az A outer s H E) body t/\t { nx:=fun _ H'=>Q .non H',rt:=Q } (y0 N vs) H) :
  FnOk P w K mg base CX (k+1) f (iE name bj params body scope dV kV cN pm an az ct) ps sp:=by
 refine⟨len,fun A outer s H args us vs Q E hr e0 hb r dB=>?_⟩
 have hl:=len _ _ _ _ dB
 have KX:K.In s.heap:=e0.mod.kin.keeps fun b o e=>(e0.bs b o e).1
 have Gd:s.heap.NoLimit:=e0.mod.nolimit.keeps fun b o e=>(e0.bs b o e).1
 have IB:∀y∈ps.zip us,scope.names.lookup y.1=some .local\/(scope.names.lookup y.1=some .cell/\((DX (s.heap.objs.size+1) scope.names []).lookup y.1).isSome=true):=fun⟨n,v⟩ hy=>by
  rcases S.par n (xU hy).1 with q | q
  .exact .inl q
  .exact .inr ⟨q,NX _ _ _ (.inl q)⟩
 refine codeAny_call_function hr.depth (KX _ _ lk) rfl S.co S.gen rfl (PySem.W.codeRec_of KX fZ) (hb _ _ _ _ ?_)
 refine wpAny_newFunctionEnv_cells S.kind IB fun env he s1 x=>?_
 subst he
 refine⟨Gd.keeps x.toInCall.keep,codeAny_func ?_⟩
 obtain⟨t,ht,hq⟩:=pE A outer s H vs Q E (hr.deeper _) dB
 have I:Inv (JQ CX P w K mg base N bj scope f az A outer s H E) [] (y0 N vs) H s1:=jce S hr.hd e0 hl r x
 refine cB (ht [] s1 (y0 N vs) H _ I hq) (fun fl s' hs=>?_) fun e s' hs=>hs
 have fin:∀{σ':St} {H':Hp} {v:V} {u:ac},Inv (JQ CX P w K mg base N bj scope f az A outer s H E) [] σ' H' s'->RelV v u->Q v H'->CE outer P w H s Q u s':=
  fun {σ' H' v u} J rv q=>⟨v,H',J.os,J.bare,J.base,J.hok,rv,q⟩
 cases fl with
 | ret u=>
  obtain⟨v,σ',H',J,rv,q⟩:=hs
  exact fin J rv q
 | next=>
  obtain⟨σ',H',J,q⟩:=hs
  exact fin (v:=V.non) (u:=Value.none) J rfl q
 | brk=>
  obtain⟨_,_,_,q⟩:=hs
  exact fK q
 | cont=>
  obtain⟨_,_,_,q⟩:=hs
  exact fK q
section
variable {p:Pos}{t:TA}{id T:String}{r:List V->Hp->VK->Prop}
def tCB(r:List V->Hp->VK->Prop)(t:TA):TE:=fun σ H Q=>t σ H fun vs H1=>r vs H1 Q
theorem jdu(hc:qd X (.builtin id) r)(hg:Gl X x)(hm:X.mg x=none)(hv:bS x=some (.builtin id))(ha:PA X (e :: es) t)(hn:x≠"__name__":=by decide)(fY:(x == ("__debug__" : Str))=false:=by decide)
  (he:bo (e :: es) X.env=(false,eval e X.env) :: bo es X.env:=by rfl) (bC:(eE pos (bo es X.env)).any (·.1)=false:=by rfl):PE X (.Call (.Name x p) (e :: es) [] pos) (tCB r t):=by
 intro ab s σ H Q I h
 refine p9 (yh I hg hm hv ?_ hn fY)
 exact PyProof.Rows.callWith_builtin1 (thn (ha pos ab s σ H _ I h) fun us s1 ⟨vs,H1,I1,r1,q1⟩=>hc ab s1 σ H1 vs us Q I1 r1 q1) he bC
theorem jbU(hc:qd X (.type T) r)(hg:Gl X x)(hm:X.mg x=none)(hv:bS x=some (.type T))(ha:PA X (e :: es) t)(hn:x≠"__name__":=by decide)(fY:(x == ("__debug__" : Str))=false:=by decide)
  (he:bo (e :: es) X.env=(false,eval e X.env) :: bo es X.env:=by rfl) (bC:(eE pos (bo es X.env)).any (·.1)=false:=by rfl):PE X (.Call (.Name x p) (e :: es) [] pos) (tCB r t):=by
 intro ab s σ H Q I h
 refine p9 (yh I hg hm hv ?_ hn fY)
 exact rA (thn (ha pos ab s σ H _ I h) fun us s1 ⟨vs,H1,I1,r1,q1⟩=>hc ab s1 σ H1 vs us Q I1 r1 q1) he bC
end
end L2
namespace HT
open PySem PyProof.Rows
section
variable {prog:av}{w:ar}{A:aD}{E:ac->ae->Prop}{s:ae}
theorem cat_tup{t b:aa}{vs ws:List ac}{Q:ac->ae->Prop}(ht:IsTup s.heap t vs.toArray)(hb:IsTup s.heap b ws.toArray)(hv:vs≠[])
  (h1:ws=[]->Q (.ref t) s) (h2:ws≠[]->Q (.ref s.heap.objs.size) { s with heap:=s.heap.push { cls:=.type "tuple",data:=.seq (vs++ws).toArray } })
  (hsz:vs.length+ws.length<=aB):af (aj prog w) A (eD .Add (.ref t) (.ref b)) Q E s:=by
 obtain⟨⟨cls,dd,data,sl⟩,ho,hc,n,hd⟩:=id ht
 obtain⟨⟨Mr,tw,data2,rT⟩,fh,f_,n2,cG⟩:=id hb
 simp only at hc hd f_ cG
 subst hc hd f_ cG
 have e:vs.toArray++ws.toArray=(vs++ws).toArray:=by simp
 by_cases hw:ws=[]
 .exact xh ⟨_,ho,rfl⟩ ⟨_,fh,rfl⟩ DR DP Eo Es (Eu _ _)
   (tuple_addW1 t b vs.toArray ws.toArray n n2 dd tw sl rT (by simpa using hv) (by simp[hw])) ⟨ho,fh,h1 hw⟩
 .refine xh ⟨_,ho,rfl⟩ ⟨_,fh,rfl⟩ DR DP Eo Es (Eu _ _)
   (tuple_addW2 t b vs.toArray ws.toArray n n2 dd tw sl rT (by simpa using hv) (by simpa using hw) (by rw[bP,bP];exact hsz)) ⟨ho,fh,?_⟩
  rw[e]
  exact h2 hw
def sIx(n d:Nat):Option Int->Nat
 | none=>d
 | some v=>if v < 0 then (v+(n:Int)).toNat else min v.toNat n
theorem sIx_none(n d:Nat):sIx n d none=d:=rfl
theorem sIx_nat(n d k:Nat):sIx n d (some (k:Int))=min k n:=by
 show (if (k:Int) < 0 then ((k:Int)+(n:Int)).toNat else min (k:Int).toNat n)=min k n;rw[Qf (by omega),lB]
theorem jf4(n d:Nat)(hd:d<=n)(o:Option Int):sIx n d o<=n:=by
 cases o with
 | none=>exact hd
 | some v=>
  show (if v < 0 then (v+(n:Int)).toNat else min v.toNat n)<=n;by_cases hv:v < 0
  .rw[Qg hv];omega
  .rw[Qf hv];exact Nat.min_le_right _ _
theorem jbx(v:Int)(n d:Nat):(if v < 0 then max (v+(n:Int)) 0 else min v (n:Int))=((sIx n d (some v):Nat):Int):=by
 show (if v < 0 then max (v+(n:Int)) 0 else min v (n:Int))=(((if v < 0 then (v+(n:Int)).toNat else min v.toNat n):Nat):Int);by_cases hv:v < 0
 .simp only[Qg hv];omega
 .simp only[Qf hv];omega
theorem ja2(lo hi:Option Int)(n:Nat):EA lo hi 1 (n:Int)=(((sIx n 0 lo:Nat):Int),((sIx n n hi:Nat):Int)):=by
 have h1:¬((1:Int) < 0):=by omega
 unfold EA;simp only[h1,if_false];refine Prod.ext ?_ ?_
 .cases lo with
  | none=>rfl
  | some v=>exact jbx v n 0
 .cases hi with
  | none=>rfl
  | some v=>exact jbx v n n
theorem jaw(i j:Nat):xF (i:Int) (j:Int) 1=j - i:=by
 unfold xF;have h1:(1:Int) > 0:=by omega
 simp only[h1,if_true,Int.ediv_one];split <;> omega
theorem Ke{v:ac}{o:Option Int}{Q:Option Int->ae->Prop}(p:iF v o)(h:Q o s):af (aj prog w) A (Builtin.Slice.slicePartIndex v) Q E s:=by
 cases p with
 | none=>exact slicePart_none h
 | int i t=>exact slicePart_int h
theorem zu{sl:aa}{vl vu:ac}{lo hi:Option Int}{n:Nat}{Q:Int×Int×Nat->ae->Prop}(hs:s.heap.IsSliceOf sl vl vu .none)(pl:iF vl lo)(pu:iF vu hi)
  (h:Q (((sIx n 0 lo:Nat):Int),1,sIx n n hi - sIx n 0 lo) s):af (aj prog w) A (OC (.ref sl) (pure (n:Int))) Q E s:=by
 obtain⟨os,lP,lY,pB⟩:=id hs
 unfold OC Builtin.Slice.sliceFields
 refine ad (ad (bO lP pB (x:=vl) rfl (ad (bO lP pB (x:=vu) rfl (ad (bO lP pB (x:=.none) rfl (al ?_)))))))
 refine ad (slicePart_none ?_)
 show af _ _ (if ((1:Int) == 0)=true then _ else _) _ _ s
 rw[Qf (by decide)]
 refine ad (Ke pl (ad (Ke pu (ad (al ?_)))))
 show af _ _ (match EA lo hi 1 (n:Int) with | (lo,hi)=>pure (lo,(1:Int),xF lo hi 1)) _ _ s
 rw[ja2 lo hi n]
 show af _ _ (pure (((sIx n 0 lo:Nat):Int),(1:Int),xF ((sIx n 0 lo:Nat):Int) ((sIx n n hi:Nat):Int) 1)) _ _ s
 rw[jaw]
 exact al h
theorem jdo(xs:Array ac)(i k:Nat):((bm k).filterMap fun (m:Nat)=>xs[((i:Int)+(m:Int) * 1).toNat]?).toArray=((xs.toList.drop i).take k).toArray:=by
 have e:(fun (m:Nat)=>xs[((i:Int)+(m:Int) * 1).toNat]?)=fun m=>xs[i+m]?:=by
  funext m;have:((i:Int)+(m:Int) * 1).toNat=i+m:=by omega
  rw[this]
 rw[e];have:=pick_run xs i k;rw[List.filterMap_map]at this;have e2:((fun x=>xs[x]?) ∘ fun x=>i+x)=fun m=>xs[i+m]?:=rfl
 rw[e2]at this;rw[this]
theorem getItem_tuple_cut{t sl:aa}{items:Array ac}{vl vu:ac}{lo hi:Option Int}{Q:ac->ae->Prop}(ht:IsTup s.heap t items)(hs:s.heap.IsSliceOf sl vl vu .none)(pl:iF vl lo)(pu:iF vu hi)
  (hw:¬(sIx items.size 0 lo=0/\sIx items.size items.size hi=items.size))
  (h:Q (.ref s.heap.objs.size) { s with heap:=s.heap.push { cls:=.type "tuple",data:=.seq ((items.toList.drop (sIx items.size 0 lo)).take (sIx items.size items.size hi - sIx items.size 0 lo)).toArray } })
  (hsz:items.size<=aB):af (aj prog w) A (iB (.ref t) (.ref sl)) Q E s:=by
 have m6:sizeOk (.seq ((items.toList.drop (sIx items.size 0 lo)).take (sIx items.size items.size hi - sIx items.size 0 lo)).toArray):=by
  show ((items.toList.drop (sIx items.size 0 lo)).take (sIx items.size items.size hi - sIx items.size 0 lo)).toArray.size<=aB;rw[bP,a_,gA,fL];omega
 have hj:sIx items.size items.size hi<=items.size:=jf4 _ _ (ay _) hi
 obtain⟨os,lP,lY,pB⟩:=id hs
 have vS:s.TypeIs (.ref sl) "slice":=⟨os,lP,lY⟩
 unfold iB
 try with_reducible refine de ?_
 first | refine ad (al ?_) | skip
 refine ad (MQ ht.typeIs (by decide) ?_)
 refine ad (iy (name:=aM "__getitem__") ht.typeIs rq
  (fF rq ht.typeIs OX ?_ (O3 _ _)))
 show af _ _ (OB (.ref t) >>= _) _ _ s
 refine ad (tupleItemsOf_ ht ?_)
 refine ad (mq vS ?_)
 rw[Qg (by decide)]
 refine ad (zu hs pl pu ?_)
 have bN:¬((((sIx items.size 0 lo:Nat):Int) == 0 && (1:Int) == 1 && (sIx items.size items.size hi - sIx items.size 0 lo) == items.size)=true):=by
  intro q;rw[gB,gB]at q;have q1:((sIx items.size 0 lo:Nat):Int)=0:=eq_of_beq q.1.1;have q2:sIx items.size items.size hi - sIx items.size 0 lo=items.size:=eq_of_beq q.2;exact hw ⟨by omega,by omega⟩
 show af _ _ (if (((sIx items.size 0 lo:Nat):Int) == 0 && (1:Int) == 1 && (sIx items.size items.size hi - sIx items.size 0 lo) == items.size)=true then _ else _) _ _ s
 rw[Qf bN,jdo]
 first
  | exact ad (m:=xD _) (dG (al ⟨_,rfl,al h⟩) m6)
  | exact ad (m:=xD _) (dG (ad (al (al ⟨_,rfl,al h⟩))) m6)
  | exact ad (ad (m:=xD _) (dG (al (al ⟨_,rfl,al h⟩)) m6))
  | exact ad (ad (m:=xD _) (dG (al ⟨_,rfl,al h⟩) m6))
end
end HT
namespace L2
open PySem PySem.Spec PyProof.Rows
abbrev TO:=St->Hp->(Option Int->Hp->Prop)->Prop
def PO(X:Cx)(e:Option ag)(t:TO):Prop:=
 ∀(ab:List (aa×Obj)) (s:ae) (σ:St) (H:Hp) (Q:Option Int->Hp->Prop),Inv X ab σ H s->t σ H Q->
  af (aj X.prog X.w) X.A (evalPart e X.env) (fun u s'=>∃o H',Inv X ab σ H' s'/\iF u o/\Q o H') X.xe s
def ja7:TO:=fun _ H Q=>Q none H
def jfy(t:TE):TO:=fun σ H Q=>t σ H fun x H1=>∃i,x=.int i/\Q (some i) H1
variable {X:Cx}{e:ag}{pos:Pos}{xs:List V}{us:List ac}
section
variable {te:TE}{lo hi:Option ag}{tl th:TO}{p2:Pos}
theorem qT:PO X none ja7:=by
 intro ab s σ H Q I h;rw[evalPart_none];exact al ⟨none,H,I,.none,h⟩
theorem qS(h:PE X e te):PO X (some e) (jfy te):=by
 intro ab s σ H Q I hw;rw[evalPart_some];refine thn (h ab s σ H _ I hw) fun u s1 hM=>?_
 obtain⟨x,H1,I1,r1,q1⟩:=hM;obtain⟨i,rfl,q⟩:=q1;obtain⟨t,rfl⟩:=r1;exact⟨some i,H1,I1,.int i t,q⟩
def SlR(X:Cx)(r:V->Option Int->Option Int->Hp->VK->Prop):Prop:=
 ∀(ab:List (aa×Obj)) (s:ae) (σ:St) (H:Hp) (x:V) (v vl vu:ac) (lo hi:Option Int) (sl:aa) (Q:VK),Inv X ab σ H s->RelV x v->s.heap.IsSliceOf sl vl vu .none->iF vl lo->iF vu hi->r x lo hi H Q->
  ∃T id,p_ (.type T) "__getitem__" = pure (some (.builtin id))/\s.TypeIs v T/\af (aj X.prog X.w) X.A (iB v (.ref sl)) (EP X ab σ Q) X.xe s
def tSl(r:V->Option Int->Option Int->Hp->VK->Prop)(te:TE)(tl th:TO):TE:=fun σ H Q=>te σ H fun x H1=>tl σ H1 fun l H2=>th σ H2 fun u H3=>r x l u H3 Q
theorem qt{r:V->Option Int->Option Int->Hp->VK->Prop}(hr:SlR X r)(he:PE X e te)(hl:PO X lo tl)(hu:PO X hi th):PE X (.Subscript e (.Slice lo hi none p2) pos) (tSl r te tl th):=by
 intro ab s σ H Q I h;refine EJ (thn (he ab s σ H _ I h) fun v s1 hM=>?_);obtain⟨x,H1,I1,r1,q1⟩:=hM;refine wpAny_Slice (thn (hl ab s1 σ H1 _ I1 q1) fun vl s2 ⟨l,H2,I2,pl,q2⟩=>thn (hu ab s2 σ H2 _ I2 q2) fun vu s3 hM=>?_);obtain⟨u,H3,I3,pu,q3⟩:=hM;rw[evalPart_none];refine al ?_;have I4:Inv X ab σ H3 { s3 with heap:=s3.heap.push { cls:=.type "slice",data:=.fields #[vl,vu,.none] } }:=I3.kept (t':=s3.toks) fun b ob q=>aF _ q
 obtain⟨T,id,hT,ht,hg⟩:=hr ab { s3 with heap:=s3.heap.push { cls:=.type "slice",data:=.fields #[vl,vu,.none] } } σ H3 x v vl vu l u s3.heap.objs.size Q I4 r1 (aq.IsSliceOf.new ..) pl pu q3;show af (aj X.prog X.w) X.A (EE e (.Slice lo hi none p2) v (.ref s3.heap.objs.size)) (EP X ab σ Q) X.xe { s3 with heap:=s3.heap.push { cls:=.type "slice",data:=.fields #[vl,vu,.none] } };exact tail_any (ops:=[.ref s3.heap.objs.size,v]) ht hT hg (by with_unfolding_all rfl)
def kN(xs:List V)(lo hi:Option Int):List V:=(xs.drop (HT.sIx xs.length 0 lo)).take (HT.sIx xs.length xs.length hi - HT.sIx xs.length 0 lo)
theorem JM(xs:List V)(lo hi:Option Int):(kN xs lo hi).length<=xs.length:=by
 unfold kN;rw[a_,gA];omega
def jhp(K:ai):V->Option Int->Option Int->Hp->VK->Prop:=fun x lo hi H Q=>∃a xs,x=.ref a/\SqT K H a xs/\
 ¬(HT.sIx xs.length 0 lo=0/\HT.sIx xs.length xs.length hi=xs.length)/\∀p,H p=none->Q (.ref p) (upd H p (.tup (kN xs lo hi)))
theorem zn:SlR X (jhp X.K):=by
 intro ab s σ H x v vl vu lo hi sl Q I rx hs pl pu h;obtain⟨a,xs,rfl,hx,hw,q⟩:=h
 cases rx
 obtain⟨its,r,ht,hz⟩:=I.tuple hx;have bd:its.toArray.size=xs.length:=by rw[bP];exact r.length.symm
 refine⟨"tuple",_,rq.lookup,ht.typeIs,?_⟩;refine HT.getItem_tuple_cut ht hs pl pu (by rw[bd];exact hw) ?_ (by rw[bd];exact hz);rw[bd];refine⟨.ref s.heap.objs.size,_,I.laid (t':=s.toks) (o:=.tup (kN xs lo hi)) (fun b ob q=>aF _ q) (ay _) ?_,rfl,q _ (I.hok.fresh (ay _))⟩;exact⟨aZ (JM xs lo hi) hz,_,(r.drop (HT.sIx xs.length 0 lo)).take (HT.sIx xs.length xs.length hi - HT.sIx xs.length 0 lo),xL _ _⟩
def jg4(K:ai):R2:=fun x y H Q=>∃a b xs ys,x=.ref a/\y=.ref b/\SqT K H a xs/\SqT K H b ys/\xs≠[]/\xs.length+ys.length<=aB/\
 (ys=[]->Q (.ref a) H)/\(ys≠[]->∀p,H p=none->Q (.ref p) (upd H p (.tup (xs++ys))))
theorem Vals.nil_iff(r:Vals xs us):us=[]↔xs=[]:=by
 cases r with
 | nil=>simp
 | cons _ _=>simp
theorem jeY:OpR X (eD .Add) (jg4 X.K):=by
 intro ab s σ H x y v u Q I rx ry h;obtain⟨a,b,xs,ys,rfl,rfl,ha,hb,hx,hz,q1,q2⟩:=h
 cases rx
 cases ry
 obtain⟨its,r1,p1,_⟩:=I.tuple ha;obtain⟨aK,r2,p2,_⟩:=I.tuple hb;refine HT.cat_tup p1 p2 (fun z=>hx (r1.nil_iff.mp z)) (fun z=>⟨.ref a,H,I,rfl,q1 (r2.nil_iff.mp z)⟩) (fun z=>?_) (by rw[<- r1.length,<- r2.length];exact hz);refine⟨.ref s.heap.objs.size,_,I.laid (t':=s.toks) (o:=.tup (xs++ys)) (fun b ob q=>aF _ q) (ay _) ?_,rfl,q2 (fun w=>z (r2.nil_iff.mpr w)) _ (I.hok.fresh (ay _))⟩;exact⟨by rw[aP];exact hz,_,r1.append r2,xL _ _⟩
end
def ixN(n:Nat)(i:Int):Option Nat:=if 0<=i then (if i < n then some i.toNat else none) else if -(n:Int)<=i then some (i+n).toNat else none
def atI{α:Type}(xs:List α)(i:Int):Option α:=(ixN xs.length i).bind fun j=>xs[j]?
variable {n:Nat}
theorem jfi{i:Int}{j:Nat}(h:ixN n i=some j):seqIndex? i n=some j/\j < n/\-(n:Int)<=i/\i < n:=by
 unfold ixN at h;by_cases h0:0<=i
 .rw[Qg h0]at h
  by_cases h1:i < n
  .rw[Qg h1]at h
   have e:i.toNat=j:=dW h;exact⟨by rw[seqIndex_of h0 h1,e],by omega,by omega,h1⟩
  .rw[Qf h1]at h;cases h
 .rw[Qf h0]at h
  by_cases h1:-(n:Int)<=i
  .rw[Qg h1]at h
   have e:(i+n).toNat=j:=dW h;exact⟨by rw[seqIndex_neg (by omega) h1,e],by omega,h1,by omega⟩
  .rw[Qf h1]at h;cases h
theorem Zg{α:Type}{xs:List α}{i:Int}{v:α}(h:atI xs i=some v):∃j,seqIndex? i xs.length=some j/\xs[j]?=some v/\j < xs.length/\-(xs.length:Int)<=i/\i < xs.length:=by
 unfold atI at h
 cases e:ixN xs.length i with
 | none=>rw[e]at h;cases h
 | some j=>
  rw[e]at h;obtain⟨h1,h2,h3,h4⟩:=jfi e;exact⟨j,h1,h,h2,h3,h4⟩
theorem qG{α:Type}{xs:List α}{j:Nat}{v:α}(h:xs[j]?=some v):atI xs (j:Int)=some v:=by
 have hj:j < xs.length:=(aV.mp h).1;have e:ixN xs.length (j:Int)=some j:=by
  unfold ixN;rw[Qg (by omega),Qg (by omega)];simp
 unfold atI;rw[e];exact h
theorem jae{α:Type}(xs:List α)(v:α):atI (xs++[v]) (-1)=some v:=by
 have hl:(xs++[v]).length=xs.length+1:=by simp
 have e:ixN (xs++[v]).length (-1)=some xs.length:=by
  unfold ixN;rw[hl,Qf (by decide),Qg (by omega)];congr 1;omega
 unfold atI;rw[e];show (xs++[v])[xs.length]?=some v;simp
def jbA(b:ag):Prop:=∀o i,subscripted b false o i=operate [o,i] (iB o i)
def IxR(X:Cx)(r:R2):Prop:=
 ∀(value gG:ag) (ab:List (aa×Obj)) (s:ae) (σ:St) (H:Hp) (x y:V) (v u:ac) (Q:VK),Inv X ab σ H s->RelV x v->RelV y u->r x y H Q->
  subscripted gG false v u=operate [v,u] (iB v u)->af (aj X.prog X.w) X.A (EE value gG v u) (EP X ab σ Q) X.xe s
def MtR(X:Cx)(id:String)(r:V->List V->Hp->VK->Prop):Prop:=
 ∀(ab:List (aa×Obj)) (s:ae) (σ:St) (H:Hp) (x:V) (xs:List V) (v:ac) (us:List ac) (Q:VK),Inv X ab σ H s->RelV x v->Vals xs us->r x xs H Q->
  af (aj X.prog X.w) X.A (call (.builtin id) (v :: us)) (EP X ab σ Q) X.xe s
variable {ab:List (aa×Obj)}{H:Hp}{s:ae}{T:String}
section
variable {a b:ag}{ta tb:TE}
theorem jx{r:R2}(hr:IxR X r)(ha:PE X a ta)(hb:PE X b tb)(hs:jbA b):PE X (.Subscript a b pos) (tOp r ta tb):=by
 intro ab s σ H Q I h;exact EJ (jgH ha hb I h fun v u s2 x y H2 I2 rx ry q=>hr a b ab s2 σ H2 x y v u Q I2 rx ry q (hs _ _))
def jg3(K:ai):R2:=fun x y H Q=>∃p xs i v,x=.ref p/\y=.int i/\SqL K H p xs/\atI xs i=some v/\Q v H
def jg2(K:ai):R2:=fun x y H Q=>∃p xs i v,x=.ref p/\y=.int i/\SqT K H p xs/\atI xs i=some v/\Q v H
def jhs:R2:=fun x y H Q=>∃z i c,x=.str z/\y=.int i/\z.length<=aB/\atI z.cps.toList i=some c/\Q (.str ⟨#[c]⟩) H
theorem jG:IxR X (jg3 X.K):=by
 intro value gG ab s σ H x y v u Q I rx ry h hs;obtain⟨p,xs,i,z,rfl,rfl,hq,he,q⟩:=h
 cases rx
 obtain⟨t,rfl⟩:=ry;obtain⟨its,r,pl,hz⟩:=I.list hq;obtain⟨j,h1,h2,h3,h4,h5⟩:=Zg he;obtain⟨w,ew,dL⟩:=r.get h2;have hl:=r.length;have hn:=Y1;have fin:EP X ab σ Q w s:=⟨z,H,I,dL,q⟩
 by_cases h0:0<=i
 .have hj:i.toNat=j:=by
   rw[seqIndex_of h0 h5]at h1;exact dW h1
  exact item_listR pl.isList h0 (by omega) (by rw[hj];simpa using ew) fin hs
 .have hj:(i+(its.toArray.size:Int)).toNat=j:=by
   rw[seqIndex_neg (by omega) h4]at h1;rw[bP,<- hl];exact dW h1
  exact ON (x:=w) pl.isList.typeIs M_.lookup
   (wpAny_getItem_list_neg (Q:=fun r s'=>r=w/\EP X ab σ Q r s') pl.isList (by omega) (by rw[bP] <;> omega) (by omega) (by rw[hj];simpa using ew) ⟨rfl,fin⟩) hs
theorem jq:IxR X (jg2 X.K):=by
 intro value gG ab s σ H x y v u Q I rx ry h hs;obtain⟨p,xs,i,z,rfl,rfl,hq,he,q⟩:=h
 cases rx
 obtain⟨t,rfl⟩:=ry;obtain⟨its,r,pl,hz⟩:=I.tuple hq;obtain⟨j,h1,h2,h3,h4,h5⟩:=Zg he;obtain⟨w,ew,dL⟩:=r.get h2;have hl:=r.length;have hn:=Y1;have fin:EP X ab σ Q w s:=⟨z,H,I,dL,q⟩
 exact ON (x:=w) pl.typeIs slot_tuple_getitem.lookup
  (getItem_tuple (j:=j) (Q:=fun r s'=>r=w/\EP X ab σ Q r s') pl (by omega) (by omega) (by rw[bP,<- hl];exact h1) (by simpa using ew) ⟨rfl,fin⟩) hs
theorem jaN:IxR X jhs:=by
 intro value gG ab s σ H x y v u Q I rx ry h hs;obtain⟨z,i,c,rfl,rfl,hz,he,q⟩:=h;obtain⟨t,rfl⟩:=rx;obtain⟨t',rfl⟩:=ry;obtain⟨j,h1,h2,h3,h4,h5⟩:=Zg he;have hl:z.cps.toList.length=z.length:=by simp[Eb]
 rw[hl]at h1 h4 h5;have hn:=Y1;exact tail_any (typeIs_str s z t) slot_str_getitem.lookup (getItem_str (c:=c) (by
  have e1:decide (i < -(2 ^ 63:Int))=false:=Qe (by omega);have e2:decide (i >= 2 ^ 63)=false:=Qe (by omega);rw[e1,e2,Bool.or_false]) (by rw[h1];simpa using h2) ⟨.str ⟨#[c]⟩,H,I.tok _,⟨_,rfl⟩,q⟩) hs
theorem YK(lo hi:Option Int)(n:Nat):(nT lo hi none n).1=((HT.sIx n 0 lo:Nat):Int)/\(nT lo hi none n).2.1=((HT.sIx n n hi:Nat):Int)/\(nT lo hi none n).2.2=1:=by
 refine⟨?_,?_,rfl⟩
 .cases lo with
  | none=>simp[nT,HT.sIx]
  | some i=>
   simp only[nT,HT.sIx,Pb,show (1:Int) > 0 by decide,if_true];by_cases h:i < 0
   .simp only[h,if_true] <;> omega
   .simp only[h,if_false] <;> omega
 .cases hi with
  | none=>simp[nT,HT.sIx]
  | some i=>
   simp only[nT,HT.sIx,Pb,show (1:Int) > 0 by decide,if_true];by_cases h:i < 0
   .simp only[h,if_true] <;> omega
   .simp only[h,if_false] <;> omega
theorem K0(its:List ac)(lo hi:Option Int):slicePick its.toArray lo hi none=((its.drop (HT.sIx its.length 0 lo)).take (HT.sIx its.length its.length hi - HT.sIx its.length 0 lo)).toArray:=by
 obtain⟨h1,h2,h3⟩:=YK lo hi its.toArray.size;unfold slicePick;rw[h1,h2,h3];simp only[sliceRange_one,pick_run,bP] <;> rfl
def jhq(K:ai):V->Option Int->Option Int->Hp->VK->Prop:=fun x lo hi H Q=>∃a xs,x=.ref a/\SqL K H a xs/\∀p,H p=none->Q (.ref p) (upd H p (.lst (kN xs lo hi)))
theorem JW:SlR X (jhq X.K):=by
 intro ab s σ H x v vl vu lo hi sl Q I rx hs pl pu h;obtain⟨a,xs,rfl,hx,q⟩:=h
 cases rx
 obtain⟨its,r,ht,hz⟩:=I.list hx;have bd:=r.length;refine⟨"list",_,M_.lookup,ht.isList.typeIs,?_⟩;refine wpAny_getItem_list_slice ht.isList hs pl pu .none (by simp) ?_ (by rw[bP] <;> omega);rw[K0,<- bd];refine⟨.ref s.heap.objs.size,_,I.laid (t':=s.toks) (o:=.lst (kN xs lo hi)) (fun b ob q=>aF _ q) (ay _) ?_,rfl,q _ (I.hok.fresh (ay _))⟩;exact⟨aZ (JM xs lo hi) hz,_,0,(r.drop (HT.sIx xs.length 0 lo)).take (HT.sIx xs.length xs.length hi - HT.sIx xs.length 0 lo),bz _ rfl⟩
theorem kl:qd X (.builtin "len") (fun xs H Q=>∃p ys,xs=[.ref p]/\(SqL X.K H p ys\/SqT X.K H p ys)/\Q (.int ys.length) H):=by
 intro ab s σ H xs us Q I r h;obtain⟨p,ys,rfl,hq,q⟩:=h;obtain⟨u,rfl,rx⟩:=qZ r
 cases rx
 have hn:=Y1;rcases hq with hq | hq
 .obtain⟨its,r',pl,hz⟩:=I.list hq
  have bd:=r'.length;exact Calls.call_len_list pl.isList (by simp only[bP] <;> omega) ⟨.int ys.length,H,I.tok _,⟨s.toks+1,by rw[bP,bd]⟩,q⟩
 .obtain⟨its,r',pl,hz⟩:=I.tuple hq
  have bd:=r'.length;exact len_tuple pl (by simp only[bP] <;> omega) ⟨.int ys.length,H,I.tok _,⟨s.toks+1,by rw[bP,bd]⟩,q⟩
theorem qy:qd X (.type "list") (fun xs H Q=>∃p ys,xs=[.ref p]/\(SqL X.K H p ys\/SqT X.K H p ys)/\∀l,H l=none->Q (.ref l) (upd H l (.lst ys))):=by
 intro ab s σ H xs us Q I r h;obtain⟨p,ys,rfl,hq,q⟩:=h;obtain⟨u,rfl,rx⟩:=qZ r
 cases rx
 have fin:∀(its:List ac),Vals ys its->ys.length<=aB->∀(h':aq) (c':Nat),(∀b o',s.heap.get? b=some o'->h'.get? b=some o')->
   h'.get? s.heap.objs.size=some { cls:=.type "list",dict:=none,data:=.seq its.toArray c',slots:=#[] }->EP X ab σ Q (.ref s.heap.objs.size) { s with heap:=h' }:=fun its r' hz h' c' kp e=>
  ⟨.ref s.heap.objs.size,_,I.laid (t':=s.toks) kp (ay _) (show ObjOk X.prog X.w _ h' _ (.lst ys) from⟨hz,its,c',r',e⟩),rfl,q _ (I.hok.fresh (ay _))⟩
 rcases hq with hq | hq
 .obtain⟨its,r',pl,hz⟩:=I.list hq
  have bd:=r'.length;obtain⟨o,ho,hc,n,hd⟩:=pl.isList;exact call_list_seq p (.inl rfl) ho hc hd (fun h' c' kp e=>fin its r' hz h' c' kp e) (by simp only[bP] <;> omega)
 .obtain⟨its,r',pl,hz⟩:=I.tuple hq
  have bd:=r'.length;obtain⟨o,ho,hc,n,hd⟩:=pl;exact call_list_seq p (.inr rfl) ho hc hd (fun h' c' kp e=>fin its r' hz h' c' kp e) (by simp only[bP] <;> omega)
theorem qF:qd X (.type "tuple") (fun xs H Q=>∃p ys,xs=[.ref p]/\((SqL X.K H p ys/\∀l,H l=none->Q (.ref l) (upd H l (.tup ys)))\/(SqT X.K H p ys/\Q (.ref p) H))):=by
 intro ab s σ H xs us Q I r h;obtain⟨p,ys,rfl,h⟩:=h;obtain⟨u,rfl,rx⟩:=qZ r
 cases rx
 rcases h with⟨hq,q⟩ | ⟨hq,q⟩
 .obtain⟨its,r',pl,hz⟩:=I.list hq
  have bd:=r'.length;refine call_tuple_list pl.isList (fun h' kp=>?_) (by simp only[bP] <;> omega);have I1:Inv X ab σ H { s with heap:=h' }:=I.kept (t':=s.toks) kp;have I2:Inv X ab σ (upd H h'.objs.size (.tup ys)) { s with heap:=h'.push { cls:=.type "tuple",data:=.seq its.toArray } }:=
   I1.laid (t':=s.toks) (fun b o e=>aF _ e) (ay _) (show ObjOk X.prog X.w _ _ _ (.tup ys) from⟨hz,its,r',xL _ _⟩)
  exact⟨.ref h'.objs.size,_,I2,rfl,q _ (I1.hok.fresh (ay _))⟩
 .obtain⟨its,r',pl,hz⟩:=I.tuple hq
  exact call_tuple_same pl ⟨.ref p,H,I,rfl,q⟩
def tyV(K:ai)(T:String)(x:V)(H:Hp):Prop:=match x with
 | .str _=>T = "str"
 | .int _=>T = "int"
 | .ref p=>(T = "list"/\∃xs,SqL K H p xs)\/(T = "tuple"/\∃o,K.lookup p=some o/\o.cls=.type "tuple"/\o.dict=none)\/
   (T = "dict"/\((∃kvs,H p=some (.dK kvs))\/∃kvs,H p=some (.dT kvs)))\/(T = "set"/\∃S n,H p=some (.set S n))
 | _=>False
theorem jcT{σ:St}{x:V}{v:ac}(I:Inv X ab σ H s)(r:RelV x v)(ty:tyV X.K T x H):
  s.TypeIs v T/\∀a,v=.ref a->∃ob,s.heap.get? a=some ob/\ob.dict=none:=by
 cases x with
 | str z=>
  obtain⟨t,rfl⟩:=r
  cases (show T = "str" from ty)
  exact⟨typeIs_str s z t,fun _ e=>nomatch e⟩
 | int i=>
  obtain⟨t,rfl⟩:=r
  cases (show T = "int" from ty)
  exact⟨typeIs_int s i t,fun _ e=>nomatch e⟩
 | ref p=>
  cases r
  rcases ty with⟨rfl,xs,hq⟩ | ⟨rfl,o,hk,hc,hd⟩ | ⟨rfl,hk⟩ | ⟨rfl,S,n,hk⟩
  .obtain⟨its,_,pl,_⟩:=I.list hq
   refine⟨pl.isList.typeIs,fun a e=>?_⟩
   cases e
   obtain⟨o,n,e,c,hd,_⟩:=pl
   exact⟨o,e,hd⟩
  .refine⟨⟨o,I.kIn p o hk,hc⟩,fun a e=>?_⟩
   cases e
   exact⟨o,I.kIn _ o hk,hd⟩
  .have z:∃o,s.heap.get? p=some o/\o.ExactDict:=by
    rcases hk with⟨kvs,hk⟩ | ⟨kvs,hk⟩
    .obtain⟨_,_,_,_,o,_,_,e,ex,_⟩:=I.hok p _ hk
     exact⟨o,e,ex⟩
    .obtain⟨_,_,_,_,o,_,_,e,ex,_⟩:=I.hok p _ hk
     exact⟨o,e,ex⟩
   obtain⟨o,e,ex⟩:=z;refine⟨⟨o,e,ex.1⟩,fun a e2=>?_⟩
   cases e2
   exact⟨o,e,ex.2.1⟩
  .obtain⟨o,_,_,_,e,ex,_⟩:=I.hok p _ hk
   refine⟨⟨o,e,ex.1⟩,fun a e2=>?_⟩
   cases e2
   exact⟨o,e,ex.2.1⟩
 | _=>exact fK ty
def jgW(K:ai)(T:String)(r:V->List V->Hp->VK->Prop)(to:TE):TE:=fun σ H Q=>to σ H fun x H1=>tyV K T x H1/\r x [] H1 Q
def tBM(K:ai)(T:String)(r:V->List V->Hp->VK->Prop)(to:TE)(t:TA):TE:=fun σ H Q=>to σ H fun x H1=>tyV K T x H1/\t σ H1 fun xs H2=>r x xs H2 Q
variable {o:ag}{es:List ag}{to:TE}{t:TA}{name:Str}{cW bJ:Pos}{id:String}{r:V->List V->Hp->VK->Prop}
theorem jge(pa:xn T)(slot:Slot T name id)(uV:typeOf (.builtin id)=pure (.type "method_descriptor"))(hm:MtR X id r)(ho:PE X o to)
  (vN:iD o name X.env (eval o X.env)=eval o X.env:=by rfl) (vj:(cW.endLine == bJ.line)=true:=by rfl):PE X (.Call (.Attribute o name cW) [] [] bJ) (jgW X.K T r to):=by
 intro ab s σ H Q I h
 refine wpAny_Call_method0_late vN vj (thn (ho ab s σ H _ I h) fun v s1 hM=>?_)
 obtain⟨x,H1,I1,r1,ty,q1⟩:=hM
 obtain⟨h1,h2⟩:=jcT I1 r1 ty
 exact⟨T,id,pa,slot,uV,h1,h2,Ez rfl (PySem.evalArgs_none (hm ab s1 σ H1 x [] v [] Q I1 r1 .nil q1))⟩
theorem ye(pa:xn T)(slot:Slot T name id)(uV:typeOf (.builtin id)=pure (.type "method_descriptor"))(hm:MtR X id r)(ho:PE X o to)(ha:PA X (e :: es) t)
  (vN:iD o name X.env (eval o X.env)=eval o X.env:=by rfl)
  (IT:((eE bJ (bo (e :: es) X.env)).all (fun x=>!x.1) && (backToKw bJ (DU [] X.env)).all (fun x=>x.1.isSome)
   && decide ((e :: es).length+([]:List Keyword).length+(if ([]:List Keyword).isEmpty then 0 else 1) < 30))=true:=by rfl)
  (vj:(cW.endLine == bJ.line)=true:=by rfl) (hs:bo (e :: es) X.env=(false,eval e X.env) :: bo es X.env:=by rfl) (HC:(eE bJ (bo es X.env)).any (·.1)=false:=by rfl) :
  PE X (.Call (.Attribute o name cW) (e :: es) [] bJ) (tBM X.K T r to t):=by
 intro ab s σ H Q I h
 refine wpAny_Call_method_late vN IT vj rfl (thn (ho ab s σ H _ I h) fun v s1 hM=>?_)
 obtain⟨x,H1,I1,r1,ty,q1⟩:=hM
 obtain⟨h1,h2⟩:=jcT I1 r1 ty
 refine⟨T,id,pa,slot,uV,h1,h2,?_⟩
 have hA:=ha bJ ab s1 σ H1 _ I1 q1
 rw[hs]at hA |-
 refine Ez (by show (false || (eE bJ (bo es X.env)).any (·.1))=false;rw[HC] <;> rfl) (Oy ?_)
 exact thn hA fun us s2 ⟨vs,H2,I2,r2,q2⟩=>hm ab s2 σ H2 x vs v us Q I2 r1 r2 q2
end
def MtM(X:Cx)(id:String)(r:V->List V->Hp->VK->Prop):Prop:=
 ∀(ab:List (aa×Obj)) (s:ae) (σ:St) (H:Hp) (x:V) (xs:List V) (v:ac) (us:List ac) (Q:VK),Inv X ab σ H s->RelV x v->Vals xs us->r x xs H Q->
  af (aj X.prog X.w) X.A (call (.builtin id) (v :: us)) (EP X ab σ Q) X.xe s
theorem Vals.one{x:V}(h:Vals [x] us):∃u,us=[u]/\RelV x u:=by
 cases h with
 | cons r t=>cases t;exact⟨_,rfl,r⟩
theorem Vals.zero:∀{us:List ac},Vals [] us->us=[]
 | _,.nil=>rfl
theorem Vals.dropLast(h:Vals xs us):Vals xs.dropLast us.dropLast:=by
 induction h with
 | nil=>exact .nil
 | cons r t ih=>
  cases t with
  | nil=>exact .nil
  | cons q t'=>exact .cons r ih
theorem Vals.eraseIdx:∀{xs:List V} {us:List ac} (i:Nat),Vals xs us->Vals (xs.eraseIdx i) (us.eraseIdx i)
 | _,_,_,.nil=>.nil
 | _,_,0,.cons _ t=>t
 | _,_,i+1,.cons r t=>.cons r (Vals.eraseIdx i t)
theorem Vals.reverse(h:Vals xs us):Vals xs.reverse us.reverse:=by
 induction h with
 | nil=>exact .nil
 | cons r t ih=>rw[xS,xS];exact Vals.append ih (.cons r .nil)
theorem jaS{α:Type}(l:List α):l.eraseIdx (l.length - 1)=l.dropLast:=by
 induction l with
 | nil=>rfl
 | cons a r ih=>
  cases r with
  | nil=>rfl
  | cons b r=>
   have e:(a :: b :: r).length - 1=((b :: r).length - 1)+1:=by
    have h1:(a :: b :: r).length=r.length+2:=rfl;have h2:(b :: r).length=r.length+1:=rfl;omega
   rw[e,List.eraseIdx_cons_succ,ih]
   all_goals rfl
variable {b:aa}{t':Nat}
section
variable {σ:St}{l:aa}{ys zs:List V}
theorem Inv.lset{its its':List ac}{f:Array ac->Array ac}(I:Inv X ab σ H s)(hH:H l=some (.lst xs))
  (e:s.heap.get? l=some { cls:=.type "list",data:=.seq its.toArray n }) (hf:f its.toArray=its'.toArray) (hv:Vals ys its') (hz:ys.length<=aB) :
  Inv X ab σ (upd H l (.lst ys)) { s with heap:=s.heap.update l (eF f),toks:=t' }:=by
 have q:=PySem.IsL.update e f
 rw[hf]at q
 refine I.write (x:=l) (e:=l) (by rw[hH];exact trivial) (.inl rfl) (fun b' u hb hu=>(xu s.heap (eF f) (aO hb)).trans hu) ⟨_,q⟩ ?_
 exact⟨hz,its',_,hv,q⟩
theorem Inv.lnew{its:List ac}(I:Inv X ab σ H s)(hv:Vals ys its)(hz:ys.length<=aB):
  Inv X ab σ (upd H s.heap.objs.size (.lst ys)) { s with heap:=s.heap.push { cls:=.type "list",data:=.seq its.toArray },toks:=t' }:=
 I.laid (fun _ _ q=>aF _ q) (ay _) ⟨hz,its,0,hv,bz _ rfl⟩
theorem Inv.fresh(I:Inv X ab σ H s):H s.heap.objs.size=none:=I.hok.fresh (ay _)
theorem Inv.lstM(I:Inv X ab σ H s)(hH:H l=some (.lst xs)):xs.length<=aB/\∃(its:List ac) (n:Nat),Vals xs its/\xs.length=its.length/\s.heap.get? l=some { cls:=.type "list",data:=.seq its.toArray n }:=by
 obtain⟨z,its,n,r,e⟩:=I.hok l _ hH;exact⟨z,its,n,r,r.length,e⟩
theorem jdI(h:n<=aB):EB n=false:=by
 unfold EB;exact Qe (by omega)
end
section
def jeF:V->List V->Hp->VK->Prop:=fun x vs H Q=>∃l xs y,x=.ref l/\vs=[y]/\H l=some (.lst xs)/\xs.length < aB/\Q .non (upd H l (.lst (xs++[y])))
theorem kR:MtM X "list.append" jeF:=by
 intro ab s σ H x vs v us Q I rx rv h;obtain⟨l,xs,y,rfl,rfl,hH,hz,q⟩:=h
 cases rx
 obtain⟨u,rfl,ru⟩:=rv.one;obtain⟨z,its,n,r,hl,e⟩:=I.lstM hH;refine DZ F.slot_list_append ⟨_,e,rfl⟩ F.entry_list_append (F.args_list_append_2 _ _) (PySem.list_append l its.toArray n u (by rw[bP];omega)) ⟨e,?_⟩;refine⟨.non,_,I.lset (its':=its++[u]) hH e (by simp) (r.append (.cons ru .nil)) ?_,rfl,q⟩;rw[aP,List.length_singleton];omega
def jeE:V->List V->Hp->VK->Prop:=fun x vs H Q=>∃l b xs zs,x=.ref l/\vs=[.ref b]/\H l=some (.lst xs)/\H b=some (.lst zs)/\xs.length+zs.length<=aB/\Q .non (upd H l (.lst (xs++zs)))
theorem zx:MtM X "list.extend" jeE:=by
 intro ab s σ H x vs v us Q I rx rv h;obtain⟨l,b,xs,zs,rfl,rfl,hH,hB,hz,q⟩:=h
 cases rx
 obtain⟨u,rfl,ru⟩:=rv.one
 cases ru
 obtain⟨z,its,n,r,hl,e⟩:=I.lstM hH;obtain⟨z2,aK,n2,r2,aQ,e2⟩:=I.lstM hB;have hsz:its.toArray.size+aK.toArray.size<=aB:=by rw[bP,bP];omega
 have Iu:¬(!its.toArray.isEmpty && EB (its.toArray.size+aK.toArray.size))=true:=by
  rw[jdI hsz,Bool.and_false];exact bB
 refine DZ F.slot_list_extend ⟨_,e,rfl⟩ F.entry_list_extend (F.args_list_extend_2 _ _)
  (AutoSeq1.list_extend_list_list_0 l its.toArray n b aK.toArray n2 Iu (by rw[bP];omega) (by omega)) ⟨e,e2,?_⟩
 refine⟨.non,_,I.lset (its':=its++aK) hH e (by simp) (r.append r2) ?_,rfl,q⟩;rw[aP];omega
def jhr:V->List V->Hp->VK->Prop:=fun x vs H Q=>∃l xs y,x=.ref l/\vs=[]/\H l=some (.lst xs)/\xs[xs.length - 1]?=some y/\Q y (upd H l (.lst xs.dropLast))
theorem jgs:MtM X "list.pop" jhr:=by
 intro ab s σ H x vs v us Q I rx rv h;obtain⟨l,xs,y,rfl,rfl,hH,hy,q⟩:=h
 cases rx
 have em:=rv.zero;subst em;obtain⟨z,its,n,r,hl,e⟩:=I.lstM hH;obtain⟨u,hu,ru⟩:=r.get hy;have cS:its.toArray[its.toArray.size - 1]?=some u:=by
  show its.toArray[its.length - 1]?=some u;rw[<- Array.getElem?_toList,<- hl];exact hu
 refine DZ F.slot_list_pop ⟨_,e,rfl⟩ F.entry_list_pop (F.args_list_pop_1 _) (MeetsSeq.list_pop_last l its.toArray n u cS (by rw[bP];omega)) ⟨e,?_⟩;refine⟨y,_,I.lset (its':=its.dropLast) hH e ?_ r.dropLast ?_,ru,q⟩
 .show its.toArray.eraseIdxIfInBounds (its.toArray.size - 1)=its.dropLast.toArray
  rw[bP,List.eraseIdxIfInBounds_toArray,jaS]
 .rw[List.length_dropLast]
  omega
def jht:R2:=fun x y H Q=>∃l b xs zs,x=.ref l/\y=.ref b/\H l=some (.lst xs)/\H b=some (.lst zs)/\xs.length+zs.length<=aB/\∀p,H p=none->Q (.ref p) (upd H p (.lst (xs++zs)))
theorem jgj:OpR X (eD .Add) jht:=by
 intro ab s σ H x y v u Q I rx ry h;obtain⟨l,b,xs,zs,rfl,rfl,hH,hB,hz,q⟩:=h
 cases rx
 cases ry
 obtain⟨z,its,n,r,hl,e⟩:=I.lstM hH;obtain⟨z2,aK,n2,r2,aQ,e2⟩:=I.lstM hB;refine PySem.P.add_list e e2 ?_ (by rw[bP,bP];omega);have ea:its.toArray++aK.toArray=(its++aK).toArray:=by simp
 rw[ea];exact⟨.ref _,_,I.lnew (t':=s.toks) (r.append r2) (by rw[aP];omega),rfl,q _ I.fresh⟩
end
variable {o:Option V}{y:V}{u:ac}
section
variable {κ:Type}[DecidableEq κ]
def kK(kvs:List (κ×V))(k:κ):Option V:=(kvs.find? fun kv=>decide (kv.1=k)).map (·.2)
def kW(kvs:List (κ×V))(k:κ)(v:V):List (κ×V):=
 if (kvs.any fun kv=>decide (kv.1=k))=true then kvs.map (fun kv=>if kv.1=k then (kv.1,v) else kv) else kvs++[(k,v)]
theorem kI{p:κ×V}{r:List (κ×V)}{k:κ}(e:p.1=k):kK (p :: r) k=some p.2:=by simp[kK,g9,e]
theorem kJ{p:κ×V}{r:List (κ×V)}{k:κ}(e:¬p.1=k):kK (p :: r) k=kK r k:=by simp[kK,g9,e]
theorem yX(k:κ):∀kvs:List (κ×V),(kvs.any fun kv=>decide (kv.1=k))=(kK kvs k).isSome
 | []=>rfl
 | p :: r=>by
  rw[n_];by_cases e:p.1=k
  .simp only[kI e,Qd e,Bool.true_or,Option.isSome_some]
  .rw[kJ e,Qe e,Bool.false_or];exact yX k r
theorem Zq(k j:κ)(y:V):∀kvs:List (κ×V),kK (kvs.map fun kv=>if kv.1=k then (kv.1,y) else kv) j=(kK kvs j).map fun x=>if j=k then y else x
 | []=>rfl
 | p :: r=>by
  have ih:=Zq k j y r;rw[bW];by_cases h:p.1=k
  .rw[Qg h]
   by_cases e:p.1=j
   .rw[kI (p:=(p.1,y)) e,kI e,xM,Qg (e.symm.trans h)]
   .rw[kJ (p:=(p.1,y)) e,kJ e,ih]
  .rw[Qf h]
   by_cases e:p.1=j
   .rw[kI (p:=p) e,kI e,xM,Qf (fun z=>h (e.trans z))]
   .rw[kJ (p:=p) e,kJ e,ih]
theorem Yc(k j:κ)(y:V):∀kvs:List (κ×V),kK kvs k=none->kK (kvs++[(k,y)]) j=if j=k then some y else kK kvs j
 | [],_=>by
  by_cases e:k=j
  .rw[Qg e.symm];exact kI (p:=(k,y)) e
  .rw[Qf (fun z=>e z.symm)];exact kJ (p:=(k,y)) e
 | p :: r,hn=>by
  rw[E6];have hk:¬p.1=k:=fun z=>by rw[kI z]at hn;cases hn
  rw[kJ hk]at hn;have ih:=Yc k j y r hn;by_cases e:p.1=j
  .rw[kI e,kI e,Qf (fun z=>hk (e.trans z))]
  .rw[kJ e,kJ e,ih]
theorem Zp(kvs:List (κ×V))(k j:κ)(y:V):kK (kW kvs k y) j=if j=k then some y else kK kvs j:=by
 unfold kW;by_cases a:(kvs.any fun kv=>decide (kv.1=k))=true
 .rw[Qg a,Zq]
  rw[yX]at a;by_cases e:j=k
  .obtain⟨x,hx⟩:=tY.mp a
   rw[Qg e,e,hx,xM,Qg rfl]
  .rw[Qf e]
   cases kK kvs j with
   | none=>rfl
   | some x=>rw[xM,Qf e]
 .rw[Qf a]
  refine Yc k j y kvs ?_;rw[yX]at a
  cases q:kK kvs k with
  | none=>rfl
  | some x=>rw[q]at a;exact (a rfl).elim
theorem zl(kvs:List (κ×V))(k:κ)(v:V):(kW kvs k v).length<=kvs.length+1:=by
 unfold kW;split
 .rw[am];omega
 .rw[aP,bi,lv];omega
theorem RelO.isSome_eq{u:Option ac}(r:RelO o u):o.isSome=u.isSome:=by
 cases o with
 | none=>cases u with
  | none=>rfl
  | some _=>exact (show False from r).elim
 | some _=>cases u with
  | none=>exact (show False from r).elim
  | some _=>rfl
theorem RelO.getD{u:Option ac}{d:V}{d':ac}(r:RelO o u)(rd:RelV d d'):RelV (o.getD d) (u.getD d'):=by
 cases o with
 | none=>cases u with
  | none=>exact rd
  | some _=>exact (show False from r).elim
 | some _=>cases u with
  | none=>exact (show False from r).elim
  | some _=>exact r
theorem KV.val{kvs:List (κ×V)}{vs:List (κ×ac)}(r:KV kvs vs)(k:κ):RelO (kK kvs k) (nS vs k):=by
 unfold KV at r;induction r with
 | nil=>exact True.intro
 | @cons p q ps qs h t ih=>
  obtain⟨h1,h2⟩:=h;by_cases e:p.1=k
  .have e':q.1=k:=h1.symm.trans e
   have b:nS (q :: qs) k=some q.2:=by simp[nS,g9,e']
   rw[kI e,b];exact h2
  .have e':¬q.1=k:=fun z=>e (h1.trans z)
   have b:nS (q :: qs) k=nS qs k:=by simp[nS,g9,e']
   rw[kJ e,b];exact ih
theorem KV.any{kvs:List (κ×V)}{vs:List (κ×ac)}(r:KV kvs vs)(k:κ):(kvs.any fun kv=>decide (kv.1=k))=vs.any fun kv=>decide (kv.1=k):=by
 unfold KV at r;induction r with
 | nil=>rfl
 | cons h t ih=>rw[n_,n_,ih,h.1]
theorem KV.repl{kvs:List (κ×V)}{vs:List (κ×ac)}(r:KV kvs vs)(k:κ)(ry:RelV y u):
  KV (kvs.map fun kv=>if kv.1=k then (kv.1,y) else kv) (vs.map fun kv=>if kv.1=k then (kv.1,u) else kv):=by
 unfold KV at r |-
 induction r with
 | nil=>exact .nil
 | @cons p q ps qs h t ih=>
  rw[bW,bW]
  refine .cons ?_ ih
  obtain⟨h1,h2⟩:=h
  by_cases e:p.1=k
  .rw[Qg e,Qg (h1.symm.trans e)];exact⟨h1,ry⟩
  .rw[Qf e,Qf (fun z=>e (h1.trans z))];exact⟨h1,h2⟩
theorem KV.put{kvs:List (κ×V)}{vs:List (κ×ac)}(r:KV kvs vs)(k:κ)(ry:RelV y u):KV (kW kvs k y) (stored vs k u):=by
 unfold kW stored;rw[r.any k];by_cases e:(vs.any fun kv=>decide (kv.1=k))=true
 .rw[Qg e,Qg e];exact r.repl k ry
 .rw[Qf e,Qf e];exact Ob r ⟨rfl,ry⟩
theorem KV.keys{kvs:List (κ×V)}{vs:List (κ×ac)}(r:KV kvs vs):kvs.map (·.1)=vs.map (·.1):=by
 unfold KV at r;induction r with
 | nil=>rfl
 | cons h t ih=>rw[bW,bW,ih,h.1]
theorem KV.length{kvs:List (κ×V)}{vs:List (κ×ac)}(r:KV kvs vs):kvs.length=vs.length:=xq r
end
variable {w:ar}
theorem Kx{P:av}{k:Key}(r:RelV (kV k) u):(km P w).is k u=true:=by
 cases k with
 | inl i=>obtain⟨t,e⟩:=(show ∃t,u=Value.int i t from r);subst e;exact ZM P w i t
 | inr x=>obtain⟨t,e⟩:=(show ∃t,u=Value.str x t from r);subst e;exact ZL P w x t
theorem Yp{P:av}{w:ar}:∀{ks:List Key} {us:List ac},Vals (ks.map kV) us->ItemsAre (km P w) ks us
 | [],_,r=>by rw[EV]at r;cases r;exact .nil
 | k :: ks,_,r=>by
  rw[bW]at r
  cases r with
  | cons h t=>exact .cons (Kx h) (Yp t)
abbrev KT(H:Hp):List (List Key×V)->List (List Key×aa×ac)->Prop:=Paired fun p q=>p.1=q.1/\H q.2.1=some (.tup (p.1.map kV))/\RelV p.2 q.2.2
variable {kvs:List (List Key×V)}
theorem KT.val{xs:List (List Key×aa×ac)}(r:KT H kvs xs)(k:List Key):RelO (kK kvs k) ((atKey xs k).map (·.2)):=by
 induction r with
 | nil=>exact True.intro
 | @cons p q ps qs h t ih=>
  obtain⟨h1,_,h2⟩:=h;by_cases e:p.1=k
  .have e':q.1=k:=h1.symm.trans e
   have b:atKey (q :: qs) k=some q.2:=by simp[atKey,g9,e']
   rw[kI e,b];exact h2
  .have e':¬q.1=k:=fun z=>e (h1.trans z)
   have b:atKey (q :: qs) k=atKey qs k:=by simp[atKey,g9,e']
   rw[kJ e,b];exact ih
theorem KT.repl{xs:List (List Key×aa×ac)}(r:KT H kvs xs)(k:List Key)(ry:RelV y u):
  KT H (kvs.map fun kv=>if kv.1=k then (kv.1,y) else kv) (xs.map (putAt k u)):=by
 induction r with
 | nil=>exact .nil
 | @cons p q ps qs h t ih=>
  rw[bW,bW]
  refine .cons ?_ ih
  obtain⟨h1,h2,h3⟩:=h
  unfold putAt
  by_cases e:p.1=k
  .rw[Qg e,Qg (h1.symm.trans e)];exact⟨h1,h2,ry⟩
  .rw[Qf e,Qf (fun z=>e (h1.trans z))];exact⟨h1,h2,h3⟩
theorem KT.put{xs:List (List Key×aa×ac)}(r:KT H kvs xs)(k:List Key)(hb:H b=some (.tup (k.map kV)))(ry:RelV y u):
  KT H (kW kvs k y) (storedH xs k b u):=by
 have e:(kvs.any fun kv=>decide (kv.1=k))=(atKey xs k).isSome:=by
  rw[yX,(r.val k).isSome_eq,rB]
 unfold kW storedH
 rw[e]
 by_cases q:(atKey xs k).isSome=true
 .rw[Qg q,Qg q];exact r.repl k ry
 .rw[Qf q,Qf q];exact Ob r ⟨rfl,hb,ry⟩
variable {H':Hp}
theorem KT.keeps{xs:List (List Key×aa×ac)}(r:KT H kvs xs)(ht:∀b ys,H b=some (.tup ys)->H' b=some (.tup ys)):KT H' kvs xs:=
 Paired.mapP r fun _ _ z=>⟨z.1,ht _ _ z.2.1,z.2.2⟩
variable {a:aa}
section
variable {P:av}{h:aq}
theorem jfH{u:HO}(ok:HOk P w H h)(e:Rd H a u):ObjOk P w H h a u:=e.ok ok
theorem Z5{kvs:List (Key×V)}(ok:HOk P w H h)(e:Rd H a (.dK kvs)):kvs.length<=aB/\(a == gT)=false/\∃vs,KV kvs vs/\h.DictOf (km P w) a vs:=
 show ObjOk P w H h a (.dK kvs) from jfH ok e
theorem jea{kvs:List (Key×V)}(ok:HOk P w H h)(e:H a=some (.dK kvs)):kvs.length<=aB/\(a == gT)=false/\∃vs,KV kvs vs/\h.DictOf (km P w) a vs:=Z5 ok (.inl e)
theorem Y5{ks:List Key}(ok:HOk P w H h)(e:H a=some (.tup (ks.map kV))):(q_ (km P w)).is h ks a:=by
 obtain⟨_,its,r,o,h1,h2,n,h3⟩:=(show ObjOk P w H h a (.tup (ks.map kV)) from ok a _ e)
 exact⟨o,its.toArray,n,h1,h2,h3,by simpa using Yp r⟩
theorem Z2(ok:HOk P w H h)(e:Rd H a (.dT kvs)):kvs.length<=aB/\(a == gT)=false/\
  ∃xs,KT H kvs xs/\h.DictOfH (q_ (km P w)) a xs:=by
 obtain⟨z,y,xs,r,o,es,ep,h1,h2,h3,h4,h5⟩:=(show ObjOk P w H h a (.dT kvs) from jfH ok e)
 refine⟨z,y,xs,r,o,es,ep,h1,h2,h3,h4,fun x hx=>?_,h5⟩
 have all:∀{l:List (List Key×V)} {m:List (List Key×aa×ac)},KT H l m->∀x∈m,(q_ (km P w)).is h x.1 x.2.1:=by
  intro l m q;induction q with
  | nil=>intro x hx;exact nomatch hx
  | @cons p q ps qs hq t ih=>
   intro x hx;rcases bg.mp hx with e | hx
   .subst e
    exact Y5 ok (by rw[<- hq.1];exact hq.2.1)
   .exact ih x hx
 exact all r x hx
theorem jhl(ok:HOk P w H h)(e:H a=some (.dT kvs)):kvs.length<=aB/\(a == gT)=false/\
  ∃xs,KT H kvs xs/\h.DictOfH (q_ (km P w)) a xs:=Z2 ok (.inl e)
end
def DGet(H:Hp)(a:aa)(y:V)(r:Option V):Prop:=
 (∃kvs k,Rd H a (.dK kvs)/\y=kV k/\r=kK kvs k)\/∃kvs k b,Rd H a (.dT kvs)/\y=.ref b/\H b=some (.tup (k.map kV))/\r=kK kvs k
def DPut(H:Hp)(a:aa)(y v:V)(H':Hp):Prop:=
 (∃kvs k,H a=some (.dK kvs)/\y=kV k/\kvs.length < aB/\H'=upd H a (.dK (kW kvs k v)))\/
 ∃kvs k b,H a=some (.dT kvs)/\y=.ref b/\H b=some (.tup (k.map kV))/\kvs.length < aB/\H'=upd H a (.dT (kW kvs k v))
theorem DGet.k{kvs:List (Key×V)}{k:Key}(e:H a=some (.dK kvs)):DGet H a (kV k) (kK kvs k):=.inl ⟨kvs,k,.inl e,rfl,rfl⟩
theorem DGet.t{k:List Key}(e:H a=some (.dT kvs))(eb:H b=some (.tup (k.map kV))):DGet H a (.ref b) (kK kvs k):=.inr ⟨kvs,k,b,.inl e,rfl,eb,rfl⟩
variable {v:V}
theorem DPut.k{kvs:List (Key×V)}{k:Key}(e:H a=some (.dK kvs))(hl:kvs.length < aB):DPut H a (kV k) v (upd H a (.dK (kW kvs k v))):=.inl ⟨kvs,k,e,rfl,hl,rfl⟩
theorem DPut.t{k:List Key}(e:H a=some (.dT kvs))(eb:H b=some (.tup (k.map kV)))(hl:kvs.length < aB):
  DPut H a (.ref b) v (upd H a (.dT (kW kvs k v))):=.inr ⟨kvs,k,b,e,rfl,eb,hl,rfl⟩
variable {A:aD}{E Q:ac->ae->Prop}
section
variable {σ:St}{r:ac}
theorem Inv.big(I:Inv X ab σ H s):gT < s.heap.objs.size:=by
 have h:br < s.heap.objs.size:=(I.mod.glob.keeps I.bk).lt;exact lj (by decide) h
theorem jcq(hu:A.units+1 < cLine)(I:Inv X ab σ H s)(g:DGet H a y (some v))(ry:RelV y u)(h:∀w' s',Inv X ab σ H s'->RelV v w'->Q w' s'):
  af (aj X.prog X.w) A (iB (.ref a) u) Q E s:=by
 rcases g with⟨kvs,k,e,ey,l⟩ | ⟨kvs,k,b,e,ey,eb,l⟩
 .subst ey
  obtain⟨z,hd,vs,cx,dd⟩:=Z5 I.hok e
  obtain⟨w',hw,dL⟩:=RelO.some_of (v:=v) (o:=nS vs k) (by rw[l];exact cx.val k)
  exact wpAny_getItem_of (Kx ry) dd.mapOf hw (h w' _ (I.tok _) dL)
 .subst ey
  cases (show u=Value.ref b from ry)
  obtain⟨z,hd,xs,cx,dd⟩:=Z2 I.hok e
  obtain⟨w',hw,dL⟩:=RelO.some_of (v:=v) (o:=(atKey xs k).map (·.2)) (by rw[l];exact cx.val k)
  obtain⟨p,hp,ii⟩:=Option.map_eq_some_iff.mp hw
  refine wpAny_getItem_heap (DN hu) (Y5 I.hok eb) dd hp ?_
  rw[ii]
  exact h w' _ (I.tok _) dL
theorem J3{h':aq}{ob:HO}(I:Inv X ab σ H s)(mu:Mut (H a))(hs:df a s.heap h')(he:∃q,h'.get? a=some q)(new:ObjOk X.prog X.w (upd H a ob) h' a ob):
  Inv X ab σ (upd H a ob) { s with heap:=h',toks:=t' }:=
 I.write (x:=a) (e:=a) mu (.inl rfl) (fun b q hb z=>(hs.2 b hb).trans z) he new
theorem Zc{P:av}{h':aq}{kvs:List (Key×V)}{vs:List (Key×ac)}(z:kvs.length<=aB)(hd:(a == gT)=false)(cx:KV kvs vs)(dd:h'.DictOf (km P w) a vs):
  ObjOk P w H' h' a (.dK kvs):=⟨z,hd,vs,cx,dd⟩
theorem jcp{Q:Unit->ae->Prop}(hu:A.units+1 < cLine)(I:Inv X ab σ H s)(g:DPut H a y v H')(ry:RelV y u)(rv:RelV v r)(h:∀s',Inv X ab σ H' s'->Q () s'):
  af (aj X.prog X.w) A (setItem (.ref a) u r) Q E s:=by
 rcases g with⟨kvs,k,e,ey,l,eH⟩ | ⟨kvs,k,b,e,ey,eb,l,eH⟩
 .subst ey eH
  obtain⟨z,hd,vs,cx,dd⟩:=jea I.hok e
  have hz:vs.length<=aB:=by rw[<- cx.length];exact z
  have hl:(kW kvs k v).length<=aB:=by have:=zl kvs k v;omega
  refine wpAny_setItem_pairs (hsz:=hz) (Kx ry) dd fun h' gP hs=>h _ ?_
  have he:∃q,h'.get? a=some q:=let ⟨q,_,_,hq,_⟩:=gP;⟨q,hq⟩
  exact J3 I (by rw[e];exact True.intro) hs he (Zc hl hd (cx.put k rv) gP)
 .subst ey eH
  cases (show u=Value.ref b from ry)
  obtain⟨z,hd,xs,cx,dd⟩:=jhl I.hok e
  have hz:xs.length<=aB:=by rw[<- xq cx];exact z
  have hl:(kW kvs k v).length<=aB:=by have:=zl kvs k v;omega
  refine wpAny_setItem_heap (hsz:=hz) (DN hu) (Y5 I.hok eb) dd fun h' gP hs=>h _ ?_
  obtain⟨q,es,ep,hq,h2,h3,h4,_,h5⟩:=gP
  refine J3 I (by rw[e];exact True.intro) hs ⟨q,hq⟩ ⟨hl,hd,_,(cx.put k eb rv).keeps fun c ys ec=>?_,q,es,ep,hq,h2,h3,h4,h5⟩
  rw[jl (j6 ec e (fun z=>nomatch z))]
  exact ec
end
def jgO(i:ag):Prop:=∀ov iv,subscripted i false ov iv=operate [ov,iv] (iB ov iv)
theorem jew{prog:av}{env:Env}{value gG:ag}{id:String}
  (hl:p_ (.type T) "__getitem__" = pure (some (.builtin id))) (hs:jgO gG)
  (h:af (aj prog w) A (eval value env) (fun o s₁=>af (aj prog w) A (eval gG env) (fun i s₂=>s₂.TypeIs o T/\af (aj prog w) A (iB o i) Q E s₂) E s₁) E s) :
  af (aj prog w) A (eval (.Subscript value gG pos) env) Q E s:=by
 refine EJ (cB h (fun o s₁ h₁=>cB h₁ (fun i s₂ h₂=>?_) fun _ _ x=>x) fun _ _ x=>x)
 obtain⟨hT,h₂⟩:=h₂
 unfold EE
 refine ad ?_
 rw[getitemInPython_of_ne hT.not_modules]
 refine ad (wpAny_specialOf hT hl ?_)
 have fin:af (aj prog w) A (subscripted gG false o i) (fun r s₃=>af (aj prog w) A (letTemporaryGo value o r >>= fun _=>pure r) Q E s₃) E s₂:=by
  rw[hs o i];exact wpAny_operating (cB h₂ (fun r s₃ h₃=>ad (wpAny_letTemporaryGo (al h₃))) fun _ _ x=>x)
 first
  | exact al (ad fin)
  | exact ad (al (ad fin))
  | exact ad fin
theorem Z6{σ:St}(I:Inv X ab σ H s)(g:DGet H a y o):s.TypeIs (.ref a) "dict":=by
 rcases g with⟨kvs,k,e,_,_⟩ | ⟨kvs,k,b,e,_,_,_⟩
 .obtain⟨_,_,vs,_,dd⟩:=Z5 I.hok e
  exact dd.typeIs
 .obtain⟨_,_,xs,_,dd⟩:=Z2 I.hok e
  exact dd.typeIs
def jfE(td ty:TE):TE:=fun σ H Q=>td σ H fun x H1=>ty σ H1 fun y H2=>∃a v,x=.ref a/\DGet H2 a y (some v)/\Q v H2
def jfG(td ty tv:TE):TS:=fun D σ H=>tv σ H fun v H1=>td σ H1 fun x H2=>ty σ H2 fun y H3=>∃a H4,x=.ref a/\DPut H3 a y v H4/\D.nx σ H4
section
variable {o i value:ag}{dl rO:Pos}{td ty tv:TE}
theorem jeT(hu:X.A.units+1 < cLine)(ho:PE X o td)(hi:PE X i ty)(hs:jgO i):PE X (.Subscript o i pos) (jfE td ty):=by
 intro ab s σ H Q I h;refine jew PySem.F.slot_dict_getitem.lookup hs (thn (ho ab s σ H _ I h) fun u s1 ⟨x,H1,I1,rx,q1⟩=>thn (hi ab s1 σ H1 _ I1 q1) fun iv s2 hM=>?_);obtain⟨y,H2,I2,ry,a,v,ex,g,q2⟩:=hM;subst ex;obtain rfl:u=Value.ref a:=rx;exact⟨Z6 I2 g,jcq hu I2 g ry fun w' s3 I3 dL=>⟨v,H2,I3,dL,q2⟩⟩
theorem jeL(hu:X.A.units+1 < cLine)(ho:PE X o td)(hi:PE X i ty)(hv:PE X value tv)(hs:iz value (some (.Subscript o i dl)) pos.line X.env=pure false):
  PS X (.Assign [.Subscript o i dl] value pos) (jfG td ty tv):=by
 intro ab s σ H D I h
 refine wpAny_Assign_Subscript (thn (hv ab s σ H _ I h) fun r s1 ⟨v,H1,I1,rv,q1⟩=>thn (ho ab s1 σ H1 _ I1 q1) fun u s2 ⟨x,H2,I2,rx,q2⟩=>thn (hi ab s2 σ H2 _ I2 q2) fun iv s3 hM=>?_) hs
 obtain⟨y,H3,I3,ry,a,H4,ex,g,q3⟩:=hM
 subst ex
 obtain rfl:u=Value.ref a:=rx
 exact jcp hu I3 g ry rv fun s4 I4=>⟨σ,H4,I4,q3⟩
end
theorem KI{P:av}(h:aq)(hb:gT < h.objs.size):ObjOk P w H (h.push { cls:=.type "dict",data:=.dict #[] }) h.objs.size (.dK []):=
 ⟨bE _,Qh.mpr (aO (aN hb)),[],.nil,Oi h⟩
def jc0:TE:=fun _ H Q=>∀p,H p=none->Q (.ref p) (upd H p (.dK []))
section
theorem jds:PE X (.Dict [] [] pos) jc0:=fun ab s σ H Q I h=>
 wpAny_Dict_empty ⟨.ref s.heap.objs.size,_,I.laid (a:=s.heap.objs.size) (o:=.dK []) (t':=s.toks) (fun _ _ q=>aF _ q) (ay _) (KI s.heap I.big),rfl,h _ (I.hok.fresh (ay _))⟩
end
def jan:List (TE×TE)->St->Hp->(List (V×V)->Hp->Prop)->Prop
 | [],_,H,Q=>Q [] H
 | (tk,tv) :: r,σ,H,Q=>tk σ H fun x H1=>tv σ H1 fun y H2=>jan r σ H2 fun ps H3=>Q ((x,y) :: ps) H3
abbrev VV:List (V×V)->List (ac×ac)->Prop:=Paired fun p q=>RelV p.1 q.1/\RelV p.2 q.2
def PPs(X:Cx)(pos:Pos)(keys:List (Option ag))(hJ:List ag)(dJ:List (TE×TE)):Prop:=
 ∀(ab:List (aa×Obj)) (s:ae) (σ:St) (H:Hp) (Q:List (V×V)->Hp->Prop),Inv X ab σ H s->jan dJ σ H Q->
  af (aj X.prog X.w) X.A (evalPairs (pairTrees keys hJ X.env pos)) (fun vs s'=>∃ps H',Inv X ab σ H' s'/\VV ps vs/\Q ps H') X.xe s
theorem jeM{X:Cx}{pos:Pos}:PPs X pos [] [] []:=fun ab s σ H Q I h=>pairTrees_nil_walk ⟨[],H,I,.nil,h⟩
theorem jdn{X:Cx}{pos:Pos}{k v:ag}{ks:List (Option ag)}{vs:List ag}{tk tv:TE}{dJ:List (TE×TE)}(hk:PE X k tk)(hv:PE X v tv)(hr:PPs X pos ks vs dJ):
  PPs X pos (some k :: ks) (v :: vs) ((tk,tv) :: dJ):=fun ab s σ H Q I h=>
 pairTrees_cons_walk (thn (hk ab s σ H _ I h) fun u s1 ⟨x,H1,I1,rx,q1⟩=>thn (hv ab s1 σ H1 _ I1 q1) fun w2 s2 ⟨y,H2,I2,ry,q2⟩=>
  thn (hr ab s2 σ H2 _ I2 q2) fun ws s3 ⟨ps,H3,I3,cx,q3⟩=>⟨(x,y) :: ps,H3,I3,.cons ⟨rx,ry⟩ cx,q3⟩)
def yM(kvs more:List (Key×V)):List (Key×V):=more.foldl (fun aU kv=>kW aU kv.1 kv.2) kvs
theorem KV.merge:∀{more:List (Key×V)} {rs:List (Key×ac)} {kvs:List (Key×V)} {vs:List (Key×ac)},KV more rs->KV kvs vs->KV (yM kvs more) (merged vs rs):=by
 intro more rs kvs vs r;unfold KV at r;induction r generalizing kvs vs with
 | nil=>intro q;exact q
 | @cons p q ps qs h t ih=>
  intro r0;have e:KV (kW kvs p.1 p.2) (stored vs q.1 q.2):=by
   have:=r0.put p.1 h.2;rw[<- h.1];exact this
  exact ih e
theorem yE:∀(more kvs:List (Key×V)),(yM kvs more).length<=kvs.length+more.length
 | [],kvs=>by show kvs.length<=kvs.length+0;omega
 | p :: r,kvs=>by
  have h1:=yE r (kW kvs p.1 p.2);have h2:=zl kvs p.1 p.2;show (yM (kW kvs p.1 p.2) r).length<=_;rw[bi];omega
theorem KN{P:av}{w:ar}:∀{kvs:List (Key×V)} {ws:List (ac×ac)},VV (kvs.map fun kv=>(kV kv.1,kv.2)) ws->∃rs,Carries (km P w) ws rs/\KV kvs rs
 | [],_,r=>by rw[EV]at r;cases r;exact⟨[],True.intro,.nil⟩
 | p :: kvs,_,r=>by
  rw[bW]at r
  cases r with
  | @cons a b as bs h t=>
   obtain⟨rs,c,q⟩:=KN (P:=P) (w:=w) t;obtain⟨b1,b2⟩:=b;exact⟨(p.1,b2) :: rs,⟨Kx h.1,rfl,c⟩,.cons ⟨rfl,h.2⟩ q⟩
def jfD(dJ:List (TE×TE)):TE:=fun σ H Q=>∀p,H p=none->jan dJ σ (upd H p (.dK [])) fun ps H2=>H2 p=some (.dK [])/\∃kvs:List (Key×V),ps=kvs.map (fun kv=>(kV kv.1,kv.2))/\kvs.length<=15/\Q (.ref p) (upd H2 p (.dK (yM [] kvs)))
theorem jeS{X:Cx}{pos:Pos}{keys:List (Option ag)}{hJ:List ag}{dJ:List (TE×TE)}(h:PPs X pos keys hJ dJ)(eQ:keys.all (·.isSome)=true)(hl:keys.length=hJ.length)(h0:keys≠[])
  (wc:keys.length<=15):PE X (.Dict keys hJ pos) (jfD dJ):=by
 intro ab s σ H Q I q
 have hn:=I.hok.fresh (ay s.heap.objs.size)
 have I1:=I.laid (a:=s.heap.objs.size) (o:=.dK []) (h':=s.heap.push { cls:=.type "dict",data:=.dict #[] }) (t':=s.toks) (fun _ _ q=>aF _ q) (ay _) (KI s.heap I.big)
 refine wpAny_Dict_walk (knd:=km X.prog X.w) eQ hl h0 wc (thn (h ab _ σ _ _ I1 (q _ hn)) fun ws s2 hM=>?_)
 obtain⟨ps,H2,I2,cx,e,kvs,ep,lk,q2⟩:=hM
 subst ep
 obtain⟨rs,c,rk⟩:=KN (P:=X.prog) (w:=X.w) cx
 obtain⟨z,hd,vs0,r0,dd⟩:=jea I2.hok e
 cases r0
 refine⟨rs,c,dd,fun h' gP hs=>⟨.ref s.heap.objs.size,_,?_,rfl,q2⟩⟩
 have hz:(yM [] kvs).length<=aB:=by
  have h1:=yE kvs [];rw[lv]at h1;rw[gr];omega
 have he:∃q,h'.get? s.heap.objs.size=some q:=let ⟨q,_,_,hq,_⟩:=gP;⟨q,hq⟩
 exact J3 I2 (by rw[e];exact True.intro) hs he (Zc hz hd (rk.merge .nil) gP)
structure M2(X:Cx)(o:ag)(m:Str)(cW:Pos)(e f:ag)(bJ:Pos):Prop where
 base:iD o m X.env (eval o X.env)=eval o X.env
 few:((eE bJ (bo [e,f] X.env)).all (fun x=>!x.1) && (backToKw bJ (DU [] X.env)).all (fun x=>x.1.isSome)
  && decide (([e,f]:List ag).length+([]:List Keyword).length+(if ([]:List Keyword).isEmpty then 0 else 1) < 30))=true
 line:(cW.endLine == bJ.line)=true
 trees:eE bJ (bo [e,f] X.env)=[(false,eval e X.env),(false,eval f X.env)]
def IsD(H:Hp)(a:aa):Prop:=(∃kvs,Rd H a (.dK kvs))\/∃kvs,Rd H a (.dT kvs)
theorem jgy{σ:St}(I:Inv X ab σ H s)(d:IsD H a):
  s.TypeIs (.ref a) "dict"/\(∀b,Value.ref a=.ref b->∃ob,s.heap.get? b=some ob/\ob.dict=none)/\(a == gT)=false:=by
 rcases d with⟨kvs,e⟩ | ⟨kvs,e⟩
 .obtain⟨_,hd,vs,_,dd⟩:=Z5 I.hok e
  refine⟨dd.typeIs,fun b q=>?_,hd⟩
  cases q
  obtain⟨ob,_,_,h1,h2,_⟩:=dd
  exact⟨ob,h1,h2.2.1⟩
 .obtain⟨_,hd,xs,_,dd⟩:=Z2 I.hok e
  refine⟨dd.typeIs,fun b q=>?_,hd⟩
  cases q
  obtain⟨ob,_,_,h1,h2,_⟩:=dd
  exact⟨ob,h1,h2.2.1⟩
section
variable {σ:St}{d:V}{r:ac}
theorem jgB(hu:A.units+1 < cLine)(I:Inv X ab σ H s)(g:DGet H a y o)(ry:RelV y u)(rd:RelV d r)(h:∀w' s',Inv X ab σ H s'->RelV (o.getD d) w'->Q w' s'):
  af (aj X.prog X.w) A (call (.builtin "dict.get") [.ref a,u,r]) Q E s:=by
 rcases g with⟨kvs,k,e,ey,l⟩ | ⟨kvs,k,b,e,ey,eb,l⟩
 .subst ey
  obtain⟨z,hd,vs,cx,dd⟩:=Z5 I.hok e
  refine call_meetsIn Ep dd.typeIs Oq (Ou _ _ _) (meets_dict_get_default (km X.prog X.w) a (Kx ry) hd r) ⟨_,dd.mapOf,h _ _ (I.tok _) ?_⟩
  rw[l]
  exact (cx.val k).getD rd
 .subst ey
  cases (show u=Value.ref b from ry)
  obtain⟨z,hd,xs,cx,dd⟩:=Z2 I.hok e
  refine call_meetsIn Ep dd.typeIs Oq (Ou _ _ _) (meetsH_dict_get_default (q_ (km X.prog X.w)) a b hd r) ⟨DN hu,k,xs,Y5 I.hok eb,dd,h _ _ (I.tok _) ?_⟩
  rw[l]
  exact (cx.val k).getD rd
end
def jc1(td ty tx:TE):TE:=fun σ H Q=>td σ H fun x H1=>∃a,x=.ref a/\IsD H1 a/\ty σ H1 fun y H2=>tx σ H2 fun z H3=>∃o,DGet H3 a y o/\Q (o.getD z) H3
section
variable {o f:ag}{cW bJ:Pos}{td ty tx:TE}
theorem qM(hu:X.A.units+1 < cLine)(ho:PE X o td)(he:PE X e ty)(hf:PE X f tx)(m:M2 X o "get" cW e f bJ):PE X (.Call (.Attribute o "get" cW) [e,f] [] bJ) (jc1 td ty tx):=by
 intro ab s σ H Q I h;refine wpAny_Call_method m.base m.few m.line PySem.F.plainAttrs_dict Ep PySem.F.type_dict_get (thn (ho ab s σ H _ I h) fun u s1 hM=>?_);obtain⟨x,H1,I1,rx,a,ex,d,q1⟩:=hM;subst ex;obtain rfl:u=Value.ref a:=rx;obtain⟨t1,t2,_⟩:=jgy I1 d;refine⟨t1,t2,?_⟩;rw[m.trees];refine Ez rfl (Oy (xC (thn (he ab s1 σ H1 _ I1 q1) fun iv s2 ⟨y,H2,I2,ry,q2⟩=>
  xC (thn (hf ab s2 σ H2 _ I2 q2) fun fv s3 ⟨z,H3,I3,rz,ov,g,q3⟩=>Ey ?_))))
 exact jgB hu I3 g ry rz fun w' s4 I4 dL=>⟨_,H3,I4,dL,q3⟩
end
end L2
namespace Att
open PySem PySem.W PySem.Calls PyProof.Rows
theorem JO{P:Params}{h:aq}:∀(ns:List Int) (vs:List ac),WellAll P h vs (ns.map WData.int)->IntsAre vs ns:=by
 intro ns;induction ns with
 | nil=>
  intro vs w;rw[EV]at w
  cases w
  exact .nil
 | cons n ns ih=>
  intro vs w;rw[bW]at w
  cases w with
  | cons a b=>
   cases a
   exact .cons _ _ (ih _ b)
theorem jbM{l:OpenLaw}{n:Nat}(hn:l.most=some n){P:Params}{h:aq}{args:List WData}{aJ:List ac}
  (sE:l.row.toRowW.claim.pre args=true) (oU:WellAll P h aJ args) :
  ∃a vs ns,aJ=[Value.ref a]/\args=[WData.list (ns.map WData.int)]/\h.get? a=some { cls:=.type "list",data:=.seq vs.toArray }/\IntsAre vs ns/\ns.length<=n:=by
 have Hc:WShape.hasAll [] args [.list .int]=true:=(pre_splitW sE).1
 have hc:l.pre.holds [] { args:=args }=true:=(pre_splitW sE).2
 obtain⟨d,r,rfl,h1,h2⟩:=hasAllW_cons Hc
 obtain rfl:=hasAllW_nil h2
 obtain⟨xs,rfl,h3⟩:=hasW_list h1
 obtain⟨ns,rfl⟩:=items_int h3
 have bd:ns.length<=n:=by
  unfold OpenLaw.pre at hc;have h4:(WTm.not (.lt (.lit (.int (n:Int))) (.len (.arg 0)))).holds [] { args:=[.list (ns.map .int)] }=true:=by
   have h4:=(holds_andW hc).1;rw[hn]at h4;exact h4
  have h5:=condW_of h4 (w_not (w_lt w_lit (w_len_list (w_arg rfl))));rw[am]at h5;refine EQ fun q=>?_
  have q':(n:Int) < ((ns.length:Nat):Int):=by omega
  first
   | (rw[Qd q']at h5;exact absurd h5 (by decide))
   | (simp at h5;omega)
 cases oU with
 | cons w1 w2=>
  cases w2
  cases w1 with
  | list ho eQ=>exact⟨_,_,ns,rfl,rfl,ho,JO ns _ eQ,bd⟩
theorem jbQ(l:OpenLaw)(args:List WData):l.row.toRowW.claim.post args (.bool true) args=true:=
 postW_of (r:=l.row.toRowW) (X:=(true == true))
  (show N2 [] (.bool true) .bool=true by first | rfl | decide | simp[N2,WShape.arms,WShape.armsAll])
  (show (WTm.eq .res (.lit (.bool true))).value [] { args:=args,res:=some (.bool true),after:=args }=some (.bool (true == true)) from w_eq_bool (w_res rfl) w_lit) rfl
theorem attach_call{l:OpenLaw}{n:Nat}{q:av}{mU:List Str}{XP:(Str->Option ac)->aq->Prop}{YP:ar->aq->Prop}{d:DefRec}
  (hn:l.most=some n) (pC:d.params.defaults=[])
  (call:∀(w:ar) (s₀ s₁:ae) (mg mb:Str->Option ac) (fa:aa) (o:Obj) (pm cd cN:ac) (a:aa) (vs:List ac) (ns:List Int),
   Ground q mU [] XP w s₀ mg mb s₁.heap->YP w s₁.heap->
   s₁.heap.get? fa=some o->o.data=.func (docDef d.name d.params d.body d.scope pm cd cN)->s₁.heap.CodeRec cd d.name->mg d.name=some (.ref fa)->
   s₁.heap.get? a=some { cls:=.type "list",data:=.seq vs.toArray }->IntsAre vs ns->ns.length<=n->s₁.gens=#[]->
   dR (aj l.prog w) nV (.call (.ref fa) ⟨[.ref a],[]⟩) (fun r s'=>r=.ok (.ret (.bool true))/\OldK s₁.heap s'.heap/\s'.os=s₁.os/\lh s'.gens) s₁) :
  WalkO q mU XP YP l.row.toRowW d [] (fun f vs=>D0 f vs):=by
 intro w s₀ s₁ mg mb G Y fa o pm cd cN dV kV ho hd fZ hD pf hg args aJ as sE hlay sB oU Bk
 obtain rfl:dV=.none:=Dflts.none hD pC
 obtain rfl:kV=.none:=Dflts.noKw hD
 obtain⟨a,vs,ns,rfl,rfl,u_,vy,bd⟩:=jbM hn sE oU
 refine enter_call (rh (call w s₀ s₁ mg mb fa o pm cd cN a vs ns G Y ho (fd_plain hd) fZ pf u_ vy bd hg) fun r s' hq=>?_)
 obtain⟨rfl,h2,h3,h4⟩:=hq
 exact⟨.inl ⟨.bool true,.bool true,[],rfl,fun _=>rfl,.bool true,jbQ l _,fun _=>⟨List.Pairwise.nil,fun _ hm=>(nomatch hm)⟩⟩,h2,h3,h4⟩
end Att
namespace L2
open PySem PySem.Spec PyProof.Rows
theorem yt:∀{vs:List ac} {ns:List Int},IntsAre vs ns->Vals (ns.map V.int) vs
 | _,_,.nil=>.nil
 | _,_,.cons n t h=>.cons ⟨t,rfl⟩ (yt h)
def jgN(H:Hp):Prop:=∀b,H b=none\/∃o xs,H b=some (.frz o (.lst xs))
variable {w:ar}{K:ai}{mg:Str->Option ac}{a:aa}{fd:aH}{x:Str}{sp:Sp}
theorem jdS{P:av}{mb:Str->Option ac}{CX:CXT}{k:Nat}{fa:aa}{s₁:ae}{vs:List ac}{ns:List Int}
  (KX:K.In s₁.heap) (lQ:s₁.heap.Ns br mg) (hb:s₁.heap.Ns D1 mb) (Ll:∀x:Str,x≠"__name__"->mb x=bS x) (Iv:s₁.heap.NoLimit) (hg:s₁.gens=#[])
  (ha:s₁.heap.get? a=some { cls:=.type "list",data:=.seq vs.toArray }) (hi:IntsAre vs ns) (hl:ns.length<=aB) (hr:Room k nV)
  (F:∀base:aq,K.In base->base.Ns br mg->FnOk P w K mg base CX k fa fd [x] sp) (Lk:∀(s:ae) (u:ac),ro s fd ⟨[u],[]⟩ [(x,u)])
  (dB:∀H:Hp,jgN H->SqL K H a (ns.map V.int)->sp [.ref a] H (fun v _=>v=.bl true) fun _ _ _=>False)
  (v8:∀H e s',CX [] H s₁ (fun _ _ _=>False) e s'->False) :
  dR (aj P w) nV (.call (.ref fa) ⟨[.ref a],[]⟩) (fun r s'=>r=.ok (.ret (.bool true))/\OldK s₁.heap s'.heap/\s'.os=s₁.os/\lh s'.gens) s₁:=by
 have rv:=yt hi
 have Ge:=hi.length
 have CI:∀H:Hp,jgN H->SqL K H a (ns.map V.int)->HOk P w H s₁.heap->(∀b,H b≠none->b=a)->(H a≠none->K.lookup a=none)->
   dR (aj P w) nV (.call (.ref fa) ⟨[.ref a],[]⟩) (fun r s'=>r=.ok (.ret (.bool true))/\OldK s₁.heap s'.heap/\s'.os=s₁.os/\lh s'.gens) s₁:=by
  intro H hO hS hok hA hK
  have CL:∀{b:aa} {o:Obj},s₁.heap.get? b=some o->H b=none->(Y8 s₁.heap H).get? b=some o:=fun e n=>jd0 e n
  have oK:∀{b:aa} {o:Obj} {es:Array DictEntry} {ep:Nat},s₁.heap.get? b=some o->o.data=.dict es ep->H b=none:=fun {b o es ep} e d=>by
   cases q:H b with
   | none=>rfl
   | some u=>
    have e':b=a:=hA b (by rw[q];simp);subst e';rw[ha]at e;cases e;have d':Data.seq vs.toArray _=Data.dict es ep:=d
    cases d'
  have se:∀{b:aa} {m:Str->Option ac},s₁.heap.Ns b m->(Y8 s₁.heap H).Ns b m:=fun {b m} ⟨o,es,ep,e,d,r⟩=>⟨o,es,ep,CL e (oK e d),d,r⟩
  have Cd:K.In (Y8 s₁.heap H):=fun b o e=>CL (KX b o e) (by
   cases q:H b with
   | none=>rfl
   | some u=>
    have e':b=a:=hA b (by rw[q];simp);subst e';rw[hK (by rw[q];simp)]at e;cases e)
  have hM:Mod K mg (Y8 s₁.heap H):=⟨Cd,se lQ,⟨mb,se hb,Ll⟩,let ⟨mc,h1,h2⟩:=Iv;⟨mc,se h1,h2⟩⟩
  have e0:Env0 P w K mg (Y8 s₁.heap H) nV [] s₁ H:=⟨rfl,hM,fun b o e=>jfb e,mG (jcg _ _),trivial,fun b hb=>absurd (show b∈([]:List aa) from hb) (by simp),hok,.of_eq hg⟩
  refine rh ((F _ Cd (se lQ)).run nV [] s₁ H ⟨[.ref a],[]⟩ [.ref a] [.ref a] _ _ hr e0 (Lk s₁ (.ref a)) (.cons rfl .nil) (dB H hO hS)) fun r s' h=>?_
  cases r with
  | error e=>exact (v8 H e s' h).elim
  | ok fl=>
   cases fl with
   | next=>exact fK h
   | brk=>exact fK h
   | cont=>exact fK h
   | ret u=>
    obtain⟨v,H',os,bare,un,HL,r',q⟩:=h
    have q':v=.bl true:=q
    subst q'
    obtain rfl:u=Value.bool true:=r'
    refine⟨rfl,OldK.of_keep fun b o e=>?_,os,bare⟩
    cases q:H b with
    | none=>exact un.keep b o e q (by intro z;exact absurd (show b∈([]:List aa) from z) (by simp)) (by simp)
    | some u=>
     rcases hO b with z | ⟨ob,xs,z⟩
     .rw[q]at z;cases z
     .have z2:=un.frzs b ob _ z
      obtain⟨e1,_⟩:=hok b _ z
      obtain⟨e2,_⟩:=HL b _ z2
      rw[e]at e1;cases e1
      exact e2
 cases hk:K.lookup a with
 | some o=>
  have e:=KX a o hk
  rw[ha]at e
  cases e
  refine CI (fun _=>none) (fun _=>.inl rfl) (.inr ⟨_,vs.toArray,_,hk,rfl,rfl,rfl,by rw[bP,Ge];exact hl,by simpa using rv⟩) (fun b u z=>by have z':(none:Option HO)=some u:=z;cases z') (fun b z=>absurd rfl z) fun z=>absurd rfl z
 | none=>
  refine CI (fun b=>if b=a then some (.frz { cls:=.type "list",data:=.seq vs.toArray } (.lst (ns.map V.int))) else none) (fun b=>?_) (.inl (.inr ⟨{ cls:=.type "list",data:=.seq vs.toArray },Qg rfl⟩)) (fun b u z=>?_) (fun b z=>?_) fun _=>hk
  .by_cases hb:b=a
   .exact .inr ⟨_,_,Qg hb⟩
   .exact .inl (Qf hb)
  .by_cases hb:b=a
   .have z':=(Qg hb).symm.trans z
    cases z'
    subst hb
    exact⟨ha,by rw[am];exact hl,vs,_,rv,ha⟩
   .have z':=(Qf hb).symm.trans z
    cases z'
  .by_cases hb:b=a
   .exact hb
   .exact absurd (Qf hb) z
variable {n:Nat}
theorem walk_of{l:D_}{k:Nat}{q:av}{mU:List Str}{XP:(Str->Option ac)->aq->Prop}{YP:ar->aq->Prop}{d:DefRec}{K:Params->ai}{CX:ar->CXT}{sp:ar->Sp}
  (hn:l.most=some n) (ng:n<=aB) (pC:d.params.defaults=[]) (hr:Room k nV)
  (hY:∀(w:ar) (h:aq),YP w h->(K w.params).In h)
  (F:∀(w:ar) (mg:Str->Option ac) (fa:aa) (h:aq),(K w.params).In h->h.Ns br mg->mg d.name=some (.ref fa)->
   ∃fd:aH,(∀(s:ae) (u:ac),ro s fd ⟨[u],[]⟩ [(x,u)])/\
    ∀base:aq,(K w.params).In base->base.Ns br mg->FnOk l.prog w (K w.params) mg base (CX w) k fa fd [x] (sp w))
  (dB:∀(w:ar) (H:Hp) (a:aa) (ns:List Int),ns.length<=n->jgN H->SqL (K w.params) H a (ns.map V.int)->sp w [.ref a] H (fun v _=>v=.bl true) fun _ _ _=>False)
  (v8:∀(w:ar) (H:Hp) (s:ae) (e:ac) (s':ae),CX w [] H s (fun _ _ _=>False) e s'->False) :
  N1 q mU XP YP l.row.toRowW d [] (fun f vs=>D0 f vs):=by
 refine Att.attach_call hn pC fun w s₀ s₁ mg mb fa o pm cd cN a vs ns G Y ho hd fZ pf u_ vy bd hg=>?_
 have KX:=hY w _ Y
 obtain⟨fd,hb,hF⟩:=F w mg fa _ KX G.T.g pf
 exact jdS KX G.T.g G.T.b G.T.builtins G.T.nolimit hg u_ vy (aZ bd ng) hr hF hb (fun H hO hS=>dB w H a ns bd hO hS) fun H e s'=>v8 w H s₁ e s'
def jbp(s:au)(j:Nat):au:=match s with
 | .ClassDef _ _ _ body _ _ _ _ _ _ _=>body.getD j (.Pass ⟨0,0,0,0⟩)
 | _=>.Pass ⟨0,0,0,0⟩
def zm(s:au):Arguments:=match s with
 | .FunctionDef _ a _ _ _ _ _ _ _ _=>a
 | _=>{ posonlyargs:=[],args:=[],vararg:=none,kwonlyargs:=[],kw_defaults:=[],kwarg:=none,defaults:=[] }
def qE(s:au):List au:=match s with
 | .FunctionDef _ _ b _ _ _ _ _ _ _=>b
 | _=>[]
def jn(s:au):b_:=match s with
 | .FunctionDef _ _ _ _ _ _ sc _ _ _=>sc
 | _=>{ kind:=.function,names:=[],isGenerator:=false,isCoroutine:=false }
abbrev CX0:CXT:=fun _ _ _ _ _ _=>False
abbrev E0:XK:=fun _ _ _=>False
variable {X:Cx}
theorem jfK:KU CX0 X E0:=fun _ _ _ _ _ _ _ h=>h.elim
structure Fun(K:ai)(x bj:Str)(st:au)(f:aa)(fd:aH):Prop where
 ex:∃(oc:ac) (od:Option aa) (kV cN pm:ac) (an:Option aa) (az ct:ac) (iN:Array (Option ac)),
  fd=iE x bj (zm st) (qE st) (jn st) .none kV cN pm an az ct/\K.lookup f=some ⟨oc,od,.func fd,iN⟩/\nW K az bj=true
 kp:gX K (.ref f)=true
variable {bj:Str}{st:au}{f:aa}{ps:List Str}
section
variable {P:av}{base:aq}
theorem Fun.ok{N:List Str}{k:Nat}(F:Fun K x bj st f fd)(S:FnScope N ps (jn st))(len:∀vs H Q E,sp vs H Q E->vs.length=ps.length)
  (pE:∀(az:ac) (A:aD) (outer:List Env) (s:ae) (H:Hp) (vs:List V) (Q:VK) (E:XK),Room k (A.deeper (envOfC bj (jn st) s.heap.objs.size f az))->sp vs H Q E->
   ∃t,PSs (JQ CX0 P w K mg base N bj (jn st) f az A outer s H E).nox (qE st) t/\t { nx:=fun _ H'=>Q .non H',rt:=Q } (y0 N vs) H):FnOk P w K mg base CX0 (k+1) f fd ps sp:=by
 obtain⟨oc,od,kV,cN,pm,an,az,ct,iN,rfl,lk,fZ⟩:=F.ex
 refine jhj lk fZ S len fun A outer s H vs Q E hr dB=>?_
 obtain⟨t,h,q⟩:=pE az A outer s H vs Q E hr dB
 exact⟨t,h.nox,q⟩
theorem Fun.binds(F:Fun K x bj st f fd)
  (h:∀(kV cN pm:ac) (an:Option aa) (az ct:ac) (us:List ac),us.length=ps.length->bindArgs (iE x bj (zm st) (qE st) (jn st) .none kV cN pm an az ct) ⟨us,[]⟩=pure (ps.zip us)):Binds K fd ps []:=by
 obtain⟨oc,od,kV,cN,pm,an,az,ct,iN,rfl,lk,fZ⟩:=F.ex
 exact .all (h kV cN pm an az ct)
theorem Za{oc:ac}{od an:Option aa}{iN:Array (Option ac)}{kV cN pm az ct:ac}(l:K.lookup f=some ⟨oc,od,.func (iE x bj (zm st) (qE st) (jn st) .none kV cN pm an az ct),iN⟩)
  (c:nW K az bj=true) (k:gX K (.ref f)=true):Fun K x bj st f (iE x bj (zm st) (qE st) (jn st) .none kV cN pm an az ct):=⟨⟨oc,od,kV,cN,pm,an,az,ct,iN,rfl,l,c⟩,k⟩
end
variable {A:aD}
theorem qO{k:Nat}(hr:Room k A):A.units+1 < cLine:=Ph (Nat.add_le_add_left (by decide:1<=64) _) hr.units
theorem jw(h:n<=1000):n < aB:=Ph h (by decide)
section
theorem pv(i:Nat){x:Str}{pos:Pos}(hN:X.N[i]?=some x:=by rfl)(hv:Vis X.env.scope x:=by first | exact Or.inl rfl | exact Or.inr (Or.inl rfl) | exact Or.inr (Or.inr rfl))(hd:(x == ("__debug__" : Str))=false:=by decide)
  (fZ:(x == ("__classdict__" : Str))=false:=by decide):PE X (.Name x pos) (jfU i):=jgb hN hv hd fZ
end
variable {B:Prop}
theorem kT{A:Prop}(h:B):if false=true then A else B:=by
 rw[Qf bB];exact h
theorem kL{A:Prop}(h:A):if true=true then A else B:=by
 rw[Qg rfl];exact h
theorem j7{c A:Prop}[Decidable c](h1:c->A)(h2:¬c->B):if c then A else B:=by
 by_cases h:c
 .rw[Qg h]
  exact h1 h
 .rw[Qf h]
  exact h2 h
def Same(H H':Hp):Prop:=∀b o,H b=some o->H' b=some o
theorem Same.refl(H:Hp):Same H H:=fun _ _ h=>h
variable {H:Hp}
theorem Same.trans{H1 H2:Hp}(a:Same H H1)(b:Same H1 H2):Same H H2:=fun c o h=>b c o (a c o h)
variable {H':Hp}
theorem Same.free(e:Same H H'){l:aa}(h:H' l=Option.none):H l=Option.none:=by
 cases q:H l with
 | none=>rfl
 | some o=>
  rw[e l o q]at h
  cases h
variable {xs:List V}
theorem Same.seq(e:Same H H')(h:SqL K H a xs):SqL K H' a xs:=by
 rcases h with (h | ⟨o,h⟩) | h
 .exact .inl (.inl (e _ _ h))
 .exact .inl (.inr ⟨o,e _ _ h⟩)
 .exact .inr h
variable {s:ae}{scope:b_}{pos:Pos}
theorem Jh{prog:av}{bU target iter:ag}{ifs:List ag}{it aU:ac}{env:Env}{R:lb->ae->Prop}(I:Nat->ae->Prop)
  (eL:∀n s,I n s->af (aj prog w) A (cC it) (fun r s1=>match r with
   | none=>R (.ok .next) s1
   | some v=>af (aj prog w) A (tM target it v) (fun _ oy=>af (aj prog w) A (assign target env v) (fun _ s2=>
     af (aj prog w) A (forIn ifs true fun c r=>if r=true then do let ok <- isTrue c env (eval c env);pure (ForInStep.yield ok) else pure (ForInStep.yield r)) (fun ok s3=>
      if ok=true then af (aj prog w) A (eval bU env) (fun x s4=>
       af (aj prog w) A (call (.builtin "list.append") [aU,x]) (fun _ s5=>∃m,m < n/\I m s5) (fun _ _=>False) s4) (fun _ _=>False) s3
      else ∃m,m < n/\I m s3) (fun _ _=>False) s2) (fun _ _=>False) oy) (fun _ _=>False) s1) (fun _ _=>False) s)
  (n:Nat) (h:I n s):dR (aj prog w) A (.compLoop (.ListComp bU [⟨target,iter,ifs,0⟩] scope pos) 0 it aU env) R s:=by
 have no:∀(x:ac) (s':ae),False->notedBy (aj prog w) A env (fun e s'=>R (.error e) s') x s':=fun _ _ z=>z.elim
 refine codeAny_loop rfl I (fun n s hI=>?_) n h
 show af _ A ((compTurn (.ListComp bU [⟨target,iter,ifs,0⟩] scope pos) 0 it aU env).onRaise (fun x=>do noteFrame x env;theTreesLotGoes x)) _ _ s
 refine wpAny_noted ?_
 rw[compTurn_list]
 refine ad (tI (ad (cB (eL n s hI) (fun r s1 h1=>?_) no)))
 cases r with
 | none=>exact al h1
 | some v=>
  refine ad (cB h1 (fun _ oy cz=>?_) no)
  refine ad (cB cz (fun _ s2 h2=>ad (cB h2 (fun ok s3 h3=>?_) no)) no)
  cases ok with
  | false=>exact al ⟨rfl,h3⟩
  | true=>
   exact ad (ad (cB h3 (fun x s4 h4=>ad (cB h4 (fun _ s5 h5=>al (al ⟨rfl,h5⟩)) no)) no))
theorem jd7:(NameKind.free == NameKind.free)=true:=rfl
def zW(cells:List (Str×aa)):List (Str×gt)->List (Str×aa)->List (Str×aa)
 | [],aU=>aU
 | (n,k) :: r,aU=>if k == .free then zW cells r ((n,(cells.lookup n).getD 0) :: aU) else zW cells r aU
theorem ZW{env:Env}:∀(names:List (Str×gt)) (aU:List (Str×aa)),(∀x∈names,x.2=.free->(env.cells.lookup x.1).isSome=true)->
  (forIn names aU fun x (cs:List (Str×aa))=>(match x with | (name,kind)=>if (kind == NameKind.free)=true then do let c <- cellOf env name;pure (ForInStep.yield ((name,c) :: cs)) else pure (ForInStep.yield cs):Sem (ForInStep (List (Str×aa)))))=(pure (zW env.cells names aU):Sem (List (Str×aa)))
 | [],aU,_=>by simp only[n8];rfl
 | (n,k) :: r,aU,h=>by
  have ih:=fun a=>ZW (env:=env) r a fun x hx=>h x (bK _ hx)
  rw[n9];by_cases hk:k=.free
  .subst hk
   have q:=h (n,.free) bQ rfl;obtain⟨c,hc⟩:=tY.mp q;have e:cellOf env n=pure c:=by unfold cellOf;rw[show env.cells.lookup n=some c from hc]
   simp only[beq_self_eq_true,if_true,e,pure_bind];rw[ih];show _=pure (if (NameKind.free == NameKind.free)=true then zW env.cells r ((n,(env.cells.lookup n).getD 0) :: aU) else _);rw[Qg jd7,show env.cells.lookup n=some c from hc];rfl
  .have hb:(k == NameKind.free)=false:=by simpa using hk
   simp only[hb,g_,if_false,pure_bind];rw[ih];show _=pure (if (k == NameKind.free)=true then _ else zW env.cells r aU);rw[hb];rfl
theorem yT{env:Env}(h:∀x∈scope.names,x.2=.free->(env.cells.lookup x.1).isSome=true):closureFor scope env=pure (zW env.cells scope.names []):=by
 unfold closureFor;have e:=ZW (env:=env) scope.names [] h;simp only[bind_pure]at *;exact e
theorem jaW{cells:List (Str×aa)}:∀(names:List (Str×gt)) (aU:List (Str×aa)),(∀x∈names,x.2=.free->(cells.lookup x.1).isSome=true)->(∀x c,aU.lookup x=some c->cells.lookup x=some c)->
  ∀x c,(zW cells names aU).lookup x=some c->cells.lookup x=some c
 | [],aU,_,ha=>ha
 | (n,k) :: r,aU,h,ha=>by
  unfold zW;by_cases hk:k=.free
  .subst hk
   rw[Qg jd7];refine jaW r _ (fun x hx=>h x (bK _ hx)) fun x c e=>?_
   by_cases hx:x=n
   .subst hx
    rw[mJ]at e;obtain⟨d,hd⟩:=tY.mp (h (x,.free) bQ rfl);have iu:cells.lookup x=some d:=hd;rw[iu]at e |-;exact e
   .rw[mK,Qh.mpr hx]at e
    exact ha x c e
  .rw[Qf (by simpa using hk)]
   exact jaW r _ (fun x hx=>h x (bK _ hx)) ha
theorem Zf{cells:List (Str×aa)}:∀(names:List (Str×gt)) (aU:List (Str×aa)) (x:Str),(aU.lookup x).isSome=true->((zW cells names aU).lookup x).isSome=true
 | [],aU,_,ha=>ha
 | (n,k) :: r,aU,x,ha=>by
  unfold zW;split
  .refine Zf r _ x ?_
   rw[mK];split
   .rfl
   .exact ha
  .exact Zf r _ x ha
theorem jaX{cells:List (Str×aa)}:∀(names:List (Str×gt)) (aU:List (Str×aa)) (x:Str),(x,NameKind.free)∈names->((zW cells names aU).lookup x).isSome=true
 | [],_,_,h=>by simp at h
 | (n,k) :: r,aU,x,h=>by
  unfold zW;rcases bg.mp h with e | h
  .obtain⟨e1,e2⟩:=Prod.mk.inj e
   subst e1 e2;rw[Qg jd7];refine Zf r _ _ ?_;rw[mJ];rfl
  .split
   .exact jaX r _ x h
   .exact jaX r _ x h
theorem zf{env:Env}:∀{names:List (Str×gt)} {x:Str} {k:gt},
  (names.map fun (n,k)=>if (k == NameKind.free && env.scope.kind == .function && env.kindOf n == some .cell) then (n,NameKind.cell) else (n,k)).lookup x=some k->
   names.lookup x=some k\/(k=.cell/\names.lookup x=some .free)
 | [],_,_,h=>by simp at h
 | (n,k') :: r,x,k,h=>by
  rw[bW]at h;by_cases hx:x=n
  .subst hx
   rw[mJ];by_cases hc:(k' == NameKind.free && env.scope.kind == .function && env.kindOf x == some .cell)=true
   .simp only[hc,if_true]at h
    rw[mJ]at h;have hk:k'=.free:=by
     simp only[gB,beq_iff_eq]at hc;exact hc.1.1
    exact .inr ⟨(dW h).symm,by rw[hk]⟩
   .simp only[hc]at h
    rw[Qf (by simp),mJ]at h;exact .inl h
  .have e:(x == n)=false:=Qh.mpr hx
   have h':(r.map fun (n,k)=>if (k == NameKind.free && env.scope.kind == .function && env.kindOf n == some .cell) then (n,NameKind.cell) else (n,k)).lookup x=some k:=by
    by_cases hc:(k' == NameKind.free && env.scope.kind == .function && env.kindOf n == some .cell)=true
    .simp only[hc,if_true]at h
     rw[mK,e]at h;exact h
    .simp only[hc]at h
     rw[Qf (by simp),mK,e]at h;exact h
   have ih:=@zf env r x k h';rw[mK,e];exact ih
theorem y9{env:Env}:∀{names:List (Str×gt)} {x:Str},names.lookup x=some .free->
  (names.map fun (n,k)=>if (k == NameKind.free && env.scope.kind == .function && env.kindOf n == some .cell) then (n,NameKind.cell) else (n,k)).lookup x=some .cell\/
  (names.map fun (n,k)=>if (k == NameKind.free && env.scope.kind == .function && env.kindOf n == some .cell) then (n,NameKind.cell) else (n,k)).lookup x=some .free
 | [],_,h=>by simp at h
 | (n,k') :: r,x,h=>by
  rw[bW];by_cases hx:x=n
  .subst hx
   rw[mJ]at h
   cases h
   by_cases hc:(NameKind.free == NameKind.free && env.scope.kind == .function && env.kindOf x == some .cell)=true
   .simp only[hc,if_true]
    exact .inl mJ
   .simp only[hc]
    rw[Qf (by simp)];exact .inr mJ
  .have e:(x == n)=false:=Qh.mpr hx
   rw[mK,e]at h;have ih:=@y9 env r x h;by_cases hc:(k' == NameKind.free && env.scope.kind == .function && env.kindOf n == some .cell)=true
   .simp only[hc,if_true]
    rw[mK,e];exact ih
   .simp only[hc]
    rw[Qf (by simp),mK,e];exact ih
def blk(X:Cx)(scope:b_)(own:List Str)(fr:List Nat)(s:ae)(H:Hp)(ex:List aa):Cx where
 prog:=X.prog
 w:=X.w
 K:=X.K
 mg:=X.mg
 base:=X.base
 A:=X.A
 N:=own++fr.map fun j=>X.N.getD j (aM "")
 s₀:=s
 H₀:=H
 env:=compEnvC scope (zW X.env.cells scope.names []) s.heap.objs.size X.env
 outer:=X.stack
 stack:=X.stack
 ex:=ex
 fn:=fun _=>false
 calm:=X.calm
 pn:=[]
 xe:=fun _ _=>False
def jcy(own:List Str)(fr:List Nat)(σ:St):St:=own.map (fun _=>none)++fr.map fun j=>(σ[j]?).join
structure CompOk(X:Cx)(scope:b_)(fr:List Nat):Prop where
 kind:scope.kind=.function
 nocell:∀y∈scope.names,y.2≠.cell
 loc:∀y∈scope.names,y.2=.local->scope.names.lookup y.1=some .local
 frees:∀y∈scope.names,y.2=.free->X.env.scope.names.lookup y.1=some .cell\/X.env.scope.names.lookup y.1=some .free
 fr:∀j∈fr,scope.names.lookup (X.N.getD j (aM ""))=some .free
theorem Y6{own:List Str}{fr:List Nat}{ab:List (aa×Obj)}{σ:St}{ex:List aa}{h1:aq}{t1:Nat}(I:Inv X ab σ H s)(O:CompOk X scope fr)
  (nu:∀b∈ex,Jm X ab H b/\b < s.heap.objs.size) (lQ:h1.Ns s.heap.objs.size fun _=>none) (hk:∀b o,s.heap.get? b=some o->h1.get? b=some o) :
  Inv (blk X scope own fr s H ex) [] (jcy own fr σ) H { s with heap:=h1,toks:=t1 }:=by
 have da:∀x∈scope.names,x.2=.free->(X.env.cells.lookup x.1).isSome=true:=fun x hx e=>by
  obtain⟨c,hc⟩:=I.ok.has x.1 (O.frees x hx e);rw[hc];rfl
 have sub:∀x c,(zW X.env.cells scope.names []).lookup x=some c->X.env.cells.lookup x=some c:=jaW scope.names [] da fun x c e=>by simp at e
 have vO:∀x,scope.names.lookup x=some .free->∃c,(zW X.env.cells scope.names []).lookup x=some c:=fun x e=>tY.mp (jaX scope.names [] x (my e))
 have hcne:∀x c,X.env.cells.lookup x=some c->c < s.heap.objs.size:=fun x c e=>by
  obtain⟨v,q⟩:=I.cell x c e;exact q.lt
 have hN:σ.length=X.N.length:=I.len
 refine⟨⟨I.ok.mod,O.kind,I.ok.glob,I.ok.blt,ay _,fun x y c e1 e2=>I.ok.inj x y c (sub x c e1) (sub y c e2),fun x hx=>?_,fun x c z=>absurd z (by simp[blk]),I.ok.hd,I.ok.frames,.inl rfl,fun b hb=>⟨aN (nu b hb).2,fun x c e=>(nu b hb).1.2.2.2.2.1 x c (sub x c e)⟩,
  fun b o e=>I.bs b o e,aZ I.ok.bsz I.sz,fun b o e hb=>?_,fun b hb z=>?_,I.stack,I.stkFree⟩,
  rfl,I.bare,Un.kept hk,⟨_,lQ,fun i x v e1 e2 e3=>?_⟩,fun x c e=>?_,I.fresh,fun x c e=>I.freeC x c (sub x c e),fun p hp=>absurd hp (by simp[blk]),I.hok.kept hk,?_⟩
 .have cg:(relabel scope X.env).names.lookup x=some .cell\/(relabel scope X.env).names.lookup x=some .free:=hx
  rcases cg with hx | hx
  .rcases zf hx with q | ⟨_,q⟩
   .exact absurd rfl (O.nocell _ (my q))
   .exact vO x q
  .rcases zf hx with q | ⟨q,_⟩
   .exact vO x q
   .cases q
 .rcases (nu b hb).1.2.2.2.1 with z | z
  .exact I.ok.noex b o e z
  .exact absurd (cm (aI e) (aZ I.ok.bsz z)) (mF _)
 .obtain⟨_,f1,f2,_⟩:=(nu b hb).1
  rcases bg.mp (I.stkSub b z) with q | q
  .exact f1 q
  .exact f2 q
 .have gp:(own++fr.map fun j=>X.N.getD j (aM ""))[i]?=some x:=e1
  unfold jcy at e2
  have hi:own.length<=i:=by
   by_cases h:own.length<=i
   .exact h
   .rw[EZ (by simpa using Nat.lt_of_not_le h),bA]at e2
    cases q:own[i]? with
    | none=>rw[q]at e2;cases e2
    | some z=>rw[q]at e2;cases e2
  rw[rF hi,bA]at gp
  rw[rF (by simpa using hi),bA,am]at e2
  cases q:fr[i - own.length]? with
  | none=>rw[q]at e2;cases e2
  | some j=>
   rw[q]at gp e2
   have CH:X.N.getD j (aM "")=x:=dW gp
   have nD:(σ[j]?).join=some v:=dW e2
   have CG:σ[j]?=some (some v):=by
    cases z:σ[j]? with
    | none=>rw[z]at nD;cases nD
    | some y=>rw[z]at nD;rw[<- nD];rfl
   have hj:j < X.N.length:=by rw[<- hN];exact (aV.mp CG).1
   have Mo:X.N[j]?=some x:=by
    rw[aC hj,<- CH,eK,aC hj];rfl
   have hf:=O.fr j (EU q)
   rw[CH]at hf
   have hv:=O.frees _ (my hf) rfl
   obtain⟨m,_,hl⟩:=I.loc
   obtain⟨u,ru,lk⟩:=hl j x v Mo CG (.inr hv)
   refine⟨u,ru,.inr ⟨?_,?_⟩⟩
   .exact y9 hf
   .obtain⟨c,hc⟩:=vO x hf
    refine⟨c,hc,?_⟩
    rcases lk with⟨k,_⟩ | ⟨_,c',bw,z⟩
    .have k':X.env.scope.names.lookup x=some .local:=k
     rcases hv with hv | hv <;> · rw[k']at hv;cases hv
    .have:=sub x c hc
     rw[bw]at this
     cases this
     obtain⟨o,ho,hd⟩:=z
     exact⟨o,hk _ _ ho,hd⟩
 .obtain⟨v,o,ho,hd⟩:=I.cell x c (sub x c e)
  exact⟨v,o,hk _ _ ho,hd⟩
 .show (jcy own fr σ).length=(own++fr.map fun j=>X.N.getD j (aM "")).length
  unfold jcy
  rw[aP,aP,am,am,am]
theorem zF{own:List Str}{fr:List Nat}{ab:List (aa×Obj)}{σ σ':St}{s':ae}{ex:List aa}(I:Inv X ab σ H s)(nu:∀b∈ex,Jm X ab H b/\b < s.heap.objs.size)
  (J:Inv (blk X scope own fr s H ex) [] σ' H' s') {h':aq} (hs:df s.heap.objs.size s'.heap h'):Inv X ab σ H' { s' with heap:=h' }:=by
 have hC:H' s.heap.objs.size=none:=J.free
 have u:Un (frs X.stack) ex H H' s.heap s'.heap:=J.base
 have ne:∀b o,s.heap.get? b=some o->b≠s.heap.objs.size:=fun b o e=>aN (aI e)
 have pW:∀b o,b≠s.heap.objs.size->s'.heap.get? b=some o->h'.get? b=some o:=fun b o hb e=>(hs.2 b hb).trans e
 refine I.call' (ch:=ex) J.os ⟨fun b o e n hb hx=>?_,fun b o e n hb hx=>?_,u.free,fun b o e hx=>?_,u.tups,u.frzs,u.tbls,fun b o xs q e hb hx=>pW b o (ne b o e) (u.stay b o xs q e hb hx)⟩ (fun b o e=>?_) J.bare fun b hb=>?_
 .exact pW b o (ne b o e) (u.keep b o e n hb hx)
 .obtain⟨sl,q⟩:=u.slot b o e n hb hx
  exact⟨sl,pW b _ (ne b o e) q⟩
 .obtain⟨o',q⟩:=u.there b o e hx
  exact⟨o',pW b _ (ne b o e) q⟩
 .refine (J.hok b o e).stay (fun c v hc q=>pW c v ?_ q) (fun _ q=>q) fun _ _ q=>q
  rintro z
  rcases hc with y | y
  .rw[y]at z;rw[z,hC]at e;cases e
  .rw[z,hC]at y;cases y
 .obtain⟨f0,f1,f2,f3,f4,f5⟩:=(nu b hb).1
  exact⟨f3,f1,f4,f5⟩
def PTs(X:Cx)(ifs:List ag)(t:TT):Prop:=
 ∀(ab:List (aa×Obj)) (s:ae) (σ:St) (H:Hp) (Q:Bool->Hp->Prop),Inv X ab σ H s->t σ H Q->
  af (aj X.prog X.w) X.A (forIn ifs true fun c r=>if r=true then do let ok <- isTrue c X.env (eval c X.env);pure (ForInStep.yield ok) else pure (ForInStep.yield r)) (TP X ab σ Q) X.xe s
def yH:TT:=fun _ H Q=>Q true H
theorem qR{X:Cx}:PTs X [] yH:=fun _ _ _ H _ I h=>wpAny_tests_nil ⟨H,I,h⟩
theorem yw{c:ag}{t:TT}(h:PT X c t):PTs X [c] t:=fun ab s σ H Q I q=>wpAny_tests_one (h ab s σ H Q I q)
def KY(J:It)(p:aa)(g:TG)(tt:TT)(te:TE)(Q:VK)(σ:St)(H:Hp):Prop:=∃W:Nat->Nat->St->Hp->Prop,(∃m,W 0 m σ H)/\
 ∀i m σ' H',W i m σ' H'->(J.stop i H'/\Q (.ref p) H')\/(J.go i H'/\∃N:St->Hp->Prop,(∀σ3 H3,N σ3 H3->∃m',m' < m/\W (i+1) m' σ3 H3)/\∀x H2,J.yld i H' x H2->g x σ' H2 fun σ3 H3=>tt σ3 H3 fun c H4=>
  if c=true then te σ3 H4 fun y H5=>∃ys,H5 p=some (.lst ys)/\ys.length < aB/\N σ3 (upd H5 p (.lst (ys++[y]))) else N σ3 H4)
def Yd(own:List Str)(fr:List Nat)(wi:TI)(g:TG)(tt:TT)(te:TE):TE:=fun σ H Q=>wi σ H fun J H1=>∀p,H1 p=none->KY J p g tt te Q (jcy own fr σ) (upd H1 p (.lst []))
theorem jed{own:List Str}{fr:List Nat}{bU tg iter:ag}{ifs:List ag}{wi:TI}{g:TG}{tt:TT}{te:TE}{use:Option (ac->Sem Unit)}(hc:X.calm=true)(O:CompOk X scope fr)(hi:PI X tg iter wi)
  (hb:∀s H ex,PG (blk X scope own fr s H ex) tg g/\PTs (blk X scope own fr s H ex) ifs tt/\PE (blk X scope own fr s H ex) bU te)
  (hs:∀x,gV iter X.env x=pure x) {ab:List (aa×Obj)} {s:ae} {σ:St} {H:Hp} {Q:VK} {R:ac->ae->Prop} (I:Inv X ab σ H s) (h:Yd own fr wi g tt te σ H Q) (hx:∀e s',X.xe e s'↔False)
  (fin:∀(p C:aa) (H':Hp) (s':ae) (m:Str->Option ac),s'.heap.Ns C m->H' C=none->C≠X.env.locals->(∀x c,X.env.cells.lookup x=some c->c≠C)->Inv X ab σ H' s'->(∀h',df C s'.heap h'->Inv X ab σ H' { s' with heap:=h' })->Q (.ref p) H'->
   rg (aj X.prog X.w) X.A X.xe use R (.ref p) C (.ok .next) s') :
  af (aj X.prog X.w) X.A (comprehension (.ListComp bU [⟨tg,iter,ifs,0⟩] scope pos) scope X.env (xf [⟨tg,iter,ifs,0⟩] pos) (w_ []) false (eval iter X.env) use) R X.xe s:=by
 have da:∀x∈scope.names,x.2=.free->(X.env.cells.lookup x.1).isSome=true:=fun x cg e=>by
  obtain⟨c,hc⟩:=I.ok.has x.1 (O.frees x cg e);rw[hc];rfl
 have no:∀(E:ac->ae->Prop) (x:ac) (s':ae),X.xe x s'->E x s':=fun E x s' z=>((hx x s').mp z).elim
 refine DG (cl:=zW X.env.cells scope.names []) rfl hs (yT da) O.kind O.loc ?_
 refine thn (hi ab s σ H _ I h) fun v s1 h1=>thn h1 fun oP s2 h2=>?_
 obtain⟨it,fp,tn,J,H2,e,I2,T,eX,f2,q2⟩:=h2
 subst e
 refine dG ?_
 have nw:H2 s2.heap.objs.size=none:=I2.fresh
 obtain⟨W,⟨m0,w0⟩,eL⟩:=q2 _ nw
 generalize hp:s2.heap.objs.size=p at *
 have I3:Inv X ab σ (upd H2 p (.lst [])) { s2 with heap:=s2.heap.push { cls:=.type "list",dict:=none,data:=.seq ([]:List ac).toArray } }:=by
  have:=I2.lnew (ys:=[]) (its:=[]) (t':=s2.toks) .nil (bE _);rw[hp]at this;exact this
 have iQ:∀b∈fp,b < s2.heap.objs.size:=fun b hb=>by
  obtain⟨o,ho,_⟩:=T.obj _ _ eX b hb;exact aI ho
 have i7:∀b∈fp,(upd H2 p (.lst [])) b=none:=fun b hb=>by
  rw[jl (by rw[<- hp];exact aN (iQ b hb))];exact (f2 b hb).1
 generalize hs3:({ s2 with heap:=s2.heap.push { cls:=.type "list",dict:=none,data:=.seq ([]:List ac).toArray } }:ae)=s3 at *
 have oo:s3.heap.objs.size=p+1:=by
  rw[<- hs3];show (s2.heap.push _).objs.size=_;rw[dU,hp]
 have st3:tn 0 s3.heap:=T.keep 0 _ _ eX fun b hb o e=>by
  rw[<- hs3];exact aF _ e
 refine DB O.nocell (by intro y hy;simp at hy) (fun h4 iY o0=>?_) O.kind
 have k4:∀b o,s3.heap.get? b=some o->h4.get? b=some o:=fun b o e=>o0.extBut b o (aN (aI e)) (aF _ e)
 have pb:h4.Ns s3.heap.objs.size fun _=>none:=by
  have z:(fun x:Str=>([]:List (Str×ac)).reverse.lookup x)=fun _=>none:=by funext x;rfl
  rw[z]at iY;exact iY
 have fo:∀b∈fp,Jm X ab (upd H2 p (.lst [])) b/\b < s3.heap.objs.size:=fun b hb=>⟨⟨i7 b hb,(f2 b hb).2⟩,by rw[oo,<- hp];exact t8 (iQ b hb)⟩
 have I4:=Y6 (own:=own) (fr:=fr) (t1:=s3.toks+([]:List (Str×ac)).length) I3 O fo pb k4
 have dA:tn 0 h4:=T.keep 0 _ _ st3 fun b hb o e=>k4 b o e
 obtain⟨hg,ht,he⟩:=hb s3 (upd H2 p (.lst [])) fp
 have cF:∀{H':Hp} {pn:List (aa×Obj)} {s':ae} {σ':St},Inv (blk X scope own fr s3 (upd H2 p (.lst [])) fp) [] σ' H' s'->(∀b∈fp,H' b=none)->∀b∈fp,Jm (blk X scope own fr s3 (upd H2 p (.lst [])) fp) [] H' b:=fun {H' pn s' σ'} J hn b aW=>
  ⟨hn b aW,(J.ok.exf b aW).1,J.ok.exfs b aW,.inl aW,(J.ok.exf b aW).2,fun p hp=>absurd hp (by simp[blk])⟩
 have oJ:∀x c,X.env.cells.lookup x=some c->c≠s3.heap.objs.size:=fun x c e=>by
  obtain⟨v,q⟩:=I3.cell x c e;exact aN q.lt
 have loop:∀s5:ae,s5={ s3 with heap:=h4,toks:=s3.toks+([]:List (Str×ac)).length }->
   dR (aj X.prog X.w) X.A (.compLoop (.ListComp bU [⟨tg,iter,ifs,0⟩] scope pos) 0 (.ref it) (.ref p) (blk X scope own fr s3 (upd H2 p (.lst [])) fp).env) (rg (aj X.prog X.w) X.A X.xe use R (.ref p) s3.heap.objs.size) s5:=by
  rintro s5 rfl
  refine Jh (fun n s'=>∃i σ' H',Inv (blk X scope own fr s3 (upd H2 p (.lst [])) fp) [] σ' H' s'/\tn i s'.heap/\(∀b∈fp,H' b=none)/\W i n σ' H') ?_ m0 ⟨0,_,_,I4,dA,i7,w0⟩
  rintro n s6 ⟨i,σ6,H6,I6,iK,i6,w6⟩
  rcases eL i n σ6 H6 w6 with⟨stop,qn⟩ | ⟨go,N,hN,step⟩
  .refine thn (T.done (blk X scope own fr s3 (upd H2 p (.lst [])) fp) rfl rfl rfl hc i [] s6 σ6 H6 _ I6 (cF (pn:=[]) I6 i6) iK stop) fun r s7 ⟨hr,I7⟩=>?_
   subst hr
   obtain⟨m,hm,_⟩:=I7.loc
   exact fin p _ H6 s7 m hm I7.free (gZ I3.lt) oJ (zF I3 fo I7 (xx ..)) (fun h' eN=>zF I3 fo I7 eN) qn
  .refine thn (T.item (blk X scope own fr s3 (upd H2 p (.lst [])) fp) rfl rfl rfl hc i [] s6 σ6 H6 _ I6 (cF (pn:=[]) I6 i6) iK go) fun r s7 ⟨u,hr,h7⟩=>?_
   subst hr
   refine thn h7 fun _ s8 hM=>?_
   obtain⟨x,H8,I8,r8,y8,fN,pR⟩:=hM
   have pY:=I8.pinned (cF (pn:=[]) I8 pR) (T.obj _ _ fN)
   refine thn (hg _ s8 σ6 H8 x u _ pY r8 (step x H8 y8)) fun _ s9 hM=>?_
   obtain⟨σ9,H9,I9,q9⟩:=hM
   refine thn (ht _ s9 σ9 H9 _ I9 q9) fun ok gH hM=>?_
   obtain⟨pZ,i9,d_⟩:=hM
   have again:∀{cO:Hp} {cI:ae},Inv (blk X scope own fr s3 (upd H2 p (.lst [])) fp) ([]++zL fp s8.heap) σ9 cO cI->(∃m',m' < n/\W (i+1) m' σ9 cO)->
     ∃m,m < n/\∃i σ' H',Inv (blk X scope own fr s3 (upd H2 p (.lst [])) fp) [] σ' H' cI/\tn i cI.heap/\(∀b∈fp,H' b=none)/\W i m σ' H':=fun {cO cI} dy ⟨m',hm,og⟩=>by
    refine⟨m',hm,i+1,σ9,cO,dy.unpinned,T.keep _ _ _ fN fun b aW o e=>(dy.pin (b,o) (cE _ (cE _ (kX aW e)))).1,fun b aW=>?_,og⟩
    obtain⟨o,e,d⟩:=T.obj _ _ fN b aW
    exact (dy.pin (b,o) (cE _ (cE _ (kX aW e)))).2.1
   cases ok with
   | false=>
    rw[Qf bB]at d_ |-
    exact again i9 (hN _ _ d_)
   | true=>
    rw[Qg rfl]at d_ |-
    refine thn (he _ gH σ9 pZ _ i9 d_) fun yv cI hM=>?_
    obtain⟨y,cO,dy,oC,ys,c_,bd,oF⟩:=hM
    have ap:=kR (X:=blk X scope own fr s3 (upd H2 p (.lst [])) fp) ([]++zL fp s8.heap) cI σ9 cO (.ref p) [y] (.ref p) [yv] (fun _ nG=>∃m',m' < n/\W (i+1) m' σ9 nG) dy rfl (.cons oC .nil) ⟨p,ys,y,rfl,rfl,c_,bd,hN _ _ oF⟩
    exact thn ap fun _ bc ⟨_,nG,nF,_,oE⟩=>again nF oE
 refine ND (loop _ rfl) (T.self X.A 0 _ _ _ dA (loop _ rfl))
theorem qu{X:Cx}{scope:b_}{bU tg iter:ag}{ifs:List ag}{pos:Pos}{wi:TI}{g:TG}{tt:TT}{te:TE}(own:List Str)(fr:List Nat)(hc:X.calm=true)(O:CompOk X scope fr)(hi:PI X.nox tg iter wi)
  (hb:∀s H ex,PG (blk X.nox scope own fr s H ex) tg g/\PTs (blk X.nox scope own fr s H ex) ifs tt/\PE (blk X.nox scope own fr s H ex) bU te)
  (hs:∀x,gV iter X.env x=pure x:=by intro _;rfl):PE X.nox (.ListComp bU [⟨tg,iter,ifs,0⟩] scope pos) (Yd own fr wi g tt te):=by
 intro ab s σ H Q I h
 rw[eval_ListComp]
 refine jed (X:=X.nox) (use:=none) (Q:=Q) hc ⟨O.kind,O.nocell,O.loc,O.frees,O.fr⟩ hi hb hs I h (fun _ _=>Iff.rfl) fun p C H' s' m hm hC _ _ I' tz q=>?_
 exact⟨m,hm,fun h' eN=>⟨.ref p,H',tz h' eN,rfl,q⟩⟩
section
variable {p:aa}{g:TG}{tt:TT}{te:TE}{σ:St}{Q:VK}
theorem Ze(J:It)(n:Nat)(Pv:Nat->St->Hp->Prop)(h0:Pv 0 σ H)(stop:∀σ' H',Pv n σ' H'->J.stop n H')(go:∀i σ' H',i < n->Pv i σ' H'->J.go i H')
  (hs:∀i σ' H',i < n->Pv i σ' H'->∀x H2,J.yld i H' x H2->g x σ' H2 fun σ3 H3=>tt σ3 H3 fun c H4=>if c=true then te σ3 H4 fun y H5=>∃ys,H5 p=some (.lst ys)/\ys.length < aB/\Pv (i+1) σ3 (upd H5 p (.lst (ys++[y]))) else Pv (i+1) σ3 H4)
  (hd:∀σ' H',Pv n σ' H'->Q (.ref p) H'):KY J p g tt te Q σ H:=by
 refine⟨fun i m σ H=>m=n - i/\i<=n/\Pv i σ H,⟨n,by simp,bE _,h0⟩,?_⟩
 rintro i m σ1 H1 ⟨rfl,hi,pv⟩
 by_cases aG:i < n
 .exact .inr ⟨go i σ1 H1 aG pv,Pv (i+1),fun σ3 H3 q=>⟨n - (i+1),by omega,rfl,aG,q⟩,hs i σ1 H1 aG pv⟩
 .have e:i=n:=by omega
  subst e
  exact .inl ⟨stop σ1 H1 pv,hd σ1 H1 pv⟩
theorem yS{lo:Int}(Pv:Nat->St->Hp->Prop)(h0:Pv 0 σ H)
  (hs:∀i σ' H',i < n->Pv i σ' H'->g (.int (lo+i)) σ' H' fun σ3 H3=>tt σ3 H3 fun c H4=>if c=true then te σ3 H4 fun y H5=>∃ys,H5 p=some (.lst ys)/\ys.length < aB/\Pv (i+1) σ3 (upd H5 p (.lst (ys++[y]))) else Pv (i+1) σ3 H4)
  (hd:∀σ' H',Pv n σ' H'->Q (.ref p) H'):KY (Itr lo n) p g tt te Q σ H:=
 Ze (Itr lo n) n Pv h0 (fun _ _ _=>ay _) (fun i _ _ h _=>h) (fun i σ' H' h pv x H2 y=>by
  obtain⟨e1,e2⟩:=y;subst e1 e2;exact hs i σ' _ h pv) hd
theorem zC(Pv:Nat->St->Hp->Prop)(h0:Pv 0 σ H)(hl:∀i σ' H',i<=xs.length->Pv i σ' H'->SqT K H' a xs)
  (hs:∀i x σ' H',xs[i]?=some x->Pv i σ' H'->g x σ' H' fun σ3 H3=>tt σ3 H3 fun c H4=>if c=true then te σ3 H4 fun y H5=>∃ys,H5 p=some (.lst ys)/\ys.length < aB/\Pv (i+1) σ3 (upd H5 p (.lst (ys++[y]))) else Pv (i+1) σ3 H4)
  (hd:∀σ' H',Pv xs.length σ' H'->Q (.ref p) H'):KY (Itt K a) p g tt te Q σ H:=
 Ze (Itt K a) xs.length Pv h0 (fun σ' H' pv=>⟨xs,hl _ σ' H' (ay _) pv,ay _⟩) (fun i σ' H' h pv=>⟨xs,xs[i],hl i σ' H' (cQ h) pv,by simp[h]⟩) (fun i σ' H' h pv x H2 y=>by
  obtain⟨e1,e2⟩:=y;subst e1;exact hs i x σ' _ (e2 xs (hl i σ' _ (cQ h) pv)) pv) hd
theorem qh(Pv:Nat->St->Hp->Prop)(h0:Pv 0 σ H)(hl:∀i σ' H',i<=xs.length->Pv i σ' H'->SqL K H' a xs)
  (hs:∀i x σ' H',xs[i]?=some x->Pv i σ' H'->g x σ' H' fun σ3 H3=>tt σ3 H3 fun c H4=>if c=true then te σ3 H4 fun y H5=>∃ys,H5 p=some (.lst ys)/\ys.length < aB/\Pv (i+1) σ3 (upd H5 p (.lst (ys++[y]))) else Pv (i+1) σ3 H4)
  (hd:∀σ' H',Pv xs.length σ' H'->Q (.ref p) H'):KY (Itl K a) p g tt te Q σ H:=
 Ze (Itl K a) xs.length Pv h0 (fun σ' H' pv=>⟨xs,hl _ σ' H' (ay _) pv,ay _⟩) (fun i σ' H' h pv=>⟨xs,xs[i],hl i σ' H' (cQ h) pv,by simp[h]⟩) (fun i σ' H' h pv x H2 y=>by
  obtain⟨e1,e2⟩:=y;subst e1;exact hs i x σ' _ (e2 xs (hl i σ' _ (cQ h) pv)) pv) hd
end
inductive D where
 | int (i:Int) | str (x:Str) | tup (ds:List D)
mutual
def Held(H:Hp):D->V->Prop
 | .int i,v=>v=.int i
 | .str x,v=>v=.str x
 | .tup ds,v=>∃a xs,v=.ref a/\H a=some (.tup xs)/\HeldL H ds xs
def HeldL(H:Hp):List D->List V->Prop
 | [],vs=>vs=[]
 | d :: ds,vs=>∃v r,vs=v :: r/\Held H d v/\HeldL H ds r
end
mutual
theorem Held.mono{H H':Hp}(e:Same H H'):∀{d:D} {v:V},Held H d v->Held H' d v
 | .int i,v,h=>by unfold Held at h |-;exact h
 | .str x,v,h=>by unfold Held at h |-;exact h
 | .tup ds,v,h=>by
  unfold Held at h |-;obtain⟨a,xs,e1,e2,e3⟩:=h;exact⟨a,xs,e1,e a _ e2,HeldL.mono e e3⟩
theorem HeldL.mono{H H':Hp}(e:Same H H'):∀{ds:List D} {vs:List V},HeldL H ds vs->HeldL H' ds vs
 | [],vs,h=>by unfold HeldL at h |-;exact h
 | d :: ds,vs,h=>by
  unfold HeldL at h |-;obtain⟨v,r,e1,e2,e3⟩:=h;exact⟨v,r,e1,Held.mono e e2,HeldL.mono e e3⟩
end
theorem jT{i:Int}:Held H (.int i) (.int i):=by unfold Held;rfl
theorem jy:Held H (.str x) (.str x):=by unfold Held;rfl
theorem jv{ds:List D}(e:H a=some (.tup xs))(h:HeldL H ds xs):Held H (.tup ds) (.ref a):=by unfold Held;exact⟨a,xs,rfl,e,h⟩
theorem jp:HeldL H [] []:=by unfold HeldL;rfl
theorem jc{d:D}{ds:List D}{v:V}{r:List V}(h:Held H d v)(t:HeldL H ds r):HeldL H (d :: ds) (v :: r):=by unfold HeldL;exact⟨v,r,rfl,h,t⟩
theorem HeldL.length{H:Hp}:∀{ds:List D} {vs:List V},HeldL H ds vs->ds.length=vs.length
 | [],vs,h=>by unfold HeldL at h;subst h;rfl
 | d :: ds,vs,h=>by
  unfold HeldL at h;obtain⟨v,r,e1,_,e3⟩:=h;subst e1;rw[bi,bi,HeldL.length e3]
theorem HeldL.get{H:Hp}:∀{ds:List D} {vs:List V} {j:Nat} {d:D},HeldL H ds vs->ds[j]?=some d->∃v,vs[j]?=some v/\Held H d v
 | [],_,_,_,_,e=>by simp at e
 | d :: ds,vs,0,d',h,e=>by
  unfold HeldL at h;obtain⟨v,r,e1,e2,e3⟩:=h;simp at e;subst e e1;exact⟨v,rfl,e2⟩
 | d :: ds,vs,j+1,d',h,e=>by
  unfold HeldL at h;obtain⟨v,r,e1,e2,e3⟩:=h;subst e1;obtain⟨w,h1,h2⟩:=HeldL.get (j:=j) (d:=d') e3 (by simpa using e);exact⟨w,by simpa using h1,h2⟩
mutual
def D.depth:D->Nat
 | .int _=>0
 | .str _=>0
 | .tup ds=>D.depthL ds+1
def D.depthL:List D->Nat
 | []=>0
 | d :: ds=>max (D.depth d) (D.depthL ds)
end
theorem D.depthL_get:∀{ds:List D} {j:Nat} {d:D},ds[j]?=some d->d.depth<=D.depthL ds
 | [],_,_,e=>by simp at e
 | d :: ds,0,d',e=>by simp at e;subst e;unfold D.depthL;exact Nat.le_max_left _ _
 | d :: ds,j+1,d',e=>by unfold D.depthL;exact aZ (D.depthL_get (j:=j) (by simpa using e)) (Nat.le_max_right _ _)
theorem jS:OpR X (eD .FloorDiv) (rI (fun _ j=>0 < j/\j < 2 ^ 200) fun i j=>.int (i / j)):=opI fun i j _ _ _ _ _ hc q=>by
 refine floordiv_int (by omega) ?_ (.inl (PyProof.noPylong_of_log2 ?_))
 .rw[Int.fdiv_eq_ediv_of_nonneg _ (by omega)]
  exact q
 .have h0:j.natAbs≠0:=by omega
  exact lj ((Nat.log2_lt h0).mpr (show j.natAbs < 2 ^ 200 by omega)) (by decide)
theorem jef(hc:X.calm=true):qd X (.builtin "all") (fun xs H Q=>∃(p:aa) (ys:List Bool),xs=[.ref p]/\SqL X.K H p (ys.map V.bl)/\Q (.bl (ys.all id)) H):=by
 intro ab s σ H xs us Q I r h;obtain⟨p,ys,rfl,hq,q⟩:=h;obtain⟨u,rfl,ru⟩:=qZ r
 cases ru
 obtain⟨its,rv,hp,hz⟩:=I.list hq;refine call_all_walk (wT hp.isList ?_);have bp:p≠s.heap.objs.size:=by
  obtain⟨o,ho,_⟩:=hp.isList;exact aN (aI ho)
 have hl:=rv.length;rw[am]at hl;refine⟨_,_,_,_,_,_,fun i=>ys.getD i false,rfl,Walks.list (A:=X.A.in1) (show X.A.in1.handled=none from I.ok.hd hc) s.heap.objs.size p bp its.toArray,⟨⟨_,bz _ rfl,rfl,rfl⟩,hp.isList.at fun o e=>aF _ e⟩,?_,?_⟩
 .intro i v s1 Q1 E1 hv m8
  have fc:its[i]?=some v:=by simpa using hv
  have hi:i < its.length:=(aV.mp fc).1;have ey:(ys.map V.bl)[i]?=some (.bl (ys[i]'(by omega+splitNatSub))):=by rw[bA,aC (by omega)];rfl
  obtain⟨w,hw,dL⟩:=rv.get ey;rw[fc]at hw;cases hw
  cases dL
  have:ys.getD i false=ys[i]'(by omega+splitNatSub):=by rw[eK,aC (by omega)];rfl
  have gL:Q1 (ys.getD i false) s1:=m8;rw[this]at gL;exact nQ gL
 .intro h' tk hk
  have e:((bm its.toArray.size).all fun i=>ys.getD i false)=ys.all id:=by
   have el:its.toArray.size=ys.length:=by simp;omega
   rw[el];apply mL.mpr;rw[lA,lA];constructor
   .intro h x hx
    obtain⟨i,hi,rfl⟩:=di.mp hx;have:=h i (iI.mpr hi);rw[eK,aC hi]at this;exact this
   .intro h i hi
    have hi:=iI.mp hi;rw[eK,aC hi];exact h _ (eW hi)
  rw[e];exact⟨.bl (ys.all id),H,I.kept (t':=tk) fun b o e=>hk b o (by simp;exact aN (aI e)) (aF _ e),rfl,q⟩
theorem jad:qd X (.builtin "isinstance") (fun xs H Q=>∃x t T b,xs=[x,.ty T]/\TyOf X.K H x t/\NQ X.K t (.type T)=some b/\Q (.bl b) H):=by
 intro ab s σ H xs us Q I r h;obtain⟨x,t,T,b,rfl,ty,e,q⟩:=h;obtain⟨u,v,rfl,ru,rv⟩:=ja5 r
 cases rv
 exact jcd I ru ty e fun tk=>⟨.bl b,H,I.tok _,rfl,q⟩
def qa:ag->Bool
 | .Starred _ _=>false
 | _=>true
theorem zb{e:ag}(h:qa e=true)(kh:List ag)(env:Env):bo (e :: kh) env=(false,eval e env) :: bo kh env:=by
 cases e <;> first | rfl | cases h
theorem Jq(pos:Pos)(env:Env):∀es:List ag,es.all qa=true->(eE pos (bo es env)).any (·.1)=false
 | [],_=>rfl
 | e :: es,h=>by
  rw[uh,gB]at h;rw[zb h.1];have ih:=Jq pos env es h.2;show (false || (eE pos (bo es env)).any (·.1))=false;rw[ih];rfl
theorem jk{X:Cx}{e:ag}{es:List ag}{te:TE}{t:TA}(ha:PE X e te)(hr:PA X es t)(hp:qa e=true:=by rfl):PA X (e :: es) (ja9 te t):=jeW ha hr (zb hp es X.env)
theorem qP{X:Cx}{x:Str}{p pos:Pos}{e:ag}{es:List ag}{t:TA}{id:String}{r:List V->Hp->VK->Prop}(hc:qd X (.builtin id) r)(hg:Gl X x)(hm:X.mg x=none)(hv:bS x=some (.builtin id))(ha:PA X (e :: es) t)(hp:(e :: es).all qa=true:=by rfl)(hn:x≠"__name__":=by decide)(fY:(x == ("__debug__" : Str))=false:=by decide):
  PE X (.Call (.Name x p) (e :: es) [] pos) (tCB r t):=by
 rw[uh,gB]at hp
 exact jdu hc hg hm hv ha hn fY (zb hp.1 es X.env) (Jq pos X.env es hp.2)
theorem zw{X:Cx}{x:Str}{p pos:Pos}{e:ag}{es:List ag}{t:TA}{T:String}{r:List V->Hp->VK->Prop}(hc:qd X (.type T) r)(hg:Gl X x)(hm:X.mg x=none)(hv:bS x=some (.type T))(ha:PA X (e :: es) t)(hp:(e :: es).all qa=true:=by rfl)(hn:x≠"__name__":=by decide)(fY:(x == ("__debug__" : Str))=false:=by decide):
  PE X (.Call (.Name x p) (e :: es) [] pos) (tCB r t):=by
 rw[uh,gB]at hp
 exact jbU hc hg hm hv ha hn fY (zb hp.1 es X.env) (Jq pos X.env es hp.2)
structure Fn(P:av)(w:ar)(K:ai)(mg:Str->Option ac)(base:aq)(k:Nat)(x:Str)(ps:List Str)(sp:Sp):Prop where
 ex:∃f fd,FnOk P w K mg base CX0 k f fd ps sp/\Binds K fd ps []/\gX K (.ref f)=true/\mg x=some (.ref f)
theorem jV{X:Cx}{k k':Nat}{x:Str}{ps:List Str}{sp:Sp}{e:ag}{es:List ag}{t:TA}{p pos:Pos}(F:Fn X.prog X.w X.K X.mg X.base k x ps sp)(hr:Room k' X.A)(ha:PA X (e :: es) t)(hk:k<=k':=by decide)(hg:Gl X x:=by rfl)
  (hd:(x == ("__debug__" : Str))=false:=by decide) (hp:(e :: es).all qa=true:=by rfl):PE X (.Call (.Name x p) (e :: es) [] pos) (jc2 sp [] E0 t):=by
 obtain⟨f,fd,G,b,kp,m⟩:=F.ex
 rw[uh,gB]at hp
 exact jeU G (hr.mono hk) hg m kp b .nil jfK ha hd (zb hp.1 es X.env) (Jq pos X.env es hp.2)
theorem Fn.mk'{P:av}{base:aq}{k:Nat}(F:Fun K x x st f fd)(b:Binds K fd ps [])(m:mg x=some (.ref f))(G:FnOk P w K mg base CX0 k f fd ps sp):Fn P w K mg base k x ps sp:=⟨f,fd,G,b,F.kp,m⟩
theorem kz{fr:List Nat}{sc:b_}{N:List Str}(h1:X.env.scope=sc)(h2:X.N=N) (h:scope.kind=.function/\(∀y∈scope.names,y.2≠.cell)/\(∀y∈scope.names,y.2=.local->scope.names.lookup y.1=some .local)/\
  (∀y∈scope.names,y.2=.free->sc.names.lookup y.1=some .cell\/sc.names.lookup y.1=some .free)/\∀j∈fr,scope.names.lookup (N.getD j (aM ""))=some .free):CompOk X scope fr:=by
 obtain⟨a,b,c,d,e⟩:=h
 exact⟨a,b,c,by rw[h1];exact d,by rw[h2];exact e⟩
theorem zi:bS "len" = some (.builtin "len"):=by decide +kernel
theorem jeh:bS "max" = some (.builtin "max"):=by decide +kernel
theorem jgD:bS "min" = some (.builtin "min"):=by decide +kernel
theorem jgE:bS "all" = some (.builtin "all"):=by decide +kernel
theorem K8:bS "isinstance" = some (.builtin "isinstance"):=by decide +kernel
theorem qW:bS "sorted" = some (.builtin "sorted"):=by decide +kernel
theorem KO:bS "int" = some (.type "int"):=by decide +kernel
theorem ym:bS "tuple" = some (.type "tuple"):=by decide +kernel
theorem Jj:bS "list" = some (.type "list"):=by decide +kernel
theorem jby:bS "dict" = some (.type "dict"):=by decide +kernel
theorem ja0:bS "set" = some (.type "set"):=by decide +kernel
structure Free0(mg:Str->Option ac):Prop where
 len_:mg "len" = none
 max_:mg "max" = none
 min_:mg "min" = none
 all_:mg "all" = none
 isinstance_:mg "isinstance" = none
 abs_:mg "abs" = none
 sorted_:mg "sorted" = none
 int_:mg "int" = none
 str_:mg "str" = none
 bool_:mg "bool" = none
 tuple_:mg "tuple" = none
 list_:mg "list" = none
 dict_:mg "dict" = none
 range_:mg "range" = none
 set_:mg "set" = none
theorem ZT(h:X.K=K:=by rfl):IxR X (jg3 K):=by subst h;exact jG
theorem Jf(h:X.K=K:=by rfl):IxR X (jg2 K):=by subst h;exact jq
theorem Jc{pos:Pos}{es:List ag}{k:Nat}{t:TGs}(hc:X.calm=true)(h:PGs X es t)(hK:X.K=K:=by rfl)
  (hn:(fG es X.env).length=n:=by rfl) (bv:(fG es X.env).findIdx? (·.1)=none:=by rfl):PG X (.Tuple es k pos) (jgz K n t):=by subst hK;exact qA hc h hn bv
structure QS(X:Cx)(st:au)(t:TS):Prop where
 h:PS X st t
structure QSs(X:Cx)(st:List au)(t:TS):Prop where
 h:PSs X st t
theorem qs{t:TS}(h:PS X st t):QS X st t:=⟨h⟩
theorem qK{kh:List au}{t u:TS}(h1:QS X st t)(h2:QSs X kh u):QSs X (st :: kh) (jfV t u):=⟨jm h1.h h2.h⟩
theorem jeG{t:TS}(h1:QS X st t):QSs X [st] t:=⟨js h1.h⟩
theorem Same.sqT(e:Same H H')(h:SqT K H a xs):SqT K H' a xs:=by
 rcases h with (h | ⟨o,h⟩) | h
 .exact .inl (.inl (e _ _ h))
 .exact .inl (.inr ⟨o,e _ _ h⟩)
 .exact .inr h
theorem yi:∀{ns:List Int} {its:List ac},Vals (ns.map V.int) its->IntsAre its ns
 | [],_,r=>by cases r;exact .nil
 | n :: ns,_,r=>by
  cases r with
  | cons h r=>
   obtain⟨t,rfl⟩:=h;exact .cons n t (yi r)
theorem jaL:64<=(aB:Nat):=by rw[gr];decide
theorem zD:qd X (.builtin "sorted") (fun xs H Q=>∃(p:aa) (ns:List Int),xs=[.ref p]/\SqL X.K H p (ns.map V.int)/\ns.length < 64/\∀(l:aa) (lH:List Int),H l=none->lH.Perm ns->lH.Pairwise (·<=·)->Q (.ref l) (upd H l (.lst (lH.map V.int)))):=by
 intro ab s σ H xs us Q I r h;obtain⟨p,ns,rfl,hq,wb,q⟩:=h;obtain⟨u,rfl,rx⟩:=qZ r
 cases rx
 obtain⟨its,rv,pl,hz⟩:=I.list hq;have hl:=rv.length;rw[am]at hl;refine sorted_ints pl.isList (yi rv) (by omega) fun out lH a1 a2 a3=>?_
 obtain⟨e,he⟩:=sortedAll_at s.heap its out;have hp:=a2.length_eq;refine⟨.ref (s.heap.objs.size+1),_,I.laid (t':=s.toks) (fun b o=>sortedAll_old) (dX _) (show ObjOk X.prog X.w _ _ _ (.lst (lH.map V.int)) from⟨?_,out.toList,e,yt a1,?_⟩),rfl,q _ _ (I.hok.fresh (dX _)) a2 a3⟩
 .rw[am]
  exact aZ (by omega) jaL
 .rw[P_]
  exact he
theorem JI:OpR X (eD .Add) (fun x y H Q=>∃a b xs ys,x=.ref a/\y=.ref b/\SqL X.K H a xs/\SqL X.K H b ys/\xs.length+ys.length<=aB/\∀l,H l=none->Q (.ref l) (upd H l (.lst (xs++ys)))):=by
 intro ab s σ H x y v u Q I rx ry h;obtain⟨a,b,xs,ys,rfl,rfl,ha,hb,hz,q⟩:=h
 cases rx;cases ry
 obtain⟨its,rv,⟨⟨c1,d1,t1,l1⟩,n1,o1,z1,z2,z3⟩,eh⟩:=I.list ha;obtain⟨aK,As,⟨⟨c2,d2,t2,l2⟩,n2,o2,y1,y2,y3⟩,e_⟩:=I.list hb;simp only at z1 z2 z3 y1 y2 y3;subst z1 z2 z3 y1 y2 y3;have h1:=rv.length;have h2:=As.length;refine xh ⟨_,o1,rfl⟩ ⟨_,o2,rfl⟩ noFill_list_add seq_list_add PySem.F.slot_list_add PySem.F.entry_list_add (PySem.F.args_list_add_2 _ _)
  (list_addW a b its.toArray aK.toArray n1 n2 none none l1 l2 (by simp only[bP];omega)) ⟨o1,o2,?_⟩
 have e:its.toArray++aK.toArray=(its++aK).toArray:=by simp
 rw[e];refine⟨.ref s.heap.objs.size,_,I.laid (t':=s.toks) (fun b u hb=>aF _ hb) (ay _) (show ObjOk X.prog X.w _ _ _ (.lst (xs++ys)) from⟨?_,its++aK,0,rv.append As,bz _ rfl⟩),rfl,q _ (I.hok.fresh (ay _))⟩;rw[aP];exact hz
open PySem PySem.Spec PyProof.Rows PySem.W
def OkP(N:Nat)(p:Array Nat):Prop:=p.toList.Perm (bm N)
theorem OkP.size{N:Nat}{p:Array Nat}(h:OkP N p):p.size=N:=by
 have:=h.length_eq;rw[lu]at this;simpa using this
def PairAt(h:aq)(v:ac)(q:Int×Int):Prop:=∃(c:aa) (o:Obj) (t u:Tok) (k:Nat),v=.ref c/\h.get? c=some o/\o.cls=.type "tuple"/\o.data=.seq #[.int q.1 t,.int q.2 u] k
theorem PairAt.kept{h h':aq}{v:ac}{q:Int×Int}(x:PairAt h v q)(k:∀b o,h.get? b=some o->o.cls=.type "tuple"->h'.get? b=some o):PairAt h' v q:=by
 obtain⟨c,o,t,u,n,e1,e2,e3,e4⟩:=x;exact⟨c,o,t,u,n,e1,k c o e2 e3,e3,e4⟩
section
variable {prog:av}{E:ac->ae->Prop}
theorem jcz{vs:List ac}{ps:List (Int×Int)}(hl:vs.length=ps.length)(hv:∀i (h:i < ps.length),PairAt s.heap (vs.getD i Value.none) ps[i])(nd:(ps.map (·.1)).Nodup){i j:Nat}{C:Bool->ae->Prop}(hi:i < ps.length)(hj:j < ps.length)
  (h:C (decide ((ps.getD i (0,0)).1 < (ps.getD j (0,0)).1)) s):kas_ask prog w A (tuples' true) vs i j C s:=by
 unfold kas_ask
 obtain⟨c,o,t,u,n,e1,e2,e3,e4⟩:=hv i hi
 obtain⟨c',o',t',u',n',f1,f2,f3,f4⟩:=hv j hj
 rw[e1,f1]
 have gi:ps.getD i (0,0)=ps[i]:=by simp[hi]
 have gj:ps.getD j (0,0)=ps[j]:=by simp[hj]
 rw[gi,gj]at h
 refine kat_lt e2 e4 f2 f4 ?_
 refine kat_cons (DF ?_)
 by_cases i4:i=j
 .subst i4
  rw[beq_self_eq_true]
  refine kat_yes (kat_cons (DF ?_))
  rw[beq_self_eq_true]
  refine kat_yes (kat_nil ?_)
  rw[Qe (P5 _)]at h
  exact h
 .have ne:ps[i].1≠ps[j].1:=by
   have pw:=ll.mp nd;rcases eJ i j with z | z
   .have:=pw i j (by simpa using hi) (by simpa using hj) z
    simpa using this
   .have:=pw j i (by simpa using hj) (by simpa using hi) (by omega)
    intro e;exact this (by simpa using e.symm)
  rw[Qh.mpr ne];exact kat_no (oneLt_int h)
theorem Km{h:aq}:∀{vs:List ac} {ps:List (Int×Int)},vs.length=ps.length->(∀i (hi:i < ps.length),PairAt h (vs.getD i Value.none) ps[i])->∃fs,KatTups h vs fs/\fs.length=ps.length/\∀v∈fs,∃x t,v=Value.int x t
 | [],[],_,_=>⟨[],KatTups.nil,rfl,fun v h=>absurd h (by simp)⟩
 | v :: vs,q :: ps,hl,hv=>by
  obtain⟨fs,h1,h2,h3⟩:=Km (vs:=vs) (ps:=ps) (by simpa using hl) fun i hi=>by
   have:=hv (i+1) (by simpa using hi);simpa using this
  obtain⟨c,o,t,u,n,e1,e2,e3,e4⟩:=hv 0 (by simp);have gp:v=.ref c:=by simpa using e1
  subst gp;refine⟨.int q.1 t :: fs,KatTups.cons e2 e3 e4 (by simp) h1,by simp[h2],fun v hv=>?_⟩;rcases bg.mp hv with rfl | hv
  .exact⟨_,_,rfl⟩
  .exact h3 v hv
 | [],_ :: _,hl,_=>by simp at hl
 | _ :: _,[],hl,_=>by simp at hl
end
def PairsL(K:ai)(H:Hp)(qs:List V)(ps:List (Int×Int)):Prop:=qs.length=ps.length/\∀i (h:i < ps.length),∃c,qs[i]?=some (.ref c)/\SqT K H c [.int ps[i].1,.int ps[i].2]
theorem PairsL.mono{qs:List V}{ps:List (Int×Int)}(e:Same H H')(h:PairsL K H qs ps):PairsL K H' qs ps:=⟨h.1,fun i hi=>by
 obtain⟨c,e1,e2⟩:=h.2 i hi;exact⟨c,e1,e.sqT e2⟩⟩
end L2
namespace PySem
open Sem (wp)
namespace F
theorem sub_attr_attr:isSubtype (.type "AttributeError") (.type "AttributeError")=pure true:=by rw[xa];kernel_rfl
end F
section
variable {prog:av}{w:ar}{A:aD}{E:ac->ae->Prop}{h:aq}{g:Array xy}{d:Drawn}{t:Nat}{os:OsState}{a:aa}{its:Array ac}{n:Nat}{sl:Array (Option ac)}
theorem ja1{α:Type}{m:Str}{Q:α->ae->Prop}(hm:m.length<=aB)(hh:A.handled=none)
   (hq:∀h' t' e,(∀b u,h.get? b=some u->h'.get? b=some u)->(∃oe,h'.get? e=some oe/\oe.cls=.type "AttributeError")->E (.ref e) ⟨h',g,d,t',os⟩) :
  af (aj prog w) A (raiseAttrError (.ref a) (aM "keys") m:Sem α) Q E ⟨h,g,d,t,os⟩:=by
 unfold raiseAttrError
 refine ad (wpAny_mkStr (ad ?_) hm)
 unfold nU w9
 refine ad (dG ?_ (by show 1<=aB;rw[gr];decide))
 refine ad (m:=tO _ _) (wV (a:=Value.none) (by kernel_rfl) ?_)
 refine dG ?_ (by size_fits)
 refine ad (wpAny_mkText ?_)
 dsimp only
 have oZ:isSubtype (.type "AttributeError") (.type "AttributeError")=pure true:=by rw[xa];kernel_rfl
 generalize hf:(#[Value.ref h.objs.size,Value.none,Value.none,Value.none,Value.bool false,Value.none]++ownMembersOf (Value.type "AttributeError") [Value.str m t])=fs
 have e1:((h.push { cls:=.type "tuple",data:=.seq #[Value.str m t] }).push { cls:=.type "AttributeError",data:=.fields fs }).get? (h.push { cls:=.type "tuple",data:=.seq #[Value.str m t] }).objs.size=some { cls:=.type "AttributeError",data:=.fields fs }:=bz _ rfl
 have bq:∀b u,h.get? b=some u->((h.push { cls:=.type "tuple",data:=.seq #[Value.str m t] }).push { cls:=.type "AttributeError",data:=.fields fs }).get? b=some u:=fun b u q=>aF _ (aF _ q)
 have FP:∀b u,h.get? b=some u->b≠(h.push { cls:=.type "tuple",data:=.seq #[Value.str m t] }).objs.size:=fun b u q=>aN (aI (aF _ q))
 generalize ((h.push { cls:=.type "tuple",data:=.seq #[Value.str m t] }).push { cls:=.type "AttributeError",data:=.fields fs })=h2 at *
 generalize (h.push { cls:=.type "tuple",data:=.seq #[Value.str m t] }).objs.size=e at *
 refine ad ?_
 have hT:(⟨h2,g,d,t+1+1,os⟩:ae).TypeIs (.ref e) "AttributeError":=⟨_,e1,rfl⟩
 unfold noteAttr
 dsimp only
 refine ad ?_
 unfold lacksNameAndObj
 dsimp only
 refine ad (mt hT oZ ?_)
 simp only[P8,g_,if_false]
 refine ad (p7 e1 ?_)
 dsimp only
 have e6:fs[6]?=some unsetMember:=by rw[<- hf];rfl
 have e7:fs[7]?=some unsetMember:=by rw[<- hf];rfl
 rw[Qf (by rw[e6,e7];decide),Qf (by rw[e6,e7];decide)]
 refine al ?_
 rw[Qg rfl]
 refine ad (gq (ad (mq hT ?_)))
 dsimp only
 unfold layMembers
 refine ad (p7 e1 ?_)
 dsimp only
 refine wpAny_update e1 ?_
 unfold re
 refine ad (DE ?_)
 rw[hh]
 refine ad (al (wS ?_))
 refine hq _ _ e (fun b u q=>?_) ⟨_,Ek _ e1 rfl,rfl⟩
 rw[xv _ _ _ _ (FP b u q)]
 exact bq b u q
end
end PySem
namespace L2
open PySem PySem.Spec PyProof.Rows PySem.W
theorem yk:xg table "dict.update.loop" = some Builtin.«dict.update.loop»:=Ny (by kernel_rfl)
theorem qq:plainId "dict.update.loop" = true:=by decide +kernel
variable {prog:av}{w:ar}{A:aD}{E:ac->ae->Prop}
section
variable {R:lb->ae->Prop}
theorem jfh{kvs:List (Key×V)}{vs:List (Key×ac)}(r:KV kvs vs):vs.map (·.1)=kvs.map (·.1):=by
 unfold KV at r;induction r with
 | nil=>rfl
 | cons h _ ih=>rw[bW,bW,ih,h.1]
theorem jfg{kvs:List (Key×V)}{vs:List (Key×ac)}{k:Key}{x:V}{v:ac}(r:KV kvs vs)(h:RelV x v):KV (kvs++[(k,x)]) (vs++[(k,v)]):=by
 unfold KV at r |-;induction r with
 | nil=>exact .cons ⟨rfl,h⟩ .nil
 | cons h' _ ih=>exact .cons h' ih
end
theorem Inv.more{X:Cx}{ab:List (aa×Obj)}{σ:St}{H H':Hp}{s:ae}{h':aq}{t':Nat}(I:Inv X ab σ H s)(k:∀b u,s.heap.get? b=some u->h'.get? b=some u)(same:Same H H')
  (new:∀b o,H b=none->H' b=some o->s.heap.objs.size<=b/\ObjOk X.prog X.w H' h' b o):Inv X ab σ H' { s with heap:=h',toks:=t' }:=by
 refine I.un ⟨fun b u q _ _ _=>k b u q,fun b u q _ _ _=>⟨u.slots,k b u q⟩,fun b u q n _=>?_,fun b u q _=>⟨u,k b u q⟩,fun b xs q=>same _ _ q,fun b u xs q=>same _ _ q,fun b ps q=>⟨#[],by rw[same _ _ q];simp⟩,fun b u _ _ q _ _=>k b u q⟩ fun b o e=>?_
 .cases e:H' b with
  | none=>rfl
  | some o=>exact absurd (aI q) (Nat.not_lt.mpr (new b o n e).1)
 .cases q:H b with
  | none=>exact (new b o q e).2
  | some u=>
   have:=same _ _ q
   rw[e]at this
   cases this
   exact (I.hok b o q).stay (fun c v _ q=>k c v q) (fun c q=>same _ _ q) fun c xs q=>same _ _ q
def pD(q:Int×Int):D:=.tup [.int q.1,.int q.2]
theorem ZU:∀(vs:List ac),(∀v∈vs,∃x t,v=.int x t)->∃ns,IntsAre vs ns
 | [],_=>⟨[],.nil⟩
 | v :: vs,h=>by
  obtain⟨x,t,rfl⟩:=h v bQ;obtain⟨ns,hn⟩:=ZU vs fun u hu=>h u (bK _ hu)
  exact⟨x :: ns,.cons x t hn⟩
abbrev Up(xs:Array Nat):Prop:=xs.toList.Pairwise (· < ·)
structure TabOk(led:Bool)(t:bt):Prop where
 led_:t.led=led
 none_:t.dummies=#[]
 up:Up t.place
variable {xs:Array Nat}{j:Nat}
theorem ja6(h:Up xs){i:Nat}(i4:i < j)(hj:j < xs.size):xs.getD i 0 < xs.getD j 0:=by
 have hi:i < xs.size:=by omega
 have:=ll.mp h i j (by simpa using hi) (by simpa using hj) i4;simpa[mM,hi,hj]using this
theorem KQ{xs:Array Nat}(h:Up xs)(j:Nat):∀(f lo hi:Nat),lo<=hi->hi<=xs.size->hi<=lo+f->(∀i,i < lo->xs.getD i 0 < j)->(∀i,hi<=i->i < xs.size->j<=xs.getD i 0)->
  (tT xs j f lo hi)<=xs.size/\(∀i,i < tT xs j f lo hi->xs.getD i 0 < j)/\∀i,tT xs j f lo hi<=i->i < xs.size->j<=xs.getD i 0
 | 0,lo,hi,h1,h2,h3,a,b=>by
  unfold tT;exact⟨by omega,a,fun i cM=>b i (by omega)⟩
 | f+1,lo,hi,h1,h2,h3,a,b=>by
  unfold tT;by_cases e:lo < hi
  .rw[Qg e]
   dsimp only;have hm:(lo+hi) / 2 < xs.size:=by omega
   have eg:xs.getD ((lo+hi) / 2) j=xs.getD ((lo+hi) / 2) 0:=by simp[mM,hm]
   rw[eg];by_cases c:xs.getD ((lo+hi) / 2) 0 < j
   .rw[Qg c]
    refine KQ h j f ((lo+hi) / 2+1) hi (by omega) h2 (by omega) (fun i cM=>?_) b;rcases eJ i ((lo+hi) / 2) with z | z
    .exact lj (ja6 h z hm) c
    .have:i=(lo+hi) / 2:=by omega
     subst this;exact c
   .rw[Qf c]
    refine KQ h j f lo ((lo+hi) / 2) (by omega) (by omega) (by omega) a fun i cM hs=>?_
    rcases eJ ((lo+hi) / 2) i with z | z
    .exact aZ (EQ c) (cQ (ja6 h z hs))
    .have:i=(lo+hi) / 2:=by omega
     subst this;exact EQ c
  .rw[Qf e]
   exact⟨by omega,a,fun i cM=>b i (by omega)⟩
theorem KP(h:Up xs)(j:Nat):ck xs j<=xs.size/\(∀i,i < ck xs j->xs.getD i 0 < j)/\∀i,ck xs j<=i->i < xs.size->j<=xs.getD i 0:=
 KQ h j xs.size 0 xs.size (bE _) (ay _) (by omega) (fun i h=>by omega) fun i h1 h2=>by omega
theorem jfm{i:Nat}(h:i < xs.size):xs[i]?=some (xs.getD i 0):=by simp[mM,h]
theorem jcf(h:Up xs)(hj:xs[ck xs j]?≠some j):Up (bt.insertAt xs (ck xs j) j):=by
 obtain⟨b1,b2,b3⟩:=KP h j;unfold Up;rw[bt.toList_insertAt];have hd:∀x∈xs.toList.drop (ck xs j),j < x:=fun x hx=>by
  obtain⟨i,hi,rfl⟩:=di.mp hx;rw[gA]at hi;rw[xW];have hs:ck xs j+i < xs.size:=by simpa using (by omega:ck xs j+i < xs.toList.length)
  have e:xs.toList[ck xs j+i]'(by simpa using hs)=xs.getD (ck xs j+i) 0:=by simp[mM,hs]
  rw[e];have ge:=b3 (ck xs j+i) (by omega) hs;rcases eJ j (xs.getD (ck xs j+i) 0) with z | z
  .exact z
  .have eq:xs.getD (ck xs j+i) 0=j:=by omega
   rcases Pj i with rfl | hp
   .exact absurd (by rw[Nat.add_zero]at eq hs;rw[jfm hs,eq]) hj
   .have:=ja6 h (i:=ck xs j) (j:=ck xs j+i) (by omega) hs
    have:=b3 (ck xs j) (ay _) (by omega);omega
 have ht:∀x∈xs.toList.take (ck xs j),x < j:=fun x hx=>by
  obtain⟨i,hi,rfl⟩:=di.mp hx;rw[a_]at hi;rw[rE];have hs:i < xs.size:=by simpa using (by omega:i < xs.toList.length)
  have e:xs.toList[i]'(by simpa using hs)=xs.getD i 0:=by simp[mM,hs]
  rw[e];exact b2 i (by omega)
 refine lm.mpr ⟨h.sublist (ER _ _),xT.mpr ⟨hd,h.sublist (PP _ _)⟩,fun x hx y hy=>?_⟩;rcases bg.mp hy with rfl | hy
 .exact ht x hx
 .exact lj (ht x hx) (hd y hy)
theorem ZD{led:Bool}{t:bt}(h:TabOk led t){hashAt:Nat->Int}{hh:Int}(bp:∀i,(hashAt i == hh)=false):∀(f:Nat) (p:Ef) (m:bt.Met),p.dummy=none->xl t hashAt hh f p=some m->∃j,m=.empty j none/\t.slot j=.empty
 | 0,p,m,_,e=>by
  unfold xl at e
  cases e
 | f+1,p,m,hd,e=>by
  unfold xl at e
  cases hs:t.slot p.j with
  | empty=>
   rw[hs]at e
   cases e
   exact⟨p.j,by rw[hd],hs⟩
  | dummy=>
   exfalso;unfold N6 at hs;dsimp only at hs;rw[h.none_]at hs;split at hs
   .cases hs
   .simp[bt.has]at hs
  | live i=>
   rw[hs]at e;dsimp only at e;rw[bp i]at e;rw[Qf bB]at e;refine ZD h bp f _ m ?_ e;unfold bt.advance;split
   .exact hd
   .exact hd
variable {led:Bool}
theorem jbr{t:bt}(h:TabOk led t){hh:Int}{d:Bool}(e:t.freeSlot hh=some (j,d)):t.place[ck t.place j]?≠some j:=by
 unfold bt.freeSlot at e
 cases hp:t.probe (fun _=>hh+1) hh (t.probeStart hh) with
 | none=>rw[hp]at e;cases e
 | some m=>
  obtain⟨j',rfl,hs⟩:=ZD h (fun _=>Qh.mpr (by omega)) _ _ m rfl (show xl t (fun _=>hh+1) hh _ _=some m from hp);rw[hp]at e
  cases e
  unfold N6 at hs;dsimp only at hs;intro z;split at hs
  .cases hs
  .next c=>
   refine c ?_;have z':t.place[ck t.place j']?=some j':=z;rw[z'];simp
theorem jcR(n:Nat):Up (Array.range n):=by
 unfold Up;rw[Array.toList_range];exact Pt
theorem y4{t:bt}(h:t.led=led)(n:Nat):TabOk led (t.standIn n):=⟨h,rfl,jcR n⟩
theorem jdi{t:bt}(h:TabOk led t)(hj:t.place[ck t.place j]?≠some j):TabOk led (t.put j).1:=by
 refine⟨h.led_,?_,jcf h.up hj⟩;unfold bt.put;dsimp only;rw[h.none_];split
 .simp[bt.eraseAt]
 .rfl
theorem jca{t:bt}(h:TabOk led t)(es:Array (Int×ac))(hh:Int)(x:ac):TabOk led (layNew t es hh x).2.1:=by
 unfold layNew;split
 .next slot d e=>
  dsimp only;unfold bt.orStandIn;split
  .exact jdi h (jbr h e)
  .exact y4 (jdi h (jbr h e)).led_ _
 .exact y4 h.led_ _
theorem jff{AI Mb F9:Nat}{plain:Bool}{B0:Array Int}{t:bt}{o:Array Nat}(h:Ee AI Mb F9 led plain B0=some (t,o)):TabOk led t:=by
 unfold Ee at h
 cases hl:bt.layClean AI B0 with
 | none=>rw[hl]at h;cases h
 | some owner=>
  rw[hl]at h
  cases h
  refine⟨rfl,rfl,?_⟩;unfold Up;dsimp only;have key:∀l:List Nat,(l.filterMap fun j=>(owner.getD j none).map (fun k=>(j,k))).map (·.1)=l.filter fun j=>(owner.getD j none).isSome:=by
   intro l;induction l with
   | nil=>rfl
   | cons a l ih=>
    rw[x9,E3]
    cases owner.getD a none with
    | none=>simpa using ih
    | some k=>
     show a :: mI _ _=_;rw[ih];rfl
  show E_ _ (mI _ _);rw[key];exact Pt.sublist PL
theorem jde{t:bt}(h:TabOk led t)(es:Array (Int×ac))(n:Nat):TabOk led (rb t es n).2.1:=by
 unfold rb;split
 .next t' o e=>
  dsimp only;split
  .have:=jff (show Ee _ _ _ _ _ _=some (t',o) from e)
   rw[h.led_]at this;exact this
  .exact y4 h.led_ _
 .exact y4 h.led_ _
theorem jbS{t:bt}(h:TabOk led t):TabOk led { t with plain:=false }:=⟨h.led_,h.none_,h.up⟩
def SetAt(prog:av)(w:ar)(h:aq)(a:aa)(led:Bool)(σ:List Int):Prop:=∃(es:Array (Int×ac)) (ep:Nat) (t:bt),
 h.get? a=some { cls:=.type "set",dict:=none,data:=.set es ep t }/\ElemsOf (intKind prog w) es.toList/\(∃l:List Int,IntsAre (es.toList.map (·.2)) l/\l.Perm σ)/\es.size < mw/\t.fits es.size=true/\TabOk led t
variable {a:aa}{σ:List Int}
theorem SetAt.kept{h h':aq}(x:SetAt prog w h a led σ)(k:∀o,h.get? a=some o->h'.get? a=some o):SetAt prog w h' a led σ:=by
 obtain⟨es,ep,t,e,r⟩:=x;exact⟨es,ep,t,k _ e,r⟩
variable {v:Int}
theorem jdX{vs:List ac}{l:List Int}(h:IntsAre vs l):v∈l↔∃t,Value.int v t∈vs:=by
 induction h with
 | nil=>simp
 | cons n t h ih=>
  constructor
  .intro hv
   rcases bg.mp hv with rfl | hv
   .exact⟨t,bQ⟩
   .obtain⟨t',ht⟩:=ih.mp hv
    exact⟨t',bK _ ht⟩
  .rintro⟨t',ht⟩
   rcases bg.mp ht with e | ht
   .cases e
    exact bQ
   .exact bK _ (ih.mpr ⟨t',ht⟩)
theorem Yr:∀{vs:List ac} {l:List Int} {v:Int} {t:Tok},IntsAre vs l->IntsAre (vs++[.int v t]) (l++[v])
 | _,_,v,t,.nil=>.cons v t .nil
 | _,_,v,t,.cons n t' h=>.cons n t' (Yr h)
theorem JB{vs fM:List ac}{l:List Int}(h:IntsAre vs l)(p:fM.Perm vs):∃l',IntsAre fM l'/\l'.Perm l:=by
 obtain⟨l',h'⟩:=ZU fM fun v hv=>by
  have:=p.mem_iff.mp hv;obtain⟨x,t,e⟩:=h.all v this;exact⟨x,t,e⟩
 refine⟨l',h',?_⟩;have e1:=h.nums;have e2:=h'.nums;rw[<- e1,<- e2];exact p.map _
section
variable {s:ae}
theorem Zy{es:Array (Int×ac)}{l:List Int}(hI:IntsAre (es.toList.map (·.2)) l):(∃j,xZ (fun e=>(intKind prog w).is v e.2) es.toList=some j)↔v∈l:=by
 rw[jdX hI];constructor
 .rintro⟨j,hj⟩
  obtain⟨aG,h1,_⟩:=E2.mp hj;obtain⟨x,t,e⟩:=hI.all es.toList[j].2 (bf.mpr ⟨_,eW aG,rfl⟩);have:v=x:=by
   rw[e]at h1;exact (intKind prog w).inj _ _ _ h1 (tN _ _ _ _)
  subst this;exact⟨t,bf.mpr ⟨_,eW aG,e⟩⟩
 .rintro⟨t,ht⟩
  obtain⟨e,he,e2⟩:=bf.mp ht
  cases hf:xZ (fun e=>(intKind prog w).is v e.2) es.toList with
  | some j=>exact⟨j,rfl⟩
  | none=>
   have:=PK.mp hf e he;rw[e2,tN]at this
   cases this
theorem Yg{es dw:Array (Int×ac)}{ep:Nat}{t t':bt}{h:aq}(ho:h.get? a=some { cls:=.type "set",dict:=none,data:=.set es ep t })
  (fX:ElemsOf (intKind prog w) dw.toList) (hl:∃l:List Int,IntsAre (dw.toList.map (·.2)) l/\l.Perm σ) (hb:dw.size < mw) (hf:t'.fits dw.size=true) (ht:TabOk led t') :
  (h.update a (tU dw t')).get? a=some { cls:=.type "set",dict:=none,data:=.set dw (ep+1) t' }/\SetAt prog w (h.update a (tU dw t')) a led σ:=by
 have hg:(h.update a (tU dw t')).get? a=some { cls:=.type "set",dict:=none,data:=.set dw (ep+1) t' }:=by
  have:=Ek (tU dw t') ho (by rw[putSet_of dw t' rfl];rfl);rw[putSet_of dw t' rfl]at this;exact this
 exact⟨hg,dw,ep+1,t',hg,fX,hl,hb,hf,ht⟩
theorem jeA{tk:Tok}{Q:Bool->ae->Prop}(hS:SetAt prog w s.heap a led σ)(A8:σ.length+1 < mw)
  (h:∀b h',df a s.heap h'->SetAt prog w h' a led (if v∈σ then σ else σ++[v])->Q b { s with heap:=h' }):af (aj prog w) A (setAddHashed a (.int v tk) ((intKind prog w).hash v)) Q E s:=by
 obtain⟨es,ep,t,ho,fX,⟨l,hI,hp⟩,hb,hf,ht⟩:=hS
 have hsz:es.size=σ.length:=by
  have h1:=hI.length;have h2:=hp.length_eq;rw[am,fL]at h1;omega
 unfold setAddHashed setAddHashedIn
 refine de (ad (gR ho rfl hf ?_))
 dsimp only
 rw[byScan_of (knd:=intKind prog w) rfl hb fX]
 simp only[↓reduceIte]
 unfold setAddByScan
 refine ad (ad (gq (ad (wpAny_setScan_of (knd:=intKind prog w) (tN _ _ _ _) ho rfl hf fX ?_))))
 cases hr:xZ (fun e=>(intKind prog w).is v e.2) es.toList with
 | some j=>
  have hv:v∈σ:=hp.mem_iff.mp ((Zy hI).mp ⟨j,hr⟩)
  dsimp only
  refine al (al ?_)
  have:=h false s.heap (xx a s.heap) (by rw[Qg hv];exact⟨es,ep,t,ho,fX,⟨l,hI,hp⟩,hb,hf,ht⟩)
  exact this
 | none=>
  have hv:¬v∈σ:=fun z=>by
   obtain⟨j,hj⟩:=(Zy (prog:=prog) (w:=w) hI).mpr (hp.mem_iff.mpr z);rw[hr]at hj
   cases hj
  rw[Qf hv]at h
  dsimp only
  have gw:∀(b:Bool) {s₁:ae} {Q':Unit->ae->Prop},Q' () s₁->af (aj prog w) A (match b with | true=>rule "set.scan.the-table-gave-way" | false=>pure ()) Q' E s₁:=fun b s₁ Q' hq=>by
   cases b
   .exact al hq
   .exact gq hq
  have p1:=layNew_perm t es ((intKind prog w).hash v) (.int v tk)
  have f1:=layNew_fits t es ((intKind prog w).hash v) (.int v tk)
  have k1:=jca ht es ((intKind prog w).hash v) (.int v tk)
  generalize layNew t es ((intKind prog w).hash v) (.int v tk)=L at p1 f1 k1 |-
  obtain⟨cA,t1,wd,gv⟩:=L
  dsimp only at p1 f1 k1 |-
  rw[Fa]at p1
  have BJ:ElemsOf (intKind prog w) cA.toList:=(fX.push (tN _ _ _ _) rfl).perm p1
  have Ce:∃l:List Int,IntsAre (cA.toList.map (·.2)) l/\l.Perm (σ++[v]):=by
   have pm:=p1.map (·.2);rw[aX]at pm;obtain⟨l',i1,i2⟩:=JB (Yr (t:=tk) hI) pm;exact⟨l',i1,i2.trans (hp.append_right _)⟩
  have sw:cA.size=es.size+1:=by
   have:=p1.length_eq;rw[aP,fL,fL]at this;simpa using this
  have nA:cA.size < mw:=by omega
  refine ad (gw _ ?_)
  have fin:∀t2:bt,t2.fits cA.size=true->TabOk led t2->af (aj prog w) A (do
    storeSet a cA t2
    if (!wd && t2.tooFull)=true then do
      (match (rb t2 cA (nX cA.size)).2.2 with | true=>rule "set.scan.the-table-gave-way" | false=>pure ():Sem Unit)
      storeSet a (rb t2 cA (nX cA.size)).1 (rb t2 cA (nX cA.size)).2.1
      pure (some true)
     else pure (some true)) (fun MB s'=>af (aj prog w) A (match MB with | some MA=>pure MA | none=>setAddHashedIn a (.int v tk) ((intKind prog w).hash v) 99999) Q E s') E s:=by
   intro t2 f2 k2
   refine ad (MO ho rfl ?_ (Nw nA))
   obtain⟨iX,cy⟩:=Yg (prog:=prog) (w:=w) (σ:=σ++[v]) ho BJ Ce nA f2 k2
   have Am:=xw s.heap a (tU cA t2)
   split
   .have p2:=relayAll_perm t2 cA (nX cA.size)
    have f3:=relayAll_fits t2 cA (nX cA.size)
    have k3:=jde k2 cA (nX cA.size)
    generalize rb t2 cA (nX cA.size)=L at p2 f3 k3 |-
    obtain⟨Cu,t3,gv2⟩:=L
    dsimp only at p2 f3 k3 |-
    have lO:Cu.size=cA.size:=by rw[<- fL,p2.length_eq,fL]
    have LJ:∃l:List Int,IntsAre (Cu.toList.map (·.2)) l/\l.Perm (σ++[v]):=by
     obtain⟨l1,i1,i2⟩:=Ce;obtain⟨l',j1,j2⟩:=JB i1 (p2.map (·.2));exact⟨l',j1,j2.trans i2⟩
    refine ad (gw _ (ad (MO iX rfl ?_ (Nw (by omega)))))
    obtain⟨_,bT⟩:=Yg (prog:=prog) (w:=w) (σ:=σ++[v]) iX (BJ.perm p2) LJ (by omega) f3 k3
    exact al (al (h true _ (Am.trans (xw _ a _)) bT))
   .exact al (al (h true _ Am cy))
  split
  .refine ad ?_
   rw[hashByValue_scannable 8 rfl]
   refine al ?_
   refine fin _ ?_ ?_
   .split
    .exact f1
    .exact bt.fits_plain_off f1
   .split
    .exact k1
    .exact jbS k1
  .refine ad (al ?_)
   simp only[↓reduceIte]
   exact fin _ f1 k1
end
abbrev ledOf(w:ar):Bool:=!(w.params.followText "set-order")
def dedup(ns:List Int):List Int:=ns.foldl (fun σ v=>if v∈σ then σ else σ++[v]) []
theorem KL(ns:List Int)(v:Int):dedup (ns++[v])=if v∈dedup ns then dedup ns else dedup ns++[v]:=by unfold dedup;rw[uf];rfl
theorem zg(ns:List Int):(dedup ns).Nodup/\(dedup ns).length<=ns.length/\∀x,x∈dedup ns↔x∈ns:=by
 have key:∀(l:List Int),(dedup l.reverse).Nodup/\(dedup l.reverse).length<=l.reverse.length/\∀x,x∈dedup l.reverse↔x∈l.reverse:=by
  intro l;induction l with
  | nil=>exact⟨xV,ay _,fun x=>Iff.rfl⟩
  | cons v l ih=>
   rw[xS,KL];obtain⟨h1,h2,h3⟩:=ih;split
   .next h=>
    refine⟨h1,by rw[aP];omega,fun x=>?_⟩;rw[cZ,h3];constructor
    .exact .inl
    .rintro (z | z)
     .exact z
     .rw[bu.mp z]
      exact (h3 v).mp h
   .next h=>
    refine⟨?_,by rw[aP,aP];simp;simpa using h2,fun x=>by rw[cZ,cZ,h3]⟩;rw[List.nodup_append];refine⟨h1,by simp,fun x hx y hy e=>?_⟩;rw[bu]at hy;subst hy e;exact h hx
 have:=key ns.reverse;rw[Pq]at this;exact this
section
variable {R:lb->ae->Prop}
theorem set_loop{S it l:aa}{its:List ac}{ns:List Int}(hh:A.handled=none)(hI:IntsAre its ns)(Lu:S≠l)(vV:S≠it)(Bn:l≠it)(hz:ns.length+1 < mw):
  ∀(k i:Nat) (s:ae),i+k=ns.length->s.heap.IsListIter it l i->s.heap.IsList l its.toArray->SetAt prog w s.heap S led (dedup (ns.take i))->
   (∀h' tk,(∀b o,b≠S->b≠it->s.heap.get? b=some o->h'.get? b=some o)->SetAt prog w h' S led (dedup ns)->R (.ok (.ret .none)) { s with heap:=h',toks:=tk })->
   dR (aj prog w) A (.builtin "set.update.loop" ⟨[.ref S,.ref it],[]⟩) R s:=by
 intro k
 induction k with
 | zero=>
  intro i s hk bY ht hS hR
  have hl:=hI.length
  refine iC O6 ?_
  rw[le EK _]
  show af _ A.in1 (cC (.ref it) >>= _) _ _ s
  refine ad (MT (A:=A.in1) hh bY ht (by simp;omega) fun h1 lX=>?_)
  show af _ A.in1 (ret Value.none) _ _ _
  refine al ?_
  rw[show ns.take i=ns from iH (by omega)]at hS
  exact hR h1 s.toks (fun b o _ hb e=>lX b o hb e) (hS.kept fun o e=>lX S o vV e)
 | succ k ih=>
  intro i s hk bY ht hS hR
  have hl:=hI.length
  have aG:i < ns.length:=by omega
  have IR:its.toArray[i]?=some its[i]:=by simp[hl,aG]
  obtain⟨t,et⟩:=IntsAre.int_at hI i its[i] (by simp[hl,aG])
  have eg:ns.getD i 0=ns[i]:=by simp[aG]
  rw[eg]at et
  refine iC O6 ?_
  rw[le EK _]
  show af _ A.in1 (cC (.ref it) >>= _) _ _ s
  refine ad (MS bY ht IR fun h1 IH sw=>?_)
  have cL:h1.IsList l its.toArray:=ht.extBut sw.extBut Bn
  have cy:SetAt prog w h1 S led (dedup (ns.take i)):=hS.kept fun o e=>(sw.2 S vV).trans e
  rw[et]
  show af _ A.in1 (holding [Value.int ns[i] t] (setAdd S (.int ns[i] t)) >>= _) _ _ _
  refine ad (de ?_)
  unfold setAdd
  refine de ?_
  refine ad ((intKind prog w).pyHash (k:=ns[i]) (tN _ _ _ _) ?_)
  have A8:(dedup (ns.take i)).length+1 < mw:=by
   have:=(zg (ns.take i)).2.1;rw[a_]at this;omega
  refine jeA (s:={ s with heap:=h1,toks:=s.toks+1 }) cy A8 fun b h2 lO bT=>?_
  have e2:dedup (ns.take (i+1))=if ns[i]∈dedup (ns.take i) then dedup (ns.take i) else dedup (ns.take i)++[ns[i]]:=by
   rw[cq,aC aG];exact KL _ _
  rw[<- e2]at bT
  have dD:∀b o,b≠S->h1.get? b=some o->h2.get? b=some o:=fun b o hb e=>(lO.2 b hb).trans e
  refine al ⟨mx EK _,ih (i+1) _ (by omega) ?_ ?_ bT fun h' tk i0 l6=>hR h' tk (fun b o b1 b2 e=>i0 b o b1 b2 (dD b o b1 ((sw.2 b b2).trans e))) l6⟩
  .obtain⟨oi,z1,z2⟩:=IH
   exact⟨oi,dD it oi vV.symm z1,z2⟩
  .obtain⟨oi,z1,z2⟩:=cL
   exact⟨oi,dD l oi Lu.symm z1,z2⟩
end
end L2
namespace PySem
section
variable {prog:av}{w:ar}{A:aD}{E:ac->ae->Prop}{s:ae}
theorem Zx(a:ac){Q₁:ac->ae->Prop}
  (h:Q₁ (.ref s.heap.objs.size) { s with heap:=s.heap.push { cls:=.type "set",dict:=none,data:=.set #[] 0 (.fresh 0 0 (L2.ledOf w)) } }) :
  dR (aj prog w) A (.call (.builtin "set.__new__") ⟨[.type "set",a],[]⟩) (wants Q₁ E) s:=by
 refine codeAny_of_tree ?_
 show af _ A.in1 (do checkBuiltinCall "set.__new__" ⟨[.type "set",a],[]⟩;again (.builtin "set.__new__" ⟨[.type "set",a],[]⟩)) _ _ s
 refine ad (wV (F.newCall_set_1 a) (al ⟨mx Ol _,iC F.entry_set_new ?_⟩))
 rw[le Ol _]
 unfold Builtin.«set.__new__» Builtin.Frozenset.newClass
 have oZ:=sub_set_self
 obtain⟨hp,g,d,tk,os⟩:=s
 dsimp only
 wp_walk
 refine wX (al ?_)
 dsimp only
 simp only[newObj]
 refine ad (wpAny_alloc (al ?_))
 exact al h
set_option maxHeartbeats 3200000 in
theorem set_of_list{l:aa}{its:List ac}{ns:List Int}{nl:Nat}{sl:Array (Option ac)}{dd:Option aa}{Q:ac->ae->Prop}(hh:A.handled=none)(m_:s.heap.get? l=some { cls:=.type "list",dict:=dd,data:=.seq its.toArray nl,slots:=sl })(hi:PyProof.Rows.IntsAre its ns)(hb:ns.length+1 < mw)
  (h:∀(h':aq) (tk:Nat),L2.SetAt prog w h' s.heap.objs.size (L2.ledOf w) (L2.dedup ns)->(∀b o,s.heap.get? b=some o->h'.get? b=some o)->Q (.ref s.heap.objs.size) { s with heap:=h',toks:=tk }) :
  af (aj prog w) A (call (.type "set") [.ref l]) Q E s:=by
 obtain⟨c,tl,hmro⟩:=mE.mro
 have hmade:=mE.made
 have oZ:=mE.sub
 refine DH (codeAny_of_tree ?_)
 show af _ _ (callAny (.type "set") _) _ _ _
 refine al ⟨Code.quiet_builtin _ (by decide +kernel),iC F.entry_type_call ?_⟩
 rw[aD.under_plain (weight_type_call_type "set" [.ref l] []) rfl]
 have h1:=mE.notType
 have h2:=mE.canCreate
 have hct:=F.typeCall_set_1 (.ref l)
 repeat (any_goals (first | assumption | wp_step))
 refine rh (Zx (.ref l) (E:=E) (Q₁:=fun obj s₁=>obj=.ref s.heap.objs.size/\s₁={ s with heap:=s.heap.push { cls:=.type "set",dict:=none,data:=.set #[] 0 (.fresh 0 0 (L2.ledOf w)) } }) ⟨rfl,rfl⟩) fun r s₁ hr=>?_
 cases r with
 | error e=>exact hr
 | ok fl=>
  cases fl with
  | ret obj=>
   obtain⟨rfl,rfl⟩:=hr
   have hS:(s.heap.push { cls:=.type "set",dict:=none,data:=.set #[] 0 (.fresh 0 0 (L2.ledOf w)) }).get? s.heap.objs.size=some { cls:=.type "set",dict:=none,data:=.set #[] 0 (.fresh 0 0 (L2.ledOf w)) }:=bz _ rfl
   have hT:ae.TypeIs { s with heap:=s.heap.push { cls:=.type "set",dict:=none,data:=.set #[] 0 (.fresh 0 0 (L2.ledOf w)) } } (.ref s.heap.objs.size) "set":=⟨_,hS,rfl⟩
   have Bn:=mE.init.lookup
   have ny:=mE.init.bind (.ref s.heap.objs.size)
   repeat (any_goals (first | assumption | wp_step))
   refine rh (NE (R:=wants (fun r s₂=>r=.none/\∃h' tk,s₂={ s with heap:=h',toks:=tk }/\L2.SetAt prog w h' s.heap.objs.size (L2.ledOf w) (L2.dedup ns)/\
     (∀b o,s.heap.get? b=some o->h'.get? b=some o)) E) mE.init.plain F.entry_set_init (check_set_init_1 hT ?_)) fun r₂ s₂ u0=>?_
   .have HK:(s.heap.push { cls:=.type "set",dict:=none,data:=.set #[] 0 (.fresh 0 0 (L2.ledOf w)) }).get? l=some { cls:=.type "list",dict:=dd,data:=.seq its.toArray nl,slots:=sl }:=aF _ m_
    have hsls:=F.sub_list_set
    have hslf:=F.sub_list_frozenset
    have bp:(Value.type "list" == Value.type "dict")=false:=by decide
    have aT:(s.heap.push { cls:=.type "set",dict:=none,data:=.set #[] 0 (.fresh 0 0 (L2.ledOf w)) }).IsList l its.toArray:=⟨_,HK,rfl,nl,rfl⟩
    unfold Builtin.«set.__init__» noKeywords Builtin.Frozenset.updateFrom
    generalize hPI:tL=PI
    wp_walk
    subst hPI
    refine wT aT ?_
    refine ad (wpAny_runValue ?_)
    have Bq:l < s.heap.objs.size:=aI m_
    have IP:A.in1.in1.handled=none:=by simp[hh]
    have uG:s.heap.objs.size < (s.heap.push { cls:=.type "set",dict:=none,data:=.set #[] 0 (.fresh 0 0 (L2.ledOf w)) }).objs.size:=aI hS
    refine L2.set_loop (its:=its) (ns:=ns) (led:=L2.ledOf w) IP hi (gZ Bq) (aN uG) (aN (lj Bq uG)) hb ns.length 0 _ (by omega) ?_ ?_ ?_ ?_
    .exact⟨_,bz _ rfl,rfl,rfl⟩
    .exact aT.push _
    .refine⟨#[],0,.fresh 0 0 (L2.ledOf w),?_,fun e he=>by simp at he,⟨[],.nil,.nil⟩,by decide,rfl,⟨rfl,rfl,List.Pairwise.nil⟩⟩
     exact aF _ hS
    .intro h' tk hk l6
     show af _ _ _ _ _ _
     refine al ?_
     show af _ _ (ret Value.none) _ _ _
     refine al ⟨rfl,h',tk,rfl,l6,fun b o e=>?_⟩
     have BZ:=aI e
     exact hk b o (aN BZ) (aN (lj BZ uG)) (aF _ (aF _ e))
   .cases r₂ with
    | error e=>exact u0
    | ok fl₂=>
     cases fl₂ with
     | ret r=>
      obtain⟨rfl,h',tk,rfl,l6,i0⟩:=u0
      repeat (any_goals (first | assumption | wp_step))
      exact h _ _ l6 i0
     | _=>exact u0.elim
  | _=>exact hr.elim
end
namespace F
theorem slot_seti_next:Slot "set_iterator" "__next__" "set_iterator.__next__":=
 .of (owner:="set_iterator") (n:="__next__") (by rw[DM,D2];kernel_rfl) (by decide +kernel) (by decide +kernel) (by decide +kernel)
  (by first | exact .inl (by decide +kernel) | exact .inr (by decide +kernel)) (by rw[xa];kernel_rfl)
theorem entry_seti_next:xg table "set_iterator.__next__" = some Builtin.«set_iterator.__next__»:=Ny (by kernel_rfl)
theorem args_seti_next(a:ac):argsOk "set_iterator.__next__" ⟨[a],[]⟩:=by unfold argsOk;kernel_rfl
theorem entry_set_iter':xg table "set.__iter__" = some Builtin.«frozenset.__iter__»:=entryFor_alias (id':="frozenset.__iter__") (by kernel_rfl) (by first | rfl | decide +kernel) (by decide +kernel) (by kernel_rfl)
end F
end PySem
namespace L2
open PySem PySem.Spec PyProof.Rows PySem.W
abbrev Jp(es:Array (Int×ac))(ep:Nat)(t:bt):Obj:={ cls:=.type "set",dict:=none,data:=.set es ep t }
abbrev Yq(first:ac)(i:Nat)(a:aa)(n ep:Nat):Obj:={ cls:=.type "set_iterator",data:=.fields #[first,.int i 0,.ref a,.int n 0,.int ep 0] }
def KG(es:Array (Int×ac))(t:bt):Bool:=!t.plain && decide (es.size > 1)
variable {prog:av}{w:ar}{A:aD}{E:ac->ae->Prop}{s:ae}{I a:aa}{i ep:Nat}{es:Array (Int×ac)}{Q:Option ac->ae->Prop}{aJ:List ac}
section
theorem jaY{Al:Source}{n:Nat}{Q:Nat->ae->Prop}(hn:n≠0)(h:∀i d',i < n->Q i { s with drawn:=d' }):af (aj prog w) A (choose Al n) Q E s:=by
 intro Γ p hΓ;show Sem.wp _ _ (.choose Al n .pure) _ _ _ _;rw[Sem.wp_choose];exact⟨hn,h _ _ (Nat.mod_lt _ (Nat.pos_of_ne_zero hn))⟩
theorem yQ{α:Type}:∀{l:List α} {i:Nat} {x:α},l[i]?=some x->(x :: l.eraseIdx i).Perm l
 | [],i,x,e=>by simp at e
 | a :: l,0,x,e=>by
  simp at e;subst e;exact E8 _
 | a :: l,i+1,x,e=>by
  simp at e;have ih:=yQ (l:=l) (i:=i) (x:=x) e;show (x :: a :: l.eraseIdx i).Perm (a :: l);exact (List.Perm.swap a x _).trans (ih.cons a)
theorem KH{α:Type}:∀(n:Nat) (xs:List α) (s:ae) (Q:List α->ae->Prop),xs.length=n->(∀ys d',ys.Perm xs->Q ys { s with drawn:=d' })->af (aj prog w) A (DW n xs) Q E s
 | 0,xs,s,Q,hl,h=>by
  have:xs=[]:=Py.mp hl;subst this;unfold DW;exact al (h [] s.drawn (E8 _))
 | n+1,[],s,Q,hl,h=>by simp at hl
 | n+1,x :: xs,s,Q,hl,h=>by
  unfold DW;refine ad (jaY (by simp) fun i d' hi=>?_);have hg:(x :: xs)[i]?=some (x :: xs)[i]:=aC hi;rw[hg];dsimp only;refine ad (KH n _ _ _ (by rw[Px,Qg hi];omega) fun ys d2 hp=>?_);exact al (h _ d2 ((hp.cons _).trans (yQ hg)))
theorem jbT{α:Type}(next:Nat->Nat)(xs:Array α):(gU next xs).toList.Perm xs.toList:=by
 have key:∀(f k:Nat) (left:List α) (out:Array α),left.length=f->(DQ next f k left out).toList.Perm (out.toList++left):=by
  intro f;induction f with
  | zero=>
   intro k left out h;have:left=[]:=Py.mp h;subst this;unfold DQ;rw[dj]
  | succ f ih=>
   intro k left out h;unfold DQ;have hm:next k % left.length < left.length:=Nat.mod_lt _ (by omega)
   have hg:left[next k % left.length]?=some (left[next k % left.length]'hm):=aC hm;rw[hg];dsimp only;refine (ih (k+1) _ _ (by rw[Px,Qg hm];omega)).trans ?_;rw[Fa,dI];exact (yQ hg).append_left _
 have:=key xs.size 0 xs.toList #[] (by simp);simpa[gU]using this
theorem yx{first:ac}{t:bt}(hI:s.heap.get? I=some (Yq first i a es.size ep))(ha:s.heap.get? a=some (Jp es ep t))(hf:t.fits es.size=true)
  (h:af (aj prog w) A.in1 (if let .int slot _:=first then
   (do match <- i_ a slot.toNat i ep with
    | some (x,next)=>
     iA (.ref I) 0 (bx next)
     iA (.ref I) 1 (bx ((i:Int)+1))
     ret x
    | none=>iA (.ref I) 2 .none;re (<- nU (.type "StopIteration") []):Sem Fin)
   else (do
    let some places <- ra first | unsupported "internal:set_iterator"
    match places[i]? with
    | some (.int place _)=>
     let x <- DO a place.toNat ep
     iA (.ref I) 1 (bx ((i:Int)+1))
     ret x
    | some _=>unsupported "internal:set_iterator"
    | none=>iA (.ref I) 0 (bx 0);iA (.ref I) 2 .none;re (<- nU (.type "StopIteration") []):Sem Fin))
   (fun fin s'=>∃v,fin=.done (.ret v)/\Q (some v) s') (fun e s'=>∃c o,e=.ref c/\s'.heap.get? c=some o/\o.cls=.type "StopIteration"/\Q none s') s):af (aj prog w) A (cC (.ref I)) Q E s:=by
 have hT:s.TypeIs (.ref I) "set_iterator":=⟨_,hI,rfl⟩
 unfold cC
 refine ad (mv (iy (name:=aM "__next__") hT F.slot_seti_next
  (fF F.slot_seti_next hT F.entry_seti_next ?_ (F.args_seti_next _))))
 unfold Builtin.«set_iterator.__next__»
 refine ad (al (ad (wpAny_fieldsOf hI rfl ?_)))
 dsimp only
 refine ad ?_
 unfold setEntries
 refine ad (gR ha rfl hf (al ?_))
 rw[Qf (by simp)]
 simp only[lB]
 refine cB h (fun fin s' x=>?_) fun e s' x=>?_
 .obtain⟨v,rfl,q⟩:=x
  exact⟨v,rfl,al q⟩
 .obtain⟨c,o,rfl,e1,e2,q⟩:=x
  refine ad (mt (T:="StopIteration") ⟨o,e1,e2⟩ xc ?_)
  rw[Qg rfl]
  exact al q
def ItSt(w:ar)(h:aq)(I a:aa)(es:Array (Int×ac))(ep:Nat)(t:bt)(aJ:List ac)(i:Nat):Prop:=h.get? a=some (Jp es ep t)/\
 ((w.params.followText "set-order" = true/\h.get? I=some (Yq (.int 0 0) i a es.size ep)/\aJ=(gU (w.params.setOrder a ep) es).toList.map (·.2))\/
   (w.params.followText "set-order" = false/\∃(T:aa) (ps:List Nat),h.get? I=some (Yq (.ref T) i a es.size ep)/\h.get? T=some { cls:=.type "tuple",data:=.seq (ps.map fun (p:Nat)=>bx p).toArray }/\T≠I/\(∀p∈ps,p < es.size)/\aJ=ps.map fun p=>(es.getD p (0,.none)).2)\/
   (w.params.followText "set-order" = false/\KG es t=false/\∃slot:Nat,h.get? I=some (Yq (.int slot 0) i a es.size ep)/\ck t.place slot=i/\aJ=es.toList.map (·.2)))
theorem YJ{o:Obj}{vs:Array ac}{k:Nat}{x:ac}(hh:A.handled=none)(hI:s.heap.get? I=some o)(hd:o.data=.fields vs)(hk:k < vs.size)(h:∀h',(∀b u,b≠I->s.heap.get? b=some u->h'.get? b=some u)->Q none { s with heap:=h' }):
  af (aj prog w) A.in1 (do iA (.ref I) k x;re (<- nU (.type "StopIteration") []):Sem Fin) (fun fin s'=>∃v,fin=.done (.ret v)/\Q (some v) s') (fun e s'=>∃c o,e=.ref c/\s'.heap.get? c=some o/\o.cls=.type "StopIteration"/\Q none s') s:=by
 refine ad (Dw hI hd hk ?_)
 refine ad ?_
 simp only[nU,w9]
 refine ad (dG ?_ (by size_fits))
 refine ad (m:=tO _ _) (wV (a:=Value.none) (by first | rfl | (simp only[tO];rfl)) ?_)
 refine dG ?_ (by size_fits)
 simp only[re]
 refine ad (DE ?_)
 rw[show A.in1.handled=none from hh]
 refine ad (al (wS ?_))
 refine⟨_,_,rfl,bz _ rfl,rfl,h _ fun b u hb e=>?_⟩
 exact aF _ (aF _ ((xv _ _ _ _ hb).trans e))
theorem zR{Q:Bool->ae->Prop}(h:Q (w.params.followText "set-order") s):af (aj prog w) A setsByText Q E s:=by
 unfold setsByText;exact ad (wX (al h))
theorem Jo{first:ac}{n k:Nat}{x:ac}{Q:Unit->ae->Prop}(hI:s.heap.get? I=some (Yq first i a n ep))(hk:k < 5)
  (h:∀h',h'.get? I=some { cls:=.type "set_iterator",data:=.fields (#[first,.int i 0,.ref a,.int n 0,.int ep 0].setIfInBounds k x) }->(∀b u,b≠I->s.heap.get? b=some u->h'.get? b=some u)->Q () { s with heap:=h' }):af (aj prog w) A (iA (.ref I) k x) Q E s:=
 fE hI hk fun h' e sb=>h h' e fun b u hb e=>(sb.2 b hb).trans e
theorem jb8{t:bt}(hf:t.fits es.size=true)(ht:TabOk (ledOf w) t)(fq:a≠I)(bv:ItSt w s.heap I a es ep t aJ i)(hi:i < aJ.length)
  (h:∀h',ItSt w h' I a es ep t aJ (i+1)->(∀b u,b≠I->s.heap.get? b=some u->h'.get? b=some u)->Q (some (aJ.getD i Value.none)) { s with heap:=h' }):af (aj prog w) A (cC (.ref I)) Q E s:=by
 obtain⟨ha,hm⟩:=bv
 rcases hm with⟨hb,hI,hv⟩ | ⟨hb,T,ps,hI,hT,gh,o8,hv⟩ | ⟨hb,hd,slot,hI,hs,hv⟩
 .refine yx hI ha hf ?_
  show af _ _ (i_ a (aL 0) i ep >>= _) _ _ _
  refine ad ?_
  unfold i_
  refine ad (gR ha rfl hf (ad (zR ?_)))
  dsimp only
  rw[hb,Qg rfl,Qf (by simp)]
  refine ad ?_
  unfold setWalk
  refine ad (gR ha rfl hf (ad (zR ?_)))
  rw[hb,Qg rfl]
  refine ad (wX (al (al ?_)))
  have hg:(gU (w.params.setOrder a ep) es)[i]?=some ((gU (w.params.setOrder a ep) es)[i]'(by rw[hv]at hi;simpa using hi)):=rJ _
  have iR:aJ.getD i Value.none=((gU (w.params.setOrder a ep) es)[i]'(by rw[hv]at hi;simpa using hi)).2:=by
   subst hv;have cM:i < (gU (w.params.setOrder a ep) es).size:=by simpa using hi
   simp[cM]
  show af _ _ (match ((gU (w.params.setOrder a ep) es)[i]?).map fun e=>(e.2,aL 0) with | some (x,next)=>_ | none=>_) _ _ _
  rw[hg]
  dsimp only[Option.map]
  refine ad (Jo hI (by decide) fun h1 e1 k1=>?_)
  refine ad (Jo (s:={ s with heap:=h1 }) (first:=.int 0 0) e1 (by decide) fun h2 e2 k2=>al ⟨_,rfl,?_⟩)
  rw[<- iR]
  refine h h2 ⟨k2 _ _ fq (k1 _ _ fq ha),.inl ⟨hb,?_,hv⟩⟩ fun b u hb e=>k2 _ _ hb (k1 _ _ hb e)
  exact e2
 .refine yx hI ha hf ?_
  show af _ _ (ra (.ref T) >>= _) _ _ _
  refine ad (gS hT rfl ?_)
  have cM:i < ps.length:=by rw[hv,am]at hi;exact hi
  have hg:(mI (fun (p:Nat)=>bx p) ps).toArray[i]?=some (bx ps[i]):=by simp[cM]
  dsimp only
  rw[hg]
  have bC:=o8 _ (eW cM)
  show af _ _ (DO a (aL (ps[i]:Nat)) ep >>= _) _ _ _
  rw[lB]
  refine ad ?_
  unfold DO
  refine ad (gR ha rfl hf ?_)
  dsimp only
  rw[Qf (by simp),rJ bC]
  refine al ?_
  refine ad (Jo hI (by decide) fun h1 e1 k1=>al ⟨_,rfl,?_⟩)
  have iR:aJ.getD i Value.none=es[ps[i]].2:=by
   subst hv;simp[cM,bC]
  show Q (some es[ps[i]].2) _
  rw[<- iR]
  refine h h1 ⟨k1 _ _ fq ha,.inr (.inl ⟨hb,T,ps,?_,k1 _ _ gh hT,gh,o8,hv⟩)⟩ k1
  exact e1
 .refine yx hI ha hf ?_
  show af _ _ (i_ a (aL (slot:Nat)) i ep >>= _) _ _ _
  rw[lB]
  refine ad ?_
  unfold i_
  refine ad (gR ha rfl hf (ad (zR ?_)))
  dsimp only
  rw[hb,Qf bB]
  have cM:i < es.size:=by rw[hv,am,fL]at hi;exact hi
  have vm:t.led=true:=by rw[ht.led_];unfold ledOf;rw[hb];rfl
  have hpz:t.place.size=es.size:=by
   simp only[bt.fits,gB,beq_iff_eq]at hf;exact hf.1
  show af _ _ (if KG es t=true then _ else _) _ _ _
  rw[hd,Qf bB]
  refine ad ?_
  show af _ _ (if (!t.led && !es.isEmpty)=true then _ else _) _ _ _
  rw[vm,Qf (by simp)]
  refine al (al ?_)
  rw[hs,rJ cM,rJ (by omega)]
  dsimp only
  refine ad (Jo hI (by decide) fun h1 e1 k1=>?_)
  refine ad (Jo (s:={ s with heap:=h1 }) (first:=.int ((t.place[i]'(by omega+splitNatSub)+1:Nat):Int) 0) e1 (by decide) fun h2 e2 k2=>al ⟨_,rfl,?_⟩)
  have iR:aJ.getD i Value.none=es[i].2:=by
   subst hv;simp[cM]
  rw[<- iR]
  refine h h2 ⟨k2 _ _ fq (k1 _ _ fq ha),.inr (.inr ⟨hb,hd,t.place[i]'(by omega+splitNatSub)+1,?_,?_,hv⟩)⟩ fun b u hb e=>k2 _ _ hb (k1 _ _ hb e)
  .exact e2
  .obtain⟨b1,b2,b3⟩:=KP ht.up (t.place[i]'(by omega+splitNatSub)+1)
   have eg:t.place.getD i 0=t.place[i]'(by omega+splitNatSub):=by
    have aG:i < t.place.size:=by omega
    simp[mM,aG]
   have h1:i < ck t.place (t.place[i]'(by omega+splitNatSub)+1):=by
    rcases eJ i (ck t.place (t.place[i]'(by omega+splitNatSub)+1)) with z | z
    .exact z
    .have:=b3 i z (by omega)
     omega
   rcases eJ (i+1) (ck t.place (t.place[i]'(by omega+splitNatSub)+1)) with z | z
   .have h2:=b2 (i+1) z
    have h3:=ja6 ht.up (i:=i) (j:=i+1) (by omega) (by omega)
    omega
   .omega
theorem jdL{t:bt}(hh:A.handled=none)(hf:t.fits es.size=true)(ht:TabOk (ledOf w) t)(fq:a≠I)(bv:ItSt w s.heap I a es ep t aJ i)(hi:i=aJ.length)
  (h:∀h',(∀b u,b≠I->s.heap.get? b=some u->h'.get? b=some u)->Q none { s with heap:=h' }):af (aj prog w) A (cC (.ref I)) Q E s:=by
 obtain⟨ha,hm⟩:=bv
 rcases hm with⟨hb,hI,hv⟩ | ⟨hb,T,ps,hI,hT,gh,o8,hv⟩ | ⟨hb,hd,slot,hI,hs,hv⟩
 .refine yx hI ha hf ?_
  show af _ _ (i_ a (aL 0) i ep >>= _) _ _ _
  refine ad ?_
  unfold i_
  refine ad (gR ha rfl hf (ad (zR ?_)))
  dsimp only
  rw[hb,Qg rfl,Qf (by simp)]
  refine ad ?_
  unfold setWalk
  refine ad (gR ha rfl hf (ad (zR ?_)))
  rw[hb,Qg rfl]
  refine ad (wX (al (al ?_)))
  have hg:(gU (w.params.setOrder a ep) es)[i]?=none:=by
   rw[hi,hv];simp
  show af _ _ (match ((gU (w.params.setOrder a ep) es)[i]?).map fun e=>(e.2,aL 0) with | some (x,next)=>_ | none=>_) _ _ _
  rw[hg]
  exact YJ hh hI rfl (by simp) h
 .refine yx hI ha hf ?_
  show af _ _ (ra (.ref T) >>= _) _ _ _
  refine ad (gS hT rfl ?_)
  have hg:(mI (fun (p:Nat)=>bx p) ps).toArray[i]?=none:=by
   rw[hi,hv];simp
  dsimp only
  rw[hg]
  dsimp only
  refine ad (Jo hI (by decide) fun h1 e1 k1=>?_)
  exact YJ (s:={ s with heap:=h1 }) hh e1 rfl (by simp) fun h' k=>h h' fun b u hb e=>k _ _ hb (k1 _ _ hb e)
 .refine yx hI ha hf ?_
  show af _ _ (i_ a (aL (slot:Nat)) i ep >>= _) _ _ _
  rw[lB]
  refine ad ?_
  unfold i_
  refine ad (gR ha rfl hf (ad (zR ?_)))
  dsimp only
  rw[hb,Qf bB]
  have vm:t.led=true:=by rw[ht.led_];unfold ledOf;rw[hb];rfl
  show af _ _ (if KG es t=true then _ else _) _ _ _
  rw[hd,Qf bB]
  refine ad ?_
  show af _ _ (if (!t.led && !es.isEmpty)=true then _ else _) _ _ _
  rw[vm,Qf (by simp)]
  refine al (al ?_)
  have hg:es[i]?=none:=by
   rw[hi,hv];simp
  rw[hs,hg]
  dsimp only
  exact YJ hh hI rfl (by simp) h
end
section
theorem ItSt.kept{h h':aq}{t:bt}(x:ItSt w h I a es ep t aJ i)(k:∀b o,h.get? b=some o->o.cls≠.type "list"->h'.get? b=some o):ItSt w h' I a es ep t aJ i:=by
 obtain⟨ha,hm⟩:=x;refine⟨k _ _ ha (by simp),?_⟩;rcases hm with⟨hb,hI,hv⟩ | ⟨hb,T,ps,hI,hT,r⟩ | ⟨hb,hd,slot,hI,r⟩
 .exact .inl ⟨hb,k _ _ hI (by simp),hv⟩
 .exact .inr (.inl ⟨hb,T,ps,k _ _ hI (by simp),k _ _ hT (by simp),r⟩)
 .exact .inr (.inr ⟨hb,hd,slot,k _ _ hI (by simp),r⟩)
theorem jdW{t:bt}{Q:ac->ae->Prop}(ha:s.heap.get? a=some (Jp es ep t))(hf:t.fits es.size=true)(ht:TabOk (ledOf w) t)(hz:es.size<=1000)
  (h:∀I h' d' aJ,s.heap.objs.size<=I->ItSt w h' I a es ep t aJ 0->aJ.Perm (es.toList.map (·.2))->(∀b o,s.heap.get? b=some o->h'.get? b=some o)->Q (.ref I) { s with heap:=h',drawn:=d' }):af (aj prog w) A (tL (.ref a)) Q E s:=by
 have hT:s.TypeIs (.ref a) "set":=⟨_,ha,rfl⟩
 refine wpAny_pyIter_slot hT Oj (fF Oj hT PySem.F.entry_set_iter' ?_ (PySem.F.args_set_iter_1 _))
 unfold Builtin.«frozenset.__iter__»
 refine ad (al (ad ?_))
 unfold Builtin.Frozenset.sizeOf setEntries
 refine ad (ad (gR ha rfl hf (al (al ?_))))
 refine ad ?_
 unfold setDrawn
 refine ad (gR ha rfl hf (ad (zR (al ?_))))
 dsimp only
 show af _ _ (if (!(w.params.followText "set-order") && KG es t)=true then _ else _) _ _ _
 have fin:∀(first:ac) (s1:ae) (aJ:List ac),s1.heap.get? a=some (Jp es ep t)->aJ.Perm (es.toList.map (·.2))->(∀b o,s.heap.get? b=some o->s1.heap.get? b=some o)->s1.gens=s.gens->s1.toks=s.toks->s1.os=s.os->s.heap.objs.size<=s1.heap.objs.size->
   (∀h' I,(∀b o,s1.heap.get? b=some o->h'.get? b=some o)->s1.heap.objs.size=I->h'.get? I=some (Yq first 0 a es.size ep)->ItSt w h' I a es ep t aJ 0)->
   af (aj prog w) A.in1 (do let e <- setEpoch a;let i <- newFields "set_iterator" [first,bx 0,.ref a,bx es.size,bx e];ret i) (fun fin s'=>∃v,fin=Fin.done (Flow.ret v)/\∃T' r,s'.TypeIs v T'/\p_ (.type T') "__next__" = pure (some r)/\Q v s') E s1:=by
  intro first s1 aJ h1 hp hk eg et eo fV bv
  refine ad (wpAny_setEpoch_of h1 rfl hf ?_)
  refine ad (dG (al ⟨_,rfl,"set_iterator",_,⟨_,bz _ rfl,rfl⟩,PySem.F.slot_seti_next.lookup,?_⟩))
  obtain⟨gM,g1,d1,t1,o1⟩:=s1
  dsimp only at eg et eo
  subst eg et eo
  exact h _ _ d1 aJ fV (bv _ _ (fun b o e=>aF _ e) rfl (bz _ rfl)) hp fun b o e=>aF _ (hk b o e)
 cases hb:w.params.followText "set-order" with
 | true=>
  rw[Qf (by simp)]
  refine ad (al ?_)
  refine fin (bx 0) s ((gU (w.params.setOrder a ep) es).toList.map (·.2)) ha ((jbT _ _).map _) (fun _ _ e=>e) rfl rfl rfl (ay _) fun h' I k _ hI=>?_
  exact⟨k _ _ ha,.inl ⟨hb,hI,rfl⟩⟩
 | false=>
  cases hd:KG es t with
  | true=>
   rw[Qg (by simp)]
   refine ad (KH es.size (bm es.size) s _ (by simp) fun ps d' hp=>?_)
   refine ad (dG ?_ (by show (mI _ ps).length<=_;rw[am,hp.length_eq,lu];exact cQ (jw hz)))
   have o8:∀p∈ps,p < es.size:=fun p h=>iI.mp (hp.mem_iff.mp h)
   have GP:(ps.map fun p=>(es.getD p (0,.none)).2).Perm (es.toList.map (·.2)):=by
    have h1:=hp.map fun p=>(es.getD p (0,.none)).2
    have e:((bm es.size).map fun p=>(es.getD p (0,Value.none)).2)=es.toList.map (·.2):=by
     apply E4
     .simp
     .intro i h1 h2
      have hi:i < es.size:=by simpa using h1
      simp[hi]
    rw[e]at h1;exact h1
   have lt:∀o:Obj,s.heap.objs.size < (s.heap.push o).objs.size:=fun o=>by rw[EG];exact xP _
   refine fin (.ref s.heap.objs.size) _ (ps.map fun p=>(es.getD p (0,.none)).2) (aF _ ha) GP (fun b o e=>aF _ e) rfl rfl rfl (cQ (lt _)) fun h' I k eI hI=>?_
   refine⟨k _ _ (aF _ ha),.inr (.inl ⟨hb,s.heap.objs.size,ps,hI,k _ _ (bz _ rfl),?_,o8,rfl⟩)⟩
   rw[<- eI]
   exact aN (lt _)
  | false=>
   rw[Qf (by simp)]
   refine ad (al ?_)
   refine fin (bx 0) s (es.toList.map (·.2)) ha (E8 _) (fun _ _ e=>e) rfl rfl rfl (ay _) fun h' I k _ hI=>?_
   refine⟨k _ _ ha,.inr (.inr ⟨hb,hd,0,hI,?_,rfl⟩)⟩
   obtain⟨b1,b2,b3⟩:=KP ht.up 0
   rcases Pj (ck t.place 0) with z | z
   .exact z
   .exact absurd (b2 0 z) (t0 _)
theorem ZY{S:aa}{t:bt}{res:ac}{R:lb->ae->Prop}(hh:A.handled=none)(hf:t.fits es.size=true)(ht:TabOk (ledOf w) t)(fq:a≠I)(pJ:S≠I)(hz:aJ.length<=1000):
  ∀(k i:Nat) (s:ae) (c:Nat),i+k=aJ.length->ItSt w s.heap I a es ep t aJ i->s.heap.get? S=some { cls:=.type "list",dict:=none,data:=.seq (aJ.take i).toArray c,slots:=#[] }->
   (∀h' c',h'.get? S=some { cls:=.type "list",dict:=none,data:=.seq aJ.toArray c',slots:=#[] }->(∀b o,b≠S->b≠I->s.heap.get? b=some o->h'.get? b=some o)->R (.ok (.ret res)) { s with heap:=h' })->
   dR (aj prog w) A (.builtin "list.extend.loop" ⟨[.ref S,.ref I,res],[]⟩) R s:=by
 intro k
 induction k with
 | zero=>
  intro i s c hk bv hS hR
  have hi:i=aJ.length:=by omega
  refine iC Oo ?_
  rw[le tX _]
  show af _ A.in1 (cC (.ref I) >>= _) _ _ s
  refine ad (jdL (A:=A.in1) hh hf ht fq bv hi fun h1 k1=>?_)
  refine al ?_
  rw[hi,ce]at hS
  exact hR h1 c (k1 _ _ pJ hS) fun b o _ hb e=>k1 _ _ hb e
 | succ k ih=>
  intro i s c hk bv hS hR
  have hi:i < aJ.length:=by omega
  refine iC Oo ?_
  rw[le tX _]
  show af _ A.in1 (cC (.ref I) >>= _) _ _ s
  refine ad (jb8 (A:=A.in1) hf ht fq bv hi fun h1 rS k1=>?_)
  dsimp only
  have cy:=k1 _ _ pJ hS
  refine ad ?_
  show af _ _ (DK S (·.push (aJ.getD i Value.none))) _ _ _
  refine Dv cy rfl ?_ (by simp only[bP,a_];exact cQ (jw (by omega))) (by simp only[Array.size_push,bP,a_];exact xQ (cQ (jw (by omega))))
  refine al ⟨mx tX _,?_⟩
  obtain⟨c2,bT⟩:∃c2,(h1.update S (eF (·.push (aJ.getD i Value.none)))).get? S=some (dh "list" ((aJ.take i).toArray.push (aJ.getD i Value.none)) c2):=⟨_,xI cy _⟩
  have oI:∀b o,b≠S->h1.get? b=some o->(h1.update S (eF (·.push (aJ.getD i Value.none)))).get? b=some o:=fun b o hb e=>(xu _ _ (aO hb)).trans e
  have et:((aJ.take i).toArray.push (aJ.getD i Value.none))=(aJ.take (i+1)).toArray:=by
   rw[cq,aC hi];simp[hi]
  rw[et]at bT
  refine ih (i+1) _ c2 (by omega) (rS.kept fun b o e hc=>oI b o (fun z=>?_) e) bT fun h' c' e1 e2=>hR h' c' e1 fun b o hb dD e=>e2 b o hb dD (oI b o hb (k1 _ _ dD e))
  rw[z,cy]at e
  cases e
  exact hc rfl
end
open PySem PySem.Spec PySem.Calls PyProof.Rows PySem.W
section
theorem jdZ{r:aa}{Q:Bool->ae->Prop}(hT:s.TypeIs (.ref r) "set")(h:Q false s):af (aj prog w) A (OE (.ref r)) Q E s:=by
 unfold OE;refine ad (wpAny_specialOf hT PySem.F.slot_set_len.lookup ?_);generalize hid:("set.__len__" : String)=id0;wp_delta;rw[show splitId id0=some ("set","__len__") from by subst hid;decide +kernel];subst hid;refine ad (mt (T:="set") (b:=true) hT (by rw[xa];kernel_rfl) ?_);refine DD (fun eR=>absurd eR (by decide)) (fun _=>?_);refine DD (fun _=>?_) (fun eR=>absurd (by decide +kernel) eR);exact ad (mq hT (al h))
theorem Z9{t:bt}{R:List ac->ae->Prop}(hh:A.handled=none)(ha:s.heap.get? a=some (Jp es ep t))(hf:t.fits es.size=true)(ht:TabOk (ledOf w) t)(hz:es.size<=1000)
  (h:∀h' d' aJ,aJ.Perm (es.toList.map (·.2))->(∀b o,s.heap.get? b=some o->h'.get? b=some o)->R aJ { s with heap:=h',drawn:=d' }):af (aj prog w) A (collect (.ref a)) R E s:=by
 have B1:a < s.heap.objs.size:=aI ha
 unfold collect
 refine ad (wpAny_runValue (iC entry_proto_collect' ?_))
 rw[le PySem.F.plain_proto_collect _]
 show af _ A.in1 (w_ [] >>= fun l=>again (.builtin "list.__iadd__" ⟨[l,.ref a],[]⟩)) _ _ s
 refine ad (dG ?_)
 refine al ⟨mx Om _,iC entry_list_iadd' ?_⟩
 rw[le Om _]
 show af _ A.in1 (OF (.ref s.heap.objs.size) (.ref a) (.ref s.heap.objs.size)) _ _ _
 have hS:(s.heap.push { cls:=.type "list",data:=.seq ([]:List ac).toArray }).get? s.heap.objs.size=some { cls:=.type "list",data:=.seq #[] }:=bz _ rfl
 have vP:(s.heap.push { cls:=.type "list",data:=.seq ([]:List ac).toArray }).get? a=some (Jp es ep t):=aF _ ha
 have Av:∀b o,s.heap.get? b=some o->(s.heap.push { cls:=.type "list",data:=.seq ([]:List ac).toArray }).get? b=some o:=fun b o e=>aF _ e
 have rQ:s.heap.objs.size < (s.heap.push { cls:=.type "list",data:=.seq ([]:List ac).toArray }).objs.size:=aI hS
 generalize (s.heap.push { cls:=.type "list",data:=.seq ([]:List ac).toArray })=h1 at *
 unfold OF
 refine ad (mq (T:="set") ⟨_,vP,rfl⟩ ?_)
 have e1:OD (.ref s.heap.objs.size) (.ref a)=false:=by
  have:s.heap.objs.size≠a:=gZ B1;simp[OD,this]
 rw[Qf (by rw[e1];decide)]
 refine ad (jdW (A:=A.in1) (s:={ s with heap:=h1 }) vP hf ht hz fun I h2 d2 aJ hI st hp rZ=>?_)
 have sW:=rZ _ _ vP
 have bT:=rZ _ _ hS
 have pJ:s.heap.objs.size≠I:=aN (cm rQ hI)
 have fq:a≠I:=aN (cm (lj B1 rQ) hI)
 have AT:aJ.length<=1000:=by
  rw[hp.length_eq,am,fL];exact hz
 refine ad (de (jdZ ⟨_,sW,rfl⟩ ?_))
 refine DD (fun _=>?_) (fun _=>?_)
 .refine ad (gq (ad ?_))
  show af _ _ (DK s.heap.objs.size (·.push .none) >>= fun _=>DK s.heap.objs.size (·.pop)) _ _ _
  refine ad (Dv bT rfl ?_ (by decide) (by show 1<=aB+1;omega))
  obtain⟨c3,B6⟩:∃c3,(h2.update s.heap.objs.size (eF (·.push Value.none))).get? s.heap.objs.size=some (dh "list" (#[].push Value.none) c3):=⟨_,xI bT _⟩
  refine Dv B6 rfl ?_ (by show 1<=aB;rw[gr];decide) (by show 0<=aB+1;omega)
  obtain⟨c4,Lw⟩:∃c4,((h2.update s.heap.objs.size (eF (·.push Value.none))).update s.heap.objs.size (eF (·.pop))).get? s.heap.objs.size=some (dh "list" ((#[].push Value.none).pop) c4):=⟨_,xI B6 _⟩
  have oI:∀b o,b≠s.heap.objs.size->h2.get? b=some o->((h2.update s.heap.objs.size (eF (·.push Value.none))).update s.heap.objs.size (eF (·.pop))).get? b=some o:=fun b o hb e=>(xu _ _ (aO hb)).trans ((xu _ _ (aO hb)).trans e)
  refine al ⟨mx tX _,ZY hh hf ht fq pJ AT aJ.length 0 _ c4 (by omega) (st.kept fun b o e hc=>oI b o (fun z=>?_) e) Lw fun h' c' e k=>?_⟩
  .rw[z,bT]at e
   cases e
   exact hc rfl
  .show af _ A (load s.heap.objs.size >>= _) _ _ _
   refine ad (p7 e (al ?_))
   refine h h' d2 aJ hp fun b o q=>?_
   have hb:=aI q
   exact k b o (aN hb) (aN (cm (lj hb rQ) hI)) (oI b o (aN hb) (rZ _ _ (Av _ _ q)))
 .refine al ⟨mx tX _,ZY hh hf ht fq pJ AT aJ.length 0 _ _ (by omega) st bT fun h' c' e k=>?_⟩
  show af _ A (load s.heap.objs.size >>= _) _ _ _
  refine ad (p7 e (al ?_))
  refine h h' d2 aJ hp fun b o q=>?_
  have hb:=aI q
  exact k b o (aN hb) (aN (cm (lj hb rQ) hI)) (rZ _ _ (Av _ _ q))
end
abbrev jf0(X:Cx)(v:aa)(σ:List Int):HO:=.ext fun h=>SetAt X.prog X.w h v (ledOf X.w) σ
variable {X:Cx}{H:Hp}
theorem Inv.drawn{ab:List (aa×Obj)}{σ:St}{h':aq}{d':Drawn}(I:Inv X ab σ H s)(k:∀b u,s.heap.get? b=some u->h'.get? b=some u):Inv X ab σ H { s with heap:=h',drawn:=d' }:=
 I.call (g':=s.gens) (t':=s.toks) (d':=d') (ch:=[]) (Un.kept k) (I.hok.kept k) I.bare fun _ z=>nomatch z
theorem K7(hc:X.calm=true):qd X (.type "set") (fun xs H Q=>∃(p:aa) (ns:List Int),xs=[.ref p]/\SqL X.K H p (ns.map V.int)/\ns.length<=1000/\∀v,H v=none->Q (.ref v) (upd H v (jf0 X v (dedup ns)))):=by
 intro ab s σ H xs us Q I r h;obtain⟨p,ns,rfl,hq,hz,q⟩:=h;obtain⟨u,rfl,rx⟩:=qZ r
 cases rx
 obtain⟨its,rv,⟨⟨c1,d1,t1,l1⟩,n1,o1,z1,z2,z3⟩,eh⟩:=I.list hq;simp only at z1 z2 z3;subst z1 z2 z3;refine PySem.set_of_list (I.ok.hd hc) o1 (yi rv) (by unfold mw;omega) fun h' tk hS hk=>?_
 have l6:=hS;obtain⟨es,ep,t,e,_⟩:=l6;refine⟨.ref s.heap.objs.size,_,I.laid (t':=tk) hk (ay _) (show ObjOk X.prog X.w _ _ _ (jf0 X s.heap.objs.size (dedup ns)) from⟨hS,⟨_,e⟩,fun h1 h2 x k=>x.kept k⟩),rfl,q _ (I.hok.fresh (ay _))⟩
theorem JS(hc:X.calm=true):qd X (.builtin "sorted") (fun xs H Q=>∃(p:aa) (τ:List Int),xs=[.ref p]/\H p=some (jf0 X p τ)/\τ.length < 64/\∀(l:aa) (ns:List Int),H l=none->ns.Perm τ->ns.Pairwise (·<=·)->Q (.ref l) (upd H l (.lst (ns.map V.int)))):=by
 intro ab s σ H xs us Q I r h;obtain⟨p,τ,rfl,hp,wb,q⟩:=h;obtain⟨u,rfl,rx⟩:=qZ r
 cases rx
 obtain⟨⟨es,ep,t,ho,fX,⟨l0,Cf,o_⟩,hb,hf,ht⟩,_⟩:=I.hok p _ hp;have hz:es.size=τ.length:=by
  have h1:=Cf.length;rw[am,fL]at h1;rw[h1,o_.length_eq]
 refine Oz kind_sorted plain_sorted entry_sorted (args_sorted1 _) ?_;unfold Builtin.«sorted»;refine ad (m:=checkCount "sorted" 1 1 _) (al (ad ?_));refine Z9 (A:=X.A.in1) (show X.A.in1.handled=none from I.ok.hd hc) ho hf ht (by omega) fun h' d' aJ hv hk=>?_
 obtain⟨ns0,hI,gM⟩:=JB Cf hv;have hl:aJ.length=τ.length:=by rw[hI.length,gM.length_eq,o_.length_eq]
 refine ad (DA ?_ (by rw[hl];exact aZ (by omega) jaL));have ik:(h'.push (dh "list" aJ.toArray 0)).get? h'.objs.size=some (dh "list" aJ.toArray 0):=bz _ rfl;refine ad (de (fF slot_list_sort ⟨_,ik,rfl⟩ entry_list_sort (list_sort_tree ik hI (by omega) fun out lH a1 a2 a3=>⟨_,rfl,?_⟩) (args_list_sort _)));refine al ⟨_,rfl,?_⟩;have I1:Inv X ab σ H { s with heap:=h',drawn:=d' }:=I.drawn hk;obtain⟨e,he⟩:=sortedHeap_at (out:=out) ik;refine⟨.ref h'.objs.size,_,I1.laid (t':=s.toks) (a:=h'.objs.size) (fun b o hb=>?_) (ay _) (show ObjOk X.prog X.w _ _ _ (.lst (lH.map V.int)) from⟨?_,_,e,yt a1,?_⟩),rfl,q _ _ (I1.hok.fresh (ay _)) (a2.trans (gM.trans o_)) a3⟩
 .have aG:=aI hb
  rw[sortedHeap_old (aN aG) (by rw[EG];exact t8 aG)];exact aF _ hb
 .rw[am,a2.length_eq,<- hI.length,hl]
  exact aZ (by omega) jaL
 .rw[P_]
  exact he
abbrev K1(P:av)(w:ar)(v:aa)(σ:List Int):HO:=.ext fun h=>SetAt P w h v (ledOf w) σ
theorem zh{P:av}(hc:X.calm=true)(h1:X.prog=P:=by rfl)(h2:X.w=w:=by rfl):qd X (.type "set") (fun xs H Q=>∃(p:aa) (ns:List Int),xs=[.ref p]/\SqL X.K H p (ns.map V.int)/\ns.length<=1000/\∀v,H v=none->Q (.ref v) (upd H v (K1 P w v (dedup ns)))):=by
 subst h1 h2;exact K7 hc
theorem qC{P:av}(hc:X.calm=true)(h1:X.prog=P:=by rfl)(h2:X.w=w:=by rfl):qd X (.builtin "sorted") (fun xs H Q=>∃(p:aa) (τ:List Int),xs=[.ref p]/\H p=some (K1 P w p τ)/\τ.length < 64/\∀(l:aa) (ns:List Int),H l=none->ns.Perm τ->ns.Pairwise (·<=·)->Q (.ref l) (upd H l (.lst (ns.map V.int)))):=by
 subst h1 h2;exact JS hc
theorem Yj(hu:X.A.units+1 < cLine):OpR X (cX .Eq) (fun x y H Q=>∃(a b:aa) (ns ms:List Int),x=.ref a/\y=.ref b/\SqL X.K H a (ns.map V.int)/\SqL X.K H b (ms.map V.int)/\ns.length=ms.length/\Q (.bl (decide (ns=ms))) H):=by
 intro ab s σ H x y v u Q I rx ry h;obtain⟨a,b,ns,ms,rfl,rfl,ha,hb,hl,q⟩:=h
 cases rx;cases ry
 obtain⟨its,bI,ta,_⟩:=I.list ha;obtain⟨aK,bM,tb,_⟩:=I.list hb;have l1:=bI.length;have l2:=bM.length;rw[am]at l1 l2;have key:=Eg (A:=X.A) (s:=s) (e:=fun j=>ns.getD j 0 == ms.getD j 0) ta.isList tb.isList (by simp;omega) (by omega) (fun j h1 h2=>by
  have cz:j < ns.length:=by rw[l1];simpa using h1
  have b9:j < ms.length:=by omega
  obtain⟨u1,e1,t1,r1⟩:=bI.get (i:=j) (x:=.int ns[j]) (by rw[bA,aC cz];rfl);obtain⟨u2,e2,t2,r2⟩:=bM.get (i:=j) (x:=.int ms[j]) (by rw[bA,aC b9];rfl);have eu:its.toArray[j]=.int ns[j] t1:=by
   have:=(aV.mp e1).2;rw[<- r1,<- this];simp
  have ev:aK.toArray[j]=.int ms[j] t2:=by
   have:=(aV.mp e2).2;rw[<- r2,<- this];simp
  rw[eu,ev];have g1:ns.getD j 0=ns[j]:=by simp[cz]
  have g2:ms.getD j 0=ms[j]:=by simp[b9]
  rw[g1,g2];exact Ej _ _ _ _)
 have e:((bm its.toArray.size).all fun j=>ns.getD j 0 == ms.getD j 0)=decide (ns=ms):=by
  have hs:its.toArray.size=ns.length:=by simp;omega
  rw[hs];apply mL.mpr;rw[lA,decide_eq_true_iff];constructor
  .intro h
   apply E4 hl;intro j h1 h2;have:=h j (iI.mpr h1);simpa[h1,h2]using this
  .rintro rfl j _
   simp
 rw[e]at key;exact key X.prog X.w X.xe _ ⟨.bl _,H,I,rfl,q⟩
theorem jcr{scope:b_}{own:List Str}{fr:List Nat}{bU tg iter:ag}{ifs:List ag}{pos:Pos}{wi:TI}{g:TG}{tt:TT}{te:TE}{use:Option (ac->Sem Unit)}(hc:X.calm=true)(O:CompOk X scope fr)(hi:PI X tg iter wi)
  (hb:∀s H ex,PG (blk X scope own fr s H ex) tg g/\PTs (blk X scope own fr s H ex) ifs tt/\PE (blk X scope own fr s H ex) bU te)
  (hs:∀x,gV iter X.env x=pure x) {ab:List (aa×Obj)} {s:ae} {σ:St} {H:Hp} {Q:VK} {R:ac->ae->Prop} (I:Inv X ab σ H s) (h:Yd own fr wi g tt te σ H Q) (hx:∀e s',X.xe e s'↔False)
  (fin:∀(p C:aa) (H':Hp) (s':ae) (m:Str->Option ac),s'.heap.Ns C m->H' C=none->C≠X.env.locals->(∀x c,X.env.cells.lookup x=some c->c≠C)->X.s₀.heap.objs.size<=C->(∀p∈X.pn++ab,p.1≠C)->Inv X ab σ H' s'->(∀h',df C s'.heap h'->Inv X ab σ H' { s' with heap:=h' })->Q (.ref p) H'->
   rg (aj X.prog X.w) X.A X.xe use R (.ref p) C (.ok .next) s') :
  af (aj X.prog X.w) X.A (comprehension (.ListComp bU [⟨tg,iter,ifs,0⟩] scope pos) scope X.env (xf [⟨tg,iter,ifs,0⟩] pos) (w_ []) false (eval iter X.env) use) R X.xe s:=by
 have da:∀x∈scope.names,x.2=.free->(X.env.cells.lookup x.1).isSome=true:=fun x cg e=>by
  obtain⟨c,hc⟩:=I.ok.has x.1 (O.frees x cg e);rw[hc];rfl
 have no:∀(E:ac->ae->Prop) (x:ac) (s':ae),X.xe x s'->E x s':=fun E x s' z=>((hx x s').mp z).elim
 refine DG (cl:=zW X.env.cells scope.names []) rfl hs (yT da) O.kind O.loc ?_
 refine thn (hi ab s σ H _ I h) fun v s1 h1=>thn h1 fun oP s2 h2=>?_
 obtain⟨it,fp,tn,J,H2,e,I2,T,eX,f2,q2⟩:=h2
 subst e
 refine dG ?_
 have nw:H2 s2.heap.objs.size=none:=I2.fresh
 obtain⟨W,⟨m0,w0⟩,eL⟩:=q2 _ nw
 generalize hp:s2.heap.objs.size=p at *
 have I3:Inv X ab σ (upd H2 p (.lst [])) { s2 with heap:=s2.heap.push { cls:=.type "list",dict:=none,data:=.seq ([]:List ac).toArray } }:=by
  have:=I2.lnew (ys:=[]) (its:=[]) (t':=s2.toks) .nil (bE _);rw[hp]at this;exact this
 have iQ:∀b∈fp,b < s2.heap.objs.size:=fun b hb=>by
  obtain⟨o,ho,_⟩:=T.obj _ _ eX b hb;exact aI ho
 have i7:∀b∈fp,(upd H2 p (.lst [])) b=none:=fun b hb=>by
  rw[jl (by rw[<- hp];exact aN (iQ b hb))];exact (f2 b hb).1
 generalize hs3:({ s2 with heap:=s2.heap.push { cls:=.type "list",dict:=none,data:=.seq ([]:List ac).toArray } }:ae)=s3 at *
 have oo:s3.heap.objs.size=p+1:=by
  rw[<- hs3];show (s2.heap.push _).objs.size=_;rw[dU,hp]
 have st3:tn 0 s3.heap:=T.keep 0 _ _ eX fun b hb o e=>by
  rw[<- hs3];exact aF _ e
 refine DB O.nocell (by intro y hy;simp at hy) (fun h4 iY o0=>?_) O.kind
 have k4:∀b o,s3.heap.get? b=some o->h4.get? b=some o:=fun b o e=>o0.extBut b o (aN (aI e)) (aF _ e)
 have pb:h4.Ns s3.heap.objs.size fun _=>none:=by
  have z:(fun x:Str=>([]:List (Str×ac)).reverse.lookup x)=fun _=>none:=by funext x;rfl
  rw[z]at iY;exact iY
 have fo:∀b∈fp,Jm X ab (upd H2 p (.lst [])) b/\b < s3.heap.objs.size:=fun b hb=>⟨⟨i7 b hb,(f2 b hb).2⟩,by rw[oo,<- hp];exact t8 (iQ b hb)⟩
 have I4:=Y6 (own:=own) (fr:=fr) (t1:=s3.toks+([]:List (Str×ac)).length) I3 O fo pb k4
 have dA:tn 0 h4:=T.keep 0 _ _ st3 fun b hb o e=>k4 b o e
 obtain⟨hg,ht,he⟩:=hb s3 (upd H2 p (.lst [])) fp
 have cF:∀{H':Hp} {pn:List (aa×Obj)} {s':ae} {σ':St},Inv (blk X scope own fr s3 (upd H2 p (.lst [])) fp) [] σ' H' s'->(∀b∈fp,H' b=none)->∀b∈fp,Jm (blk X scope own fr s3 (upd H2 p (.lst [])) fp) [] H' b:=fun {H' pn s' σ'} J hn b aW=>
  ⟨hn b aW,(J.ok.exf b aW).1,J.ok.exfs b aW,.inl aW,(J.ok.exf b aW).2,fun p hp=>absurd hp (by simp[blk])⟩
 have oJ:∀x c,X.env.cells.lookup x=some c->c≠s3.heap.objs.size:=fun x c e=>by
  obtain⟨v,q⟩:=I3.cell x c e;exact aN q.lt
 have loop:∀s5:ae,s5={ s3 with heap:=h4,toks:=s3.toks+([]:List (Str×ac)).length }->
   dR (aj X.prog X.w) X.A (.compLoop (.ListComp bU [⟨tg,iter,ifs,0⟩] scope pos) 0 (.ref it) (.ref p) (blk X scope own fr s3 (upd H2 p (.lst [])) fp).env) (rg (aj X.prog X.w) X.A X.xe use R (.ref p) s3.heap.objs.size) s5:=by
  rintro s5 rfl
  refine Jh (fun n s'=>∃i σ' H',Inv (blk X scope own fr s3 (upd H2 p (.lst [])) fp) [] σ' H' s'/\tn i s'.heap/\(∀b∈fp,H' b=none)/\W i n σ' H') ?_ m0 ⟨0,_,_,I4,dA,i7,w0⟩
  rintro n s6 ⟨i,σ6,H6,I6,iK,i6,w6⟩
  rcases eL i n σ6 H6 w6 with⟨stop,qn⟩ | ⟨go,N,hN,step⟩
  .refine thn (T.done (blk X scope own fr s3 (upd H2 p (.lst [])) fp) rfl rfl rfl hc i [] s6 σ6 H6 _ I6 (cF (pn:=[]) I6 i6) iK stop) fun r s7 ⟨hr,I7⟩=>?_
   subst hr
   obtain⟨m,hm,_⟩:=I7.loc
   exact fin p _ H6 s7 m hm I7.free (gZ I3.lt) oJ I3.sz (fun p hp=>aN (aI (I3.pin p hp).1)) (zF I3 fo I7 (xx ..)) (fun h' eN=>zF I3 fo I7 eN) qn
  .refine thn (T.item (blk X scope own fr s3 (upd H2 p (.lst [])) fp) rfl rfl rfl hc i [] s6 σ6 H6 _ I6 (cF (pn:=[]) I6 i6) iK go) fun r s7 ⟨u,hr,h7⟩=>?_
   subst hr
   refine thn h7 fun _ s8 hM=>?_
   obtain⟨x,H8,I8,r8,y8,fN,pR⟩:=hM
   have pY:=I8.pinned (cF (pn:=[]) I8 pR) (T.obj _ _ fN)
   refine thn (hg _ s8 σ6 H8 x u _ pY r8 (step x H8 y8)) fun _ s9 hM=>?_
   obtain⟨σ9,H9,I9,q9⟩:=hM
   refine thn (ht _ s9 σ9 H9 _ I9 q9) fun ok gH hM=>?_
   obtain⟨pZ,i9,d_⟩:=hM
   have again:∀{cO:Hp} {cI:ae},Inv (blk X scope own fr s3 (upd H2 p (.lst [])) fp) ([]++zL fp s8.heap) σ9 cO cI->(∃m',m' < n/\W (i+1) m' σ9 cO)->
     ∃m,m < n/\∃i σ' H',Inv (blk X scope own fr s3 (upd H2 p (.lst [])) fp) [] σ' H' cI/\tn i cI.heap/\(∀b∈fp,H' b=none)/\W i m σ' H':=fun {cO cI} dy ⟨m',hm,og⟩=>by
    refine⟨m',hm,i+1,σ9,cO,dy.unpinned,T.keep _ _ _ fN fun b aW o e=>(dy.pin (b,o) (cE _ (cE _ (kX aW e)))).1,fun b aW=>?_,og⟩
    obtain⟨o,e,d⟩:=T.obj _ _ fN b aW
    exact (dy.pin (b,o) (cE _ (cE _ (kX aW e)))).2.1
   cases ok with
   | false=>
    rw[Qf bB]at d_ |-
    exact again i9 (hN _ _ d_)
   | true=>
    rw[Qg rfl]at d_ |-
    refine thn (he _ gH σ9 pZ _ i9 d_) fun yv cI hM=>?_
    obtain⟨y,cO,dy,oC,ys,c_,bd,oF⟩:=hM
    have ap:=kR (X:=blk X scope own fr s3 (upd H2 p (.lst [])) fp) ([]++zL fp s8.heap) cI σ9 cO (.ref p) [y] (.ref p) [yv] (fun _ nG=>∃m',m' < n/\W (i+1) m' σ9 nG) dy rfl (.cons oC .nil) ⟨p,ys,y,rfl,rfl,c_,bd,hN _ _ oF⟩
    exact thn ap fun _ bc ⟨_,nG,nF,_,oE⟩=>again nF oE
 refine ND (loop _ rfl) (T.self X.A 0 _ _ _ dA (loop _ rfl))
theorem zc{X:Cx}{scope:b_}{bU tg iter:ag}{ifs:List ag}{pos:Pos}{wi:TI}{g:TG}{tt:TT}{te:TE}{i:Nat}{y:Str}{py ot:Pos}(hN:X.N.Nodup)(cM:X.N[i]?=some y)(hy:Loc X.env.scope y)(own:List Str)(fr:List Nat)(hc:X.calm=true)(O:CompOk X scope fr)(hi:PI X.nox tg iter wi)
  (hb:∀s H ex,PG (blk X.nox scope own fr s H ex) tg g/\PTs (blk X.nox scope own fr s H ex) ifs tt/\PE (blk X.nox scope own fr s H ex) bU te)
  (hs:∀x,gV iter X.env x=pure x:=by intro _;rfl)
  (GY:iz (.ListComp bU [⟨tg,iter,ifs,0⟩] scope pos) (some (.Name y py)) ot.line X.env=pure true:=by rfl)
  (hf:X.fn y=true\/X.env.scope.names.lookup y=some .local:=by first | exact .inl rfl | exact .inr rfl | assumption) :
  PS X.nox (.Assign [.Name y py] (.ListComp bU [⟨tg,iter,ifs,0⟩] scope pos) ot) (jap (Yd own fr wi g tt te) (kU i)):=by
 intro ab s σ H D I h
 rw[exec_Assign_Name_used _ _ _ _ GY]
 refine ad (tI (ad ?_))
 show af _ _ (do let _ <- comprehension (.ListComp bU [⟨tg,iter,ifs,0⟩] scope pos) scope X.nox.env _ (w_ []) false (eval iter X.nox.env) (some (assign (.Name y py) X.nox.env))) _ _ s
 refine ad (cB (jcr (X:=X.nox) (use:=some (assign (.Name y py) X.nox.env)) (R:=fun _ s'=>SP X.nox ab D .next s') hc ⟨O.kind,O.nocell,O.loc,O.frees,O.fr⟩ hi hb hs I h (fun _ _=>Iff.rfl)
  fun p C H' s' m hm hC hL lY hz HB I' tz q=>?_) (fun _ s' hq=>al (al hq)) fun _ _ e=>e)
 show af _ _ (assign (.Name y py) X.nox.env (.ref p)) _ _ _
 refine M1 (Ye (v:=.ref p) I' hN cM hy rfl (fun s2 I2 Hd=>?_) hf)
 obtain⟨a,He,ha⟩:=Hd
 have LV:C≠a:=by
  rcases ha with rfl | e
  .exact hL
  .exact fun z=>lY _ _ e z.symm
 refine⟨m,hm.sameBut He LV,fun h' eN=>?_⟩
 exact⟨_,H',I2.turned (t':=s2.toks) (fun b o hb e=>(eN.2 b hb).trans e) hC hL (.inr hz) lY HB,q⟩
section
variable {ab:List (aa×Obj)}{σ:St}{tg:ag}
theorem Inv.relabel{u v:HO}(I:Inv X ab σ H s)(hu:H a=some u)(h1:∀xs,u≠.tup xs)(h2:∀ps,u≠.tbl ps)(h3:∀o z,X.H₀ a≠some (.frz o z))(h4:∀x,u≠.own x)(hv:ObjOk X.prog X.w (upd H a v) s.heap a v):Inv X ab σ (upd H a v) s:=by
 have ne:∀b,H b=none->b≠a:=fun b n z=>by rw[z,hu]at n;cases n
 have nt:∀b xs,H b=some (.tup xs)->b≠a:=fun b xs n z=>by rw[z,hu]at n;exact h1 xs (dW n)
 have no:∀b x,H b=some (.own x)->b≠a:=fun b x n z=>by rw[z,hu]at n;exact h4 x (dW n)
 refine⟨I.ok,I.os,I.bare,⟨I.base.keep,I.base.slot,fun b o e n hx=>?_,I.base.there,fun b xs e=>?_,fun b o z e=>?_,fun b ps e=>?_,I.base.stay⟩,I.loc,I.cell,?_,fun x c e=>?_,fun p hp=>?_,fun b o e=>?_,I.len⟩
 .have q:=I.base.free b o e n hx
  rw[jl (ne b q)];exact q
 .have q:=I.base.tups b xs e
  rw[jl (nt b xs q)];exact q
 .have hb:b≠a:=fun z'=>by subst z';exact h3 _ _ e
  rw[jl hb];exact I.base.frzs b o z e
 .obtain⟨m,q⟩:=I.base.tbls b ps e
  have hb:b≠a:=fun z'=>by rw[z',hu]at q;exact h2 _ (dW q)
  exact⟨m,by rw[jl hb];exact q⟩
 .rw[jl (ne _ I.free)];exact I.free
 .rw[jl (ne _ (I.freeC x c e))];exact I.freeC x c e
 .obtain⟨q1,q2,q3⟩:=I.pin p hp
  exact⟨q1,by rw[jl (ne _ q2)];exact q2,q3⟩
 .by_cases hb:b=a
  .subst hb
   rw[ja]at e
   cases e
   exact hv
  .rw[jl hb]at e
   exact (I.hok b o e).stay (fun _ _ _ q=>q) (fun c q=>by rw[jl (no c _ q)];exact q) fun c xs q=>by rw[jl (nt c xs q)];exact q
end
theorem Jk:bS "enumerate" = some (.type "enumerate"):=by decide +kernel
def Ite(K:ai)(l:aa):It:=
 ⟨fun i H=>∃xs x,SqL K H l xs/\xs[i]?=some x,fun i H x H'=>∃t y,H t=none/\(∀xs,SqL K H l xs->xs[i]?=some y)/\x=.ref t/\H'=upd H t (.tup [.int i,y]),fun i H=>∃xs,SqL K H l xs/\xs.length<=i⟩
theorem jbK{P:av}{K:ai}{gn:List ag}{x1:Nat}{tp:Pos}(l e it:aa)(bp:e≠it):Turn P w K (.Tuple gn x1 tp) (Ite K l) [e,it] e (fun i h=>(∃bq,gu h e it i bq)/\h.IsListIter it l i) where
 mem:=by simp
 obj:=fun i h st b hb=>by
  obtain⟨⟨bq,h1⟩,o,e2,c,d⟩:=st;rcases bg.mp hb with rfl | hb
  .exact⟨_,h1,fun v z=>by cases z⟩
  .rw[bu.mp hb]
   exact⟨o,e2,fun v z=>by rw[d]at z;cases z⟩
 keep:=fun i h h' st k=>by
  obtain⟨⟨bq,h1⟩,o,e2,c,d⟩:=st;exact⟨⟨bq,k e (by simp) _ h1⟩,o,k it (by simp) o e2,c,d⟩
 item:=by
  intro X hP hw hK hc i ab s σ H E I hf st hg;subst hP hw hK;obtain⟨xs,x,hq,hx⟩:=hg;obtain⟨⟨bq,hE⟩,bY⟩:=st;obtain⟨its,rv,p,hz⟩:=I.list hq;obtain⟨u,hu,ru⟩:=rv.get hx;obtain⟨a0,a1,a2,a3,a4,a5⟩:=hf e (by simp);obtain⟨f0,f1,f2,f3,f4,f5⟩:=hf it (by simp);refine wpAny_pyNext_enum_item hE bY p.isList (x:=u) (by simpa using hu) bp fun h' o1 o2 o3 o4 o5=>?_
  refine⟨_,rfl,MW (s:={ s with heap:=h',toks:=s.toks+1 }) o1 fun h2 g1 g2=>?_⟩;have dv:H s.heap.objs.size=none:=I.hok.fresh (ay _);have kp:∀b o,b≠e->b≠it->s.heap.get? b=some o->h2.get? b=some o:=fun b o hb aW q=>(g2.2 b hb).trans (o5 b o hb aW q)
  have nt:∀b o,s.heap.get? b=some o->b≠s.heap.objs.size:=fun b o q=>aN (aI q)
  have ne:∀b z,H b=some z->b≠e/\b≠it:=fun b z q=>⟨fun t=>(by rw[t,a0]at q;cases q),fun t=>(by rw[t,f0]at q;cases q)⟩
  have pA:s.heap.objs.size≠e:=fun z=>absurd (aI hE) (by rw[<- z];exact mF _)
  have I1:Inv X ab σ (upd H s.heap.objs.size (.tup [.int i,x])) { s with heap:=h2,gens:=s.gens,drawn:=s.drawn,toks:=s.toks+1 }:=by
   refine I.step (g':=s.gens) (d':=s.drawn) (ch:=[e,it]) (fun b hb=>?_) (fun b o _ _ bw q _=>kp b o (fun z=>bw (by simp[z])) (fun z=>bw (by simp[z])) q) (fun b o _ _ bw q _=>⟨o.slots,kp b o (fun z=>bw (by simp[z])) (fun z=>bw (by simp[z])) q⟩)
    (fun b o _ q n=>by rw[jl (nt b o q)];exact n) (fun b o bw q=>⟨o,kp b o (fun z=>bw (by simp[z])) (fun z=>bw (by simp[z])) q⟩) (fun b ys q=>by rw[jl (jo q dv)];exact q) (fun b o z q=>by rw[jl (jo q dv)];exact q)
    (fun b ps q=>⟨#[],by rw[jl (jo q dv),q];simp⟩) (fun m hm=>?_) (fun b z q=>?_) I.bare
   .rcases bg.mp hb with rfl | hb
    .exact⟨a3,a1,a4,a5⟩
    .rw[bu.mp hb];exact⟨f3,f1,f4,f5⟩
   .obtain⟨o,es,ep,ho,r⟩:=hm
    exact⟨o,es,ep,kp _ o (aO a1) (aO f1) ho,r⟩
   .by_cases hb:b=s.heap.objs.size
    .subst hb
     rw[ja]at q
     cases q
     refine⟨?_,[Value.int (i:Int) s.toks,u],.cons ⟨_,rfl⟩ (.cons ru .nil),_,(g2.2 _ pA).trans o3,rfl,0,rfl⟩;show 2<=aB;rw[gr];decide
    .rw[jl hb]at q
     refine (I.hok b z q).stay (fun c v bw q'=>?_) (fun c q'=>by rw[jl (jo q' dv)];exact q') fun c ys q'=>by rw[jl (jo q' dv)];exact q'
     rcases bw with rfl | bw
     .exact kp c v (ne c z q).1 (ne c z q).2 q'
     .exact kp c v (ne c _ bw).1 (ne c _ bw).2 q'
  refine⟨.ref s.heap.objs.size,_,I1,rfl,⟨_,x,dv,fun ys hy=>by rw[I.list_inj hy hq];exact hx,rfl,rfl⟩,⟨⟨_,g1⟩,?_⟩,fun b hb=>?_⟩
  .obtain⟨o,z1,z2,z3⟩:=o2
   exact⟨o,(g2.2 it (aO bp)).trans z1,z2,z3⟩
  .rcases bg.mp hb with rfl | hb
   .rw[jl (aO pA)];exact a0
   .rw[bu.mp hb]
    have:it≠s.heap.objs.size:=by
     obtain⟨o,z1,_⟩:=bY;exact nt it o z1
    rw[jl this];exact f0
 done:=by
  intro X hP hw hK hc i ab s σ H E I hf st hg;subst hP hw hK;obtain⟨xs,hq,hx⟩:=hg;obtain⟨⟨bq,hE⟩,bY⟩:=st;obtain⟨its,rv,p,hz⟩:=I.list hq;obtain⟨f0,f1,f2,f3,f4,f5⟩:=hf it (by simp);have hl:=rv.length;exact wpAny_pyNext_enum_end (I.ok.hd hc) hE bY p.isList (by simp;omega) fun h' eb=>⟨rfl,I.turned (t':=s.toks) (fun b o hb e=>eb b o hb e) f0 f1 f3 f4 f5⟩
 self:=fun _ _ _ _ _ st h=>by
  obtain⟨⟨bq,hE⟩,_⟩:=st;exact wU hE h
section
variable {gn:List ag}{x1:Nat}{tp:Pos}
def jfO(K:ai)(ta:TA):TI:=fun σ H R=>ta σ H fun vs H1=>∃l,vs=[.ref l]/\(∃xs,SqL K H1 l xs)/\R (Ite K l) H1
theorem jeN{a:ag}{ta:TA}{p pos:Pos}(hg:Gl X "enumerate")(hm:X.mg "enumerate" = none)(ha:PA X [a] ta)(hs:bo [a] X.env=[(false,eval a X.env)]:=by rfl):PI X (.Tuple gn x1 tp) (.Call (.Name "enumerate" p) [a] [] pos) (jfO X.K ta):=by
 intro ab s σ H R I h;refine Call_ (yh I hg hm Jk (rA (thn (ha pos ab s σ H _ I h) fun us s1 hM=>?_) hs rfl));obtain⟨vs,H1,I1,r1,q1⟩:=hM;obtain⟨l,e,⟨xs,hq⟩,q⟩:=q1;subst e;obtain⟨u,rfl,rx⟩:=qZ r1
 cases rx
 obtain⟨its,rv,pl,hz⟩:=I1.list hq;refine call_enumerate_list pl.isList fun h' g1 g2 g3 g4=>?_
 refine wU (s:={ s1 with heap:=h' }) g1 ?_;have I2:Inv X ab σ H1 { s1 with heap:=h' }:=I1.kept (t':=s1.toks) g4;refine⟨s1.heap.objs.size+1,[s1.heap.objs.size+1,s1.heap.objs.size],_,_,_,rfl,I2,jbK l _ _ (Pc _),⟨⟨_,g1⟩,g2⟩,fun b hb=>?_,q⟩;rcases bg.mp hb with rfl | hb
 .exact I1.fpOk (dX _) (I1.hok.fresh (dX _))
 .rw[bu.mp hb]
  exact I1.fpOk (ay _) (I1.hok.fresh (ay _))
theorem jd4{K:ai}{l:aa}{xs:List V}{g:TG}{tb:TS}{D:Ends}{σ:St}(Pv:Nat->St->Hp->Prop)(h0:Pv 0 σ H)(hl:∀i σ H,i<=xs.length->Pv i σ H->SqL K H l xs)
  (hs:∀i y σ H t,xs[i]?=some y->Pv i σ H->H t=none->g (.ref t) σ (upd H t (.tup [.int i,y])) fun σ2 H2=>tb { D with nx:=Pv (i+1),ct:=Pv (i+1),bk:=D.nx } σ2 H2) (hd:∀σ H,Pv xs.length σ H->D.nx σ H) :
  ∃W:Nat->Nat->St->Hp->Prop,(∃m,W 0 m σ H)/\∀i m σ H,W i m σ H->
   ((Ite K l).stop i H/\D.nx σ H)\/((Ite K l).go i H/\∃N:St->Hp->Prop,(∀σ' H',N σ' H'->∃m',m' < m/\W (i+1) m' σ' H')/\∀x H',(Ite K l).yld i H x H'->g x σ H' fun σ2 H2=>tb { D with nx:=N,ct:=N,bk:=D.nx } σ2 H2):=by
 refine⟨fun i m σ H=>m=xs.length - i/\i<=xs.length/\Pv i σ H,⟨xs.length,by simp,bE _,h0⟩,?_⟩
 rintro i m σ H ⟨rfl,hi,p⟩
 have q:=hl i σ H hi p
 by_cases aG:i < xs.length
 .refine .inr ⟨⟨xs,xs[i],q,by simp[aG]⟩,Pv (i+1),fun σ' H' p'=>⟨xs.length - (i+1),by omega,rfl,aG,p'⟩,fun x H' y=>?_⟩
  obtain⟨t,z,ht,hz,rfl,rfl⟩:=y
  exact hs i z σ H t (hz xs q) p ht
 .have:i=xs.length:=by omega
  subst this
  exact .inl ⟨⟨xs,q,ay _⟩,hd σ H p⟩
end
end L2
namespace PySem
open AutoSeq1 (wpAny_loadPart')
variable {it e:aa}{i:Nat}{x bq:ac}{Q:ac->ae->Prop}{items:Array ac}
section
variable {prog:av}{w:ar}{A:aD}{E:ac->ae->Prop}{s:ae}
theorem yZ{t:aa}{items}(bY:s.heap.IsTupleIter it t i)(ht:s.heap.IsTuple t items)(hx:items[i]?=some x)
  (hQ:∀h',h'.IsTupleIter it t (i+1)->df it s.heap h'->Q x { s with heap:=h' }):af (aj prog w) A (eV (.ref it)) Q E s:=by
 obtain⟨o,ho,hc,hd⟩:=id bY
 obtain⟨ol,m_,_,nl,ir⟩:=ht
 unfold eV
 refine ad (iy (name:=aM "__next__") bY.typeIs xA (fF xA bY.typeIs On ?_ (Os _)))
 show af _ _ (field (.ref it) 0 >>= _) _ _ s
 refine ad (bO ho hd (x:=.ref t) rfl ?_)
 show af _ _ (if (Value.ref t == Value.none)=true then _ else _) _ _ s
 rw[Qf (show ¬((Value.ref t == Value.none)=true) from bB)]
 show af _ _ (field (.ref it) 1 >>= _) _ _ s
 refine ad (bO ho hd (x:=.int i 0) rfl ?_)
 show af _ _ (ra (.ref t) >>= _) _ _ s
 refine ad (gS m_ ir ?_)
 simp only[lB,hx]
 refine ad (Dw ho hd (by simp) (al ⟨x,rfl,al (hQ _ ?_ (xw ..))⟩))
 exact⟨_,Ek _ ho (Obj.isFreed_of_fields (Od hd _)),(Obj.cls_mapFields ..).trans hc,by rw[Od hd];simp[bx]⟩
theorem qQ{t:aa}{items}(hh:A.handled=none)(bY:s.heap.IsTupleIter it t i)(ht:s.heap.IsTuple t items)(hx:items[i]?=none)
  (hE:∀h' e,Oh it s.heap h'->(∃o,h'.get? e=some o/\o.cls=.type "StopIteration")->E (.ref e) { s with heap:=h' }):af (aj prog w) A (eV (.ref it)) Q E s:=by
 obtain⟨o,ho,hc,hd⟩:=id bY
 obtain⟨ol,m_,_,nl,ir⟩:=ht
 unfold eV
 refine ad (iy (name:=aM "__next__") bY.typeIs xA (fF xA bY.typeIs On ?_ (Os _)))
 show af _ _ (field (.ref it) 0 >>= _) _ _ s
 refine ad (bO ho hd (x:=.ref t) rfl ?_)
 show af _ _ (if (Value.ref t == Value.none)=true then _ else _) _ _ s
 rw[Qf (show ¬((Value.ref t == Value.none)=true) from bB)]
 show af _ _ (field (.ref it) 1 >>= _) _ _ s
 refine ad (bO ho hd (x:=.int i 0) rfl ?_)
 show af _ _ (ra (.ref t) >>= _) _ _ s
 refine ad (gS m_ ir ?_)
 simp only[lB,hx]
 refine ad (gq (ad (Dw ho hd (by simp) ?_)))
 show af _ _ (nU (.type "StopIteration") [] >>= _) _ _ _
 refine ad ?_
 simp only[nU,w9]
 refine ad (dG ?_ (by size_fits))
 refine ad (m:=tO _ _) (wV (a:=Value.none) (by first | rfl | (simp only[tO];rfl)) ?_)
 refine dG ?_ (by size_fits)
 simp only[re]
 refine ad (DE ?_)
 first | rw[show A.in1.handled=none from hh] | rw[hh]
 refine ad (al (wS ?_))
 exact hE _ _ (((xw ..).extBut.push _).push _) ⟨_,bz _ rfl,rfl⟩
theorem jck{St:aq->Prop}(he:gu s.heap e it i bq)(bp:e≠it)
  (vz:∀Q':ac->ae->Prop,(∀h',St h'->df it s.heap h'->Q' x { s with heap:=h' })->af (aj prog w) A (eV (.ref it)) Q' E s)
  (keep:∀h h',St h->(∀o,h.get? it=some o->h'.get? it=some o)->St h')
  (hQ:∀h',xt h' e it ((i:Int)+1) x s.heap.objs.size->St h'->h'.get? s.heap.objs.size=some { cls:=.type "tuple",data:=.seq #[.int i s.toks,x] }->h'.objs.size=s.heap.objs.size+1->
   (∀b o,b≠e->b≠it->s.heap.get? b=some o->h'.get? b=some o)->Q (.ref s.heap.objs.size) { s with heap:=h',toks:=s.toks+1 }) :
  af (aj prog w) A (Builtin.«enumerate.__next__» ⟨[.ref e],[]⟩) (fun fin s'=>∃v,fin=.done (.ret v)/\Q v s') E s:=by
 obtain⟨hp,g,d,tk,os⟩:=s
 show af _ _ (field (.ref e) 2 >>= _) _ _ _
 refine ad (bO he rfl (x:=.ref it) rfl ?_)
 refine ad (vz _ fun h1 rS b1=>?_)
 replace b1:df it hp h1:=b1
 have e1:gu h1 e it i bq:=(b1.2 e bp).trans he
 show af _ _ (field (.ref e) 3 >>= _) _ _ ⟨h1,g,d,tk,os⟩
 refine ad (bO e1 rfl (x:=bx i) rfl ?_)
 show af _ _ (field (.ref e) 4 >>= _) _ _ ⟨h1,g,d,tk,os⟩
 refine ad (bO e1 rfl (x:=.none) rfl ?_)
 show af _ _ (mkInt i >>= _) _ _ ⟨h1,g,d,tk,os⟩
 refine ad (wpAny_mkInt ?_)
 show af _ _ (iA (.ref e) 3 (bx ((i:Int)+1)) >>= _) _ _ ⟨h1,g,d,tk+1,os⟩
 refine ad (fE e1 (by simp) fun h2 e2 b2=>?_)
 replace b2:df e h1 h2:=b2
 replace e2:gu h2 e it ((i:Int)+1) bq:=e2
 show af _ _ (iA (.ref e) 4 .none >>= _) _ _ ⟨h2,g,d,tk+1,os⟩
 refine ad (fE e2 (by simp) fun h3 e3 b3=>?_)
 replace b3:df e h2 h3:=b3
 replace e3:gu h3 e it ((i:Int)+1) bq:=e3
 show af _ _ (w9 [.int i tk,x] >>= _) _ _ ⟨h3,g,d,tk+1,os⟩
 refine ad (tK ?_)
 have hsz:h3.objs.size=hp.objs.size:=by rw[b3.1,b2.1,b1.1]
 have st3:St h3:=keep h1 h3 rS fun o q=>(b3.2 it (aO bp)).trans ((b2.2 it (aO bp)).trans q)
 have e4:gu (h3.push { cls:=.type "tuple",data:=.seq #[.int i tk,x] }) e it ((i:Int)+1) bq:=aF _ e3
 have dA:St (h3.push { cls:=.type "tuple",data:=.seq #[.int i tk,x] }):=keep h3 _ st3 fun o q=>aF _ q
 have t4:(h3.push { cls:=.type "tuple",data:=.seq #[.int i tk,x] }).get? hp.objs.size=some { cls:=.type "tuple",data:=.seq #[.int i tk,x] }:=by rw[<- hsz];exact bz _ rfl
 have z4:(h3.push { cls:=.type "tuple",data:=.seq #[.int i tk,x] }).objs.size=hp.objs.size+1:=by rw[dU,hsz]
 have k4:∀b o,b≠e->b≠it->hp.get? b=some o->(h3.push { cls:=.type "tuple",data:=.seq #[.int i tk,x] }).get? b=some o:=fun b o eO ny hb=>
  aF _ (b3.extBut b o eO (b2.extBut b o eO (b1.extBut b o ny hb)))
 have fX:e < hp.objs.size:=aI he
 rw[hsz]
 generalize h3.push { cls:=.type "tuple",data:=.seq #[.int i tk,x] }=h4 at *
 clear e3 b3 e2 b2 e1 b1 rS st3 hsz
 show af _ _ (iG (.ref e) >>= _) _ _ ⟨h4,g,d,tk+1,os⟩
 refine ad ?_
 unfold iG
 refine ad (bO e4 rfl (x:=.none) rfl (al ?_))
 simp only[if_true]
 refine ad (gq ?_)
 refine ad (bO e4 rfl (x:=bq) rfl ?_)
 refine ad (fE e4 (by simp) fun h5 e5 b5=>?_)
 replace b5:df e h4 h5:=b5
 replace e5:gu h5 e it ((i:Int)+1) x:=e5
 show af _ _ (xE (.ref e) (.ref hp.objs.size) >>= _) _ _ ⟨h5,g,d,tk+1,os⟩
 refine ad ?_
 unfold xE
 refine ad (fE e5 (by simp) fun h6 e6 b6=>?_)
 replace b6:df e h5 h6:=b6
 replace e6:xt h6 e it ((i:Int)+1) x hp.objs.size:=e6
 refine fE e6 (by simp) fun h7 e7 b7=>?_
 replace b7:df e h6 h7:=b7
 replace e7:xt h7 e it ((i:Int)+1) x hp.objs.size:=e7
 have k7:∀b o,b≠e->h4.get? b=some o->h7.get? b=some o:=fun b o hb q=>b7.extBut b o hb (b6.extBut b o hb (b5.extBut b o hb q))
 refine ad (DC (al ⟨_,rfl,hQ h7 e7 (keep h4 h7 dA fun o q=>k7 it o (aO bp) q) (k7 _ _ (gZ fX) t4) (by rw[b7.1,b6.1,b5.1,z4]) fun b o eO ny hb=>k7 b o eO (k4 b o eO ny hb)⟩))
theorem Z0{t:aa}{Q:Option ac->ae->Prop}
  (he:gu s.heap e it i bq) (bY:s.heap.IsTupleIter it t i) (ht:s.heap.IsTuple t items) (hx:items[i]?=some x) (bp:e≠it)
  (hQ:∀h',xt h' e it ((i:Int)+1) x s.heap.objs.size->h'.IsTupleIter it t (i+1)->h'.get? s.heap.objs.size=some { cls:=.type "tuple",data:=.seq #[.int i s.toks,x] }->h'.objs.size=s.heap.objs.size+1->
   (∀b o,b≠e->b≠it->s.heap.get? b=some o->h'.get? b=some o)->Q (some (.ref s.heap.objs.size)) { s with heap:=h',toks:=s.toks+1 }):af (aj prog w) A (cC (.ref e)) Q E s:=by
 have hT:s.TypeIs (.ref e) "enumerate":=⟨_,he,rfl⟩
 unfold cC
 refine ad (mv (iy (name:=aM "__next__") hT xB (fF xB hT Op ?_ (Ot _))))
 exact jck (St:=fun h=>h.IsTupleIter it t (i+1)) he bp (fun Q' k=>yZ bY ht hx k) (fun h h' st k=>st.at k) fun h' a b c d k=>al (hQ h' a b c d k)
theorem JP{t:aa}{Q:Option ac->ae->Prop}(hh:A.handled=none)
  (he:gu s.heap e it i bq) (bY:s.heap.IsTupleIter it t i) (ht:s.heap.IsTuple t items) (hx:items[i]?=none)
  (hQ:∀h',Oh it s.heap h'->Q none { s with heap:=h' }):af (aj prog w) A (cC (.ref e)) Q E s:=by
 have hT:s.TypeIs (.ref e) "enumerate":=⟨_,he,rfl⟩
 unfold cC
 refine ad (mv (iy (name:=aM "__next__") hT xB (fF xB hT Op ?_ (Ot _))))
 show af _ _ (field (.ref e) 2 >>= _) _ _ _
 refine ad (bO he rfl (x:=.ref it) rfl ?_)
 refine ad (qQ hh bY ht hx fun h' x IZ cg=>?_)
 obtain⟨o,ho,hc⟩:=cg
 refine ad (mt (T:="StopIteration") (b:=true) ⟨o,ho,hc⟩ xc ?_)
 exact al (hQ _ IZ)
theorem jd8(l:aa)(items:Array ac)(n:Nat)(wo:Option aa)(sl:Array (Option ac)):
  Meets (Builtin.«enumerate.__new__» ⟨[.type "enumerate",.ref l],[]⟩) (fun _ R s=>s.heap.get? l=some { cls:=.type "tuple",dict:=wo,data:=.seq items n,slots:=sl }/\
   R (.ok (.ret (.ref (s.heap.push { cls:=.type "tuple_iterator",data:=.fields #[.ref l,.int 0 0] }).objs.size)))
    { s with heap:=(s.heap.push { cls:=.type "tuple_iterator",data:=.fields #[.ref l,.int 0 0] }).push { cls:=.type "enumerate",data:=.fields #[.none,.bool false,.ref s.heap.objs.size,bx 0,.none,.none] } }):=
 .of_wp fun prog w A R s h=>by
  obtain⟨hp,g,d,tk,os⟩:=s;obtain⟨hl,h⟩:=h;have oZ:=sub_enumerate;have hL:El (Ed ⟨hp,g,d,tk,os⟩) l items:=⟨_,hl,rfl,n,rfl⟩
  wp_walk using wpAny_loadPart' hl;refine wpAny_stack_any fun st=>al ?_
  split
  .rename_i c _ _ _ _ _
   cases (c == Value.type "enumerate")
   .wp_walk using wpAny_loadPart' hl,tJ hL
    exact⟨_,rfl,h⟩
   .wp_walk using wpAny_loadPart' hl,tJ hL
    exact⟨_,rfl,h⟩
  .wp_walk using wpAny_loadPart' hl,tJ hL
   exact⟨_,rfl,h⟩
theorem jaZ{l:aa}(hL:s.heap.IsTuple l items)
  (h:∀h',gu h' (s.heap.objs.size+1) s.heap.objs.size 0 .none->h'.IsTupleIter s.heap.objs.size l 0->h'.objs.size=s.heap.objs.size+2->
   (∀b o,s.heap.get? b=some o->h'.get? b=some o)->Q (.ref (s.heap.objs.size+1)) { s with heap:=h' }) :
  af (aj prog w) A (call (.type "enumerate") [.ref l]) Q E s:=by
 obtain⟨⟨c,wo,dt,sl⟩,hl,hc,n,hd⟩:=hL
 replace hc:c=.type "tuple":=hc
 replace hd:dt=.seq items n:=hd
 subst hc hd
 refine callType_new F.called_enumerate (by decide) (F.typeCall_enumerate_1 _) (F.newCall_enumerate_1 _) (fun obj=>F.args_object_init_2 obj _) F.entry_enumerate_new (jd8 l items n wo sl) ⟨hl,?_⟩
 have hz:(s.heap.push { cls:=.type "tuple_iterator",data:=.fields #[.ref l,.int 0 0] }).objs.size=s.heap.objs.size+1:=dU ..
 show _/\_
 rw[hz]
 have he:gu ((s.heap.push { cls:=.type "tuple_iterator",data:=.fields #[.ref l,.int 0 0] }).push { cls:=.type "enumerate",data:=.fields #[.none,.bool false,.ref s.heap.objs.size,bx 0,.none,.none] }) (s.heap.objs.size+1) s.heap.objs.size 0 .none:=by
  have:=bz (s.heap.push { cls:=.type "tuple_iterator",data:=.fields #[.ref l,.int 0 0] }) (o:={ cls:=.type "enumerate",data:=.fields #[.none,.bool false,.ref s.heap.objs.size,bx 0,.none,.none] }) rfl;rw[hz]at this;exact this
 exact⟨⟨_,he,rfl⟩,h _ he ⟨_,aF _ (bz _ rfl),rfl,rfl⟩ (by rw[dU,hz]) fun b o x=>aF _ (aF _ x)⟩
end
end PySem
namespace L2
open PySem PySem.Spec PyProof.Rows
def jel(K:ai)(l:aa):It:=
 ⟨fun i H=>∃xs x,SqT K H l xs/\xs[i]?=some x,fun i H x H'=>∃t y,H t=none/\(∀xs,SqT K H l xs->xs[i]?=some y)/\x=.ref t/\H'=upd H t (.tup [.int i,y]),fun i H=>∃xs,SqT K H l xs/\xs.length<=i⟩
variable {K:ai}
theorem jal{P:av}{w:ar}{gn:List ag}{x1:Nat}{tp:Pos}(l e it:aa)(bp:e≠it):Turn P w K (.Tuple gn x1 tp) (jel K l) [e,it] e (fun i h=>(∃bq,gu h e it i bq)/\h.IsTupleIter it l i) where
 mem:=by simp
 obj:=fun i h st b hb=>by
  obtain⟨⟨bq,h1⟩,o,e2,c,d⟩:=st;rcases bg.mp hb with rfl | hb
  .exact⟨_,h1,fun v z=>by cases z⟩
  .rw[bu.mp hb]
   exact⟨o,e2,fun v z=>by rw[d]at z;cases z⟩
 keep:=fun i h h' st k=>by
  obtain⟨⟨bq,h1⟩,o,e2,c,d⟩:=st;exact⟨⟨bq,k e (by simp) _ h1⟩,o,k it (by simp) o e2,c,d⟩
 item:=by
  intro X hP hw hK hc i ab s σ H E I hf st hg;subst hP hw hK;obtain⟨xs,x,hq,hx⟩:=hg;obtain⟨⟨bq,hE⟩,bY⟩:=st;obtain⟨its,rv,p,hz⟩:=I.tuple hq;obtain⟨u,hu,ru⟩:=rv.get hx;obtain⟨a0,a1,a2,a3,a4,a5⟩:=hf e (by simp);obtain⟨f0,f1,f2,f3,f4,f5⟩:=hf it (by simp);refine Z0 hE bY (show s.heap.IsTuple l its.toArray from p) (x:=u) (by simpa using hu) bp fun h' o1 o2 o3 o4 o5=>?_
  refine⟨_,rfl,MW (s:={ s with heap:=h',toks:=s.toks+1 }) o1 fun h2 g1 g2=>?_⟩;have dv:H s.heap.objs.size=none:=I.hok.fresh (ay _);have kp:∀b o,b≠e->b≠it->s.heap.get? b=some o->h2.get? b=some o:=fun b o hb aW q=>(g2.2 b hb).trans (o5 b o hb aW q)
  have nt:∀b o,s.heap.get? b=some o->b≠s.heap.objs.size:=fun b o q=>aN (aI q)
  have ne:∀b z,H b=some z->b≠e/\b≠it:=fun b z q=>⟨fun t=>(by rw[t,a0]at q;cases q),fun t=>(by rw[t,f0]at q;cases q)⟩
  have pA:s.heap.objs.size≠e:=fun z=>absurd (aI hE) (by rw[<- z];exact mF _)
  have I1:Inv X ab σ (upd H s.heap.objs.size (.tup [.int i,x])) { s with heap:=h2,gens:=s.gens,drawn:=s.drawn,toks:=s.toks+1 }:=by
   refine I.step (g':=s.gens) (d':=s.drawn) (ch:=[e,it]) (fun b hb=>?_) (fun b o _ _ bw q _=>kp b o (fun z=>bw (by simp[z])) (fun z=>bw (by simp[z])) q) (fun b o _ _ bw q _=>⟨o.slots,kp b o (fun z=>bw (by simp[z])) (fun z=>bw (by simp[z])) q⟩)
    (fun b o _ q n=>by rw[jl (nt b o q)];exact n) (fun b o bw q=>⟨o,kp b o (fun z=>bw (by simp[z])) (fun z=>bw (by simp[z])) q⟩) (fun b ys q=>by rw[jl (jo q dv)];exact q) (fun b o z q=>by rw[jl (jo q dv)];exact q)
    (fun b ps q=>⟨#[],by rw[jl (jo q dv),q];simp⟩) (fun m hm=>?_) (fun b z q=>?_) I.bare
   .rcases bg.mp hb with rfl | hb
    .exact⟨a3,a1,a4,a5⟩
    .rw[bu.mp hb];exact⟨f3,f1,f4,f5⟩
   .obtain⟨o,es,ep,ho,r⟩:=hm
    exact⟨o,es,ep,kp _ o (aO a1) (aO f1) ho,r⟩
   .by_cases hb:b=s.heap.objs.size
    .subst hb
     rw[ja]at q
     cases q
     refine⟨?_,[Value.int (i:Int) s.toks,u],.cons ⟨_,rfl⟩ (.cons ru .nil),_,(g2.2 _ pA).trans o3,rfl,0,rfl⟩;show 2<=aB;rw[gr];decide
    .rw[jl hb]at q
     refine (I.hok b z q).stay (fun c v bw q'=>?_) (fun c q'=>by rw[jl (jo q' dv)];exact q') fun c ys q'=>by rw[jl (jo q' dv)];exact q'
     rcases bw with rfl | bw
     .exact kp c v (ne c z q).1 (ne c z q).2 q'
     .exact kp c v (ne c _ bw).1 (ne c _ bw).2 q'
  refine⟨.ref s.heap.objs.size,_,I1,rfl,⟨_,x,dv,fun ys hy=>by rw[I.tuple_inj hy hq];exact hx,rfl,rfl⟩,⟨⟨_,g1⟩,?_⟩,fun b hb=>?_⟩
  .obtain⟨o,z1,z2,z3⟩:=o2
   exact⟨o,(g2.2 it (aO bp)).trans z1,z2,z3⟩
  .rcases bg.mp hb with rfl | hb
   .rw[jl (aO pA)];exact a0
   .rw[bu.mp hb]
    have:it≠s.heap.objs.size:=by
     obtain⟨o,z1,_⟩:=bY;exact nt it o z1
    rw[jl this];exact f0
 done:=by
  intro X hP hw hK hc i ab s σ H E I hf st hg;subst hP hw hK;obtain⟨xs,hq,hx⟩:=hg;obtain⟨⟨bq,hE⟩,bY⟩:=st;obtain⟨its,rv,p,hz⟩:=I.tuple hq;obtain⟨f0,f1,f2,f3,f4,f5⟩:=hf it (by simp);have hl:=rv.length;exact JP (I.ok.hd hc) hE bY (show s.heap.IsTuple l its.toArray from p) (by simp;omega) fun h' eb=>⟨rfl,I.turned (t':=s.toks) (fun b o hb e=>eb b o hb e) f0 f1 f3 f4 f5⟩
 self:=fun _ _ _ _ _ st h=>by
  obtain⟨⟨bq,hE⟩,_⟩:=st;exact wU hE h
variable {X:Cx}{xs:List V}{H:Hp}
section
variable {gn:List ag}{x1:Nat}{tp:Pos}
def jdY(K:ai)(ta:TA):TI:=fun σ H R=>ta σ H fun vs H1=>∃l,vs=[.ref l]/\(∃xs,SqT K H1 l xs)/\R (jel K l) H1
theorem jdp{a:ag}{ta:TA}{p pos:Pos}(hg:Gl X "enumerate")(hm:X.mg "enumerate" = none)(ha:PA X [a] ta)(hs:bo [a] X.env=[(false,eval a X.env)]:=by rfl):PI X (.Tuple gn x1 tp) (.Call (.Name "enumerate" p) [a] [] pos) (jdY X.K ta):=by
 intro ab s σ H R I h;refine Call_ (yh I hg hm Jk (rA (thn (ha pos ab s σ H _ I h) fun us s1 hM=>?_) hs rfl));obtain⟨vs,H1,I1,r1,q1⟩:=hM;obtain⟨l,e,⟨xs,hq⟩,q⟩:=q1;subst e;obtain⟨u,rfl,rx⟩:=qZ r1
 cases rx
 obtain⟨its,rv,pl,hz⟩:=I1.tuple hq;refine jaZ (show s1.heap.IsTuple l its.toArray from pl) fun h' g1 g2 g3 g4=>?_
 refine wU (s:={ s1 with heap:=h' }) g1 ?_;have I2:Inv X ab σ H1 { s1 with heap:=h' }:=I1.kept (t':=s1.toks) g4;refine⟨s1.heap.objs.size+1,[s1.heap.objs.size+1,s1.heap.objs.size],_,_,_,rfl,I2,jal l _ _ (Pc _),⟨⟨_,g1⟩,g2⟩,fun b hb=>?_,q⟩;rcases bg.mp hb with rfl | hb
 .exact I1.fpOk (dX _) (I1.hok.fresh (dX _))
 .rw[bu.mp hb]
  exact I1.fpOk (ay _) (I1.hok.fresh (ay _))
theorem Yv{l:aa}{g:TG}{tb:TS}{D:Ends}{σ:St}(Pv:Nat->St->Hp->Prop)(h0:Pv 0 σ H)(hl:∀i σ H,i<=xs.length->Pv i σ H->SqT K H l xs)
  (hs:∀i y σ H t,xs[i]?=some y->Pv i σ H->H t=none->g (.ref t) σ (upd H t (.tup [.int i,y])) fun σ2 H2=>tb { D with nx:=Pv (i+1),ct:=Pv (i+1),bk:=D.nx } σ2 H2) (hd:∀σ H,Pv xs.length σ H->D.nx σ H) :
  ∃W:Nat->Nat->St->Hp->Prop,(∃m,W 0 m σ H)/\∀i m σ H,W i m σ H->
   ((jel K l).stop i H/\D.nx σ H)\/((jel K l).go i H/\∃N:St->Hp->Prop,(∀σ' H',N σ' H'->∃m',m' < m/\W (i+1) m' σ' H')/\∀x H',(jel K l).yld i H x H'->g x σ H' fun σ2 H2=>tb { D with nx:=N,ct:=N,bk:=D.nx } σ2 H2):=by
 refine⟨fun i m σ H=>m=xs.length - i/\i<=xs.length/\Pv i σ H,⟨xs.length,by simp,bE _,h0⟩,?_⟩
 rintro i m σ H ⟨rfl,hi,p⟩
 have q:=hl i σ H hi p
 by_cases aG:i < xs.length
 .refine .inr ⟨⟨xs,xs[i],q,by simp[aG]⟩,Pv (i+1),fun σ' H' p'=>⟨xs.length - (i+1),by omega,rfl,aG,p'⟩,fun x H' y=>?_⟩
  obtain⟨t,z,ht,hz,rfl,rfl⟩:=y
  exact hs i z σ H t (hz xs q) p ht
 .have:i=xs.length:=by omega
  subst this
  exact .inl ⟨⟨xs,q,ay _⟩,hd σ H p⟩
end
open PySem PySem.Spec PyProof.Rows PySem.W
mutual
def dEq:D->D->Bool
 | .int i,.int j=>i == j
 | .str x,.str y=>x == y
 | .tup a,.tup b=>dEqL a b
 | _,_=>false
def dEqL:List D->List D->Bool
 | [],[]=>true
 | a :: as,b :: bs=>dEq a b && dEqL as bs
 | _,_=>false
end
mutual
theorem yB:∀{a b:D},dEq a b=true↔a=b
 | .int i,.int j=>by unfold dEq;rw[beq_iff_eq];exact⟨(fun h=>by rw[h]),(fun h=>by injection h)⟩
 | .str i,.str j=>by unfold dEq;rw[beq_iff_eq];exact⟨(fun h=>by rw[h]),(fun h=>by injection h)⟩
 | .tup a,.tup b=>by unfold dEq;rw[dEqL_iff];exact⟨(fun h=>by rw[h]),(fun h=>by injection h)⟩
 | .int i,.str j=>by unfold dEq;exact⟨(fun h=>by cases h),(fun h=>by cases h)⟩
 | .int i,.tup j=>by unfold dEq;exact⟨(fun h=>by cases h),(fun h=>by cases h)⟩
 | .str i,.int j=>by unfold dEq;exact⟨(fun h=>by cases h),(fun h=>by cases h)⟩
 | .str i,.tup j=>by unfold dEq;exact⟨(fun h=>by cases h),(fun h=>by cases h)⟩
 | .tup i,.int j=>by unfold dEq;exact⟨(fun h=>by cases h),(fun h=>by cases h)⟩
 | .tup i,.str j=>by unfold dEq;exact⟨(fun h=>by cases h),(fun h=>by cases h)⟩
theorem dEqL_iff:∀{a b:List D},dEqL a b=true↔a=b
 | [],[]=>by unfold dEqL;exact⟨(fun _=>rfl),(fun _=>rfl)⟩
 | a :: as,b :: bs=>by
  unfold dEqL;rw[gB,yB,dEqL_iff];exact⟨(fun h=>by rw[h.1,h.2]),(fun h=>by injection h with h1 h2;exact⟨h1,h2⟩)⟩
 | [],b :: bs=>by unfold dEqL;exact⟨(fun h=>by cases h),(fun h=>by cases h)⟩
 | a :: as,[]=>by unfold dEqL;exact⟨(fun h=>by cases h),(fun h=>by cases h)⟩
end
instance:DecidableEq D:=fun a b=>if h:dEq a b=true then isTrue (yB.mp h) else isFalse fun e=>h (yB.mpr e)
theorem Z7(a b:List D):dEqL a b=decide (a=b):=by
 apply mL.mpr;rw[dEqL_iff,decide_eq_true_iff]
mutual
theorem ZV{H:Hp}:∀{d d':D} {v:V},Held H d v->Held H d' v->d=d'
 | .int i,.int j,v,h,h'=>by unfold Held at h h';subst h;injection h' with h';rw[h']
 | .str i,.str j,v,h,h'=>by unfold Held at h h';subst h;injection h' with h';rw[h']
 | .tup a,.tup b,v,h,h'=>by
  unfold Held at h h';obtain⟨p,xs,rfl,e,h⟩:=h;obtain⟨p',ui,e0,e',h'⟩:=h';injection e0 with e0;subst e0;rw[e]at e';injection e' with e';injection e' with e';subst e';rw[heldL_inj h h']
 | .int i,.str j,v,h,h'=>by unfold Held at h h';subst h;cases h'
 | .int i,.tup j,v,h,h'=>by unfold Held at h h';subst h;obtain⟨p,xs,e,_⟩:=h';cases e
 | .str i,.int j,v,h,h'=>by unfold Held at h h';subst h;cases h'
 | .str i,.tup j,v,h,h'=>by unfold Held at h h';subst h;obtain⟨p,xs,e,_⟩:=h';cases e
 | .tup i,.int j,v,h,h'=>by unfold Held at h h';subst h';obtain⟨p,xs,e,_⟩:=h;cases e
 | .tup i,.str j,v,h,h'=>by unfold Held at h h';subst h';obtain⟨p,xs,e,_⟩:=h;cases e
theorem heldL_inj{H:Hp}:∀{d d':List D} {v:List V},HeldL H d v->HeldL H d' v->d=d'
 | [],[],_,_,_=>rfl
 | a :: as,b :: bs,v,h,h'=>by
  unfold HeldL at h h';obtain⟨u,r,rfl,h1,h2⟩:=h;obtain⟨u',r',e,cz,b9⟩:=h';injection e with e1 e2;subst e1 e2;rw[ZV h1 cz,heldL_inj h2 b9]
 | [],b :: bs,v,h,h'=>by unfold HeldL at h h';subst h;obtain⟨u',r',e,_⟩:=h';cases e
 | a :: as,[],v,h,h'=>by unfold HeldL at h h';subst h';obtain⟨u',r',e,_⟩:=h;cases e
end
theorem KM:∀(a b:List D),((bm (min a.length b.length)).all (fun j=>dEq (a.getD j (.int 0)) (b.getD j (.int 0))) && a.length == b.length)=dEqL a b:=by
 intro a b;apply mL.mpr;rw[dEqL_iff,gB,lA,beq_iff_eq];constructor
 .rintro⟨h1,h2⟩
  apply E4 h2;intro j hj ip;have:=h1 j (iI.mpr (by omega));rw[yB]at this;simpa[hj,ip]using this
 .rintro rfl
  exact⟨fun j _=>yB.mpr rfl,rfl⟩
variable {s:ae}{A:aD}
section
variable {ab:List (aa×Obj)}{σ:St}
theorem jfo(I:Inv X ab σ H s):∀(n:Nat) (A:aD) (d d':D) (x y:V) (u v:ac),d.depth<=n->A.units+n < cLine->Held H d x->Held H d' y->RelV x u->RelV y v->la A s u v (dEq d d'):=by
 intro n;induction n with
 | zero=>
  intro A d d' x y u v hd hA hx hy ru rv;have pQ:A.units < cLine:=by omega
  cases d with
  | int i=>
   unfold Held at hx;subst hx;obtain⟨t,rfl⟩:=ru
   cases d' with
   | int j=>
    unfold Held at hy;subst hy;obtain⟨t',rfl⟩:=rv;unfold dEq;exact Ej i t j t'
   | str j=>
    unfold Held at hy;subst hy;obtain⟨t',rfl⟩:=rv;unfold dEq;exact N_ i t j t'
   | tup ds=>
    unfold Held at hy;obtain⟨b,ys,rfl,hb,_⟩:=hy
    cases rv
    obtain⟨its,_,tb,_⟩:=I.tuple (SqT.of hb);unfold dEq;exact la.int_tuple i t (show s.heap.IsTuple b its.toArray from tb) pQ
  | str i=>
   unfold Held at hx;subst hx;obtain⟨t,rfl⟩:=ru
   cases d' with
   | int j=>
    unfold Held at hy;subst hy;obtain⟨t',rfl⟩:=rv;unfold dEq;exact N9 i t j t'
   | str j=>
    unfold Held at hy;subst hy;obtain⟨t',rfl⟩:=rv;unfold dEq;exact N8 i t j t'
   | tup ds=>
    unfold Held at hy;obtain⟨b,ys,rfl,hb,_⟩:=hy
    cases rv
    obtain⟨its,_,tb,_⟩:=I.tuple (SqT.of hb);unfold dEq;exact la.str_tuple i t (show s.heap.IsTuple b its.toArray from tb) pQ
  | tup ds=>unfold D.depth at hd;omega
 | succ n ih=>
  intro A d d' x y u v hd hA hx hy ru rv;have pQ:A.units < cLine:=by omega
  cases d with
  | int i=>exact ih A (.int i) d' x y u v (by unfold D.depth;omega) (by omega) hx hy ru rv
  | str z=>exact ih A (.str z) d' x y u v (by unfold D.depth;omega) (by omega) hx hy ru rv
  | tup ds=>
   have uQ:=hx;unfold Held at hx;obtain⟨a,xs,rfl,ha,aY⟩:=hx
   cases ru
   obtain⟨its,bI,ta,_⟩:=I.tuple (SqT.of ha)
   cases d' with
   | int j=>
    unfold Held at hy;subst hy;obtain⟨t',rfl⟩:=rv;unfold dEq;exact la.tuple_int j t' (show s.heap.IsTuple a its.toArray from ta) pQ
   | str j=>
    unfold Held at hy;subst hy;obtain⟨t',rfl⟩:=rv;unfold dEq;exact la.tuple_str j t' (show s.heap.IsTuple a its.toArray from ta) pQ
   | tup aR=>
    have GC:=hy;unfold Held at hy;obtain⟨b,ys,rfl,hb,c_⟩:=hy
    cases rv
    by_cases eR:a=b
    .subst eR
     rw[yB.mpr (ZV uQ GC)];exact Eh _
    .obtain⟨aK,bM,tb,_⟩:=I.tuple (SqT.of hb)
     refine Ei eR ?_;have l1:=aY.length;have l2:=c_.length;have l3:=bI.length;have l4:=bM.length;have key:=xm (A:=A) (s:=s) (e:=fun j=>dEq (ds.getD j (.int 0)) (aR.getD j (.int 0))) (show s.heap.IsTuple a its.toArray from ta) (show s.heap.IsTuple b aK.toArray from tb) (by omega) (fun j h1 h2=>by
      have hj:j < ds.length:=by
       have:j < its.length:=by simpa using h1
       omega
      have ip:j < aR.length:=by
       have:j < aK.length:=by simpa using h2
       omega
      have ej:ds[j]?=some ds[j]:=aC hj;obtain⟨x',cg,gx⟩:=aY.get ej;obtain⟨y',cS,gy⟩:=c_.get (aC ip);obtain⟨u',ff,oB⟩:=bI.get cg;obtain⟨v',fc,oA⟩:=bM.get cS;have eu:its.toArray[j]=u':=by
       have:=(aV.mp ff).2;simpa using this
      have ev:aK.toArray[j]=v':=by
       have:=(aV.mp fc).2;simpa using this
      rw[eu,ev];unfold D.depth at hd;have g1:ds.getD j (.int 0)=ds[j]:=by simp[hj]
      have g2:aR.getD j (.int 0)=aR[j]:=by simp[ip]
      rw[g1,g2];exact ih A.in1 ds[j] aR[j] x' y' u' v' (by have:=D.depthL_get ej;omega) (by show A.units+1+n < cLine;omega) gx gy oB oA)
     have e:((bm (min its.toArray.size aK.toArray.size)).all (fun j=>dEq (ds.getD j (.int 0)) (aR.getD j (.int 0))) && its.toArray.size == aK.toArray.size)=dEqL ds aR:=by
      have e1:its.toArray.size=ds.length:=by simp;omega
      have e2:aK.toArray.size=aR.length:=by simp;omega
      rw[e1,e2];exact KM ds aR
     rw[e]at key;unfold dEq;exact key
theorem yR(I:Inv X ab σ H s){n:Nat}{ds aR:List D}{ys:List V}{its aK:List ac}(hd:D.depthL ds<=n)(hA:A.units+n < cLine)(aY:HeldL H ds xs)(c_:HeldL H aR ys)(bI:Vals xs its)(bM:Vals ys aK):
  ∀j (h1:j < its.toArray.size) (h2:j < aK.toArray.size),la A s its.toArray[j] aK.toArray[j] (dEq (ds.getD j (.int 0)) (aR.getD j (.int 0))):=fun j h1 h2=>by
 have l1:=aY.length
 have l2:=c_.length
 have l3:=bI.length
 have l4:=bM.length
 have hj:j < ds.length:=by
  have:j < its.length:=by simpa using h1
  omega
 have ip:j < aR.length:=by
  have:j < aK.length:=by simpa using h2
  omega
 have ej:ds[j]?=some ds[j]:=aC hj
 obtain⟨x',cg,gx⟩:=aY.get ej
 obtain⟨y',cS,gy⟩:=c_.get (aC ip)
 obtain⟨u',ff,oB⟩:=bI.get cg
 obtain⟨v',fc,oA⟩:=bM.get cS
 have eu:its.toArray[j]=u':=by
  have:=(aV.mp ff).2;simpa using this
 have ev:aK.toArray[j]=v':=by
  have:=(aV.mp fc).2;simpa using this
 rw[eu,ev]
 have g1:ds.getD j (.int 0)=ds[j]:=by simp[hj]
 have g2:aR.getD j (.int 0)=aR[j]:=by simp[ip]
 rw[g1,g2]
 exact jfo I n A ds[j] aR[j] x' y' u' v' (by have:=D.depthL_get ej;omega) hA gx gy oB oA
theorem jho(n:Nat)(hu:X.A.units+1+n < cLine):OpR X (cX .Eq) (fun x y H Q=>∃a b xs ys ds aR,x=.ref a/\y=.ref b/\H a=some (.tup xs)/\H b=some (.tup ys)/\D.depthL ds<=n/\HeldL H ds xs/\HeldL H aR ys/\Q (.bl (decide (ds=aR))) H):=by
 intro ab s σ H x y v u Q I rx ry h;obtain⟨a,b,xs,ys,ds,aR,rfl,rfl,ha,hb,hd,aY,c_,q⟩:=h
 cases rx;cases ry
 obtain⟨its,bI,ta,_⟩:=I.tuple (SqT.of ha);obtain⟨aK,bM,tb,_⟩:=I.tuple (SqT.of hb);have l1:=aY.length;have l2:=c_.length;have l3:=bI.length;have l4:=bM.length;have key:=xm (A:=X.A) (s:=s) (e:=fun j=>dEq (ds.getD j (.int 0)) (aR.getD j (.int 0))) (show s.heap.IsTuple a its.toArray from ta) (show s.heap.IsTuple b aK.toArray from tb) (by omega) (yR I (A:=X.A.in1) hd (by show X.A.units+1+n < cLine;exact hu) aY c_ bI bM);have e:((bm (min its.toArray.size aK.toArray.size)).all (fun j=>dEq (ds.getD j (.int 0)) (aR.getD j (.int 0))) && its.toArray.size == aK.toArray.size)=decide (ds=aR):=by
  have e1:its.toArray.size=ds.length:=by simp;omega
  have e2:aK.toArray.size=aR.length:=by simp;omega
  rw[e1,e2,KM,Z7]
 rw[e]at key;exact key X.prog X.w X.xe _ ⟨.bl (decide (ds=aR)),H,I,rfl,q⟩
theorem jbz{ds aR:List D}(h:ds.length=aR.length):((bm ds.length).all fun j=>dEq (ds.getD j (.int 0)) (aR.getD j (.int 0)))=decide (ds=aR):=by
 have:=KM ds aR;rw[<- h,Pf,beq_self_eq_true,Bool.and_true,Z7]at this;exact this
theorem jeX(n:Nat)(hu:X.A.units+1+n < cLine):OpR X (cX .Eq) (fun x y H Q=>∃a b xs ys ds aR,x=.ref a/\y=.ref b/\H a=some (.lst xs)/\H b=some (.lst ys)/\D.depthL ds<=n/\HeldL H ds xs/\HeldL H aR ys/\Q (.bl (decide (ds=aR))) H):=by
 intro ab s σ H x y v u Q I rx ry h;obtain⟨a,b,xs,ys,ds,aR,rfl,rfl,ha,hb,hd,aY,c_,q⟩:=h
 cases rx;cases ry
 obtain⟨its,bI,ta,_⟩:=I.list (SqL.of ha);obtain⟨aK,bM,tb,_⟩:=I.list (SqL.of hb);have l1:=aY.length;have l2:=c_.length;have l3:=bI.length;have l4:=bM.length;have e1:its.toArray.size=ds.length:=by simp;omega
 have e2:aK.toArray.size=aR.length:=by simp;omega
 by_cases hl:ds.length=aR.length
 .have key:=Eg (A:=X.A) (s:=s) (e:=fun j=>dEq (ds.getD j (.int 0)) (aR.getD j (.int 0))) ta.isList tb.isList (by rw[e1,e2,hl]) (by omega) (yR I (A:=X.A.in1) hd (by show X.A.units+1+n < cLine;exact hu) aY c_ bI bM)
  rw[e1,jbz hl]at key;exact key X.prog X.w X.xe _ ⟨.bl (decide (ds=aR)),H,I,rfl,q⟩
 .have key:=SeqAt.RcAt.lists_lengths (A:=X.A) (s:=s) ta.isList tb.isList (by rw[e1,e2];simpa using hl) (by omega)
  rw[Qe (fun z=>hl (by rw[z]))]at q;exact key X.prog X.w X.xe _ ⟨.bl false,H,I,rfl,q⟩
theorem jbj(n:Nat)(hu:X.A.units+1+n < cLine):OpR X (cX .NotEq) (fun x y H Q=>∃a b xs ys ds aR,x=.ref a/\y=.ref b/\H a=some (.lst xs)/\H b=some (.lst ys)/\D.depthL ds<=n/\HeldL H ds xs/\HeldL H aR ys/\Q (.bl (!decide (ds=aR))) H):=by
 intro ab s σ H x y v u Q I rx ry h;obtain⟨a,b,xs,ys,ds,aR,rfl,rfl,ha,hb,hd,aY,c_,q⟩:=h
 cases rx;cases ry
 obtain⟨its,bI,ta,_⟩:=I.list (SqL.of ha);obtain⟨aK,bM,tb,_⟩:=I.list (SqL.of hb);have l1:=aY.length;have l2:=c_.length;have l3:=bI.length;have l4:=bM.length;have e1:its.toArray.size=ds.length:=by simp;omega
 have e2:aK.toArray.size=aR.length:=by simp;omega
 by_cases hl:ds.length=aR.length
 .have key:=N7.lists (A:=X.A) (s:=s) (e:=fun j=>dEq (ds.getD j (.int 0)) (aR.getD j (.int 0))) ta.isList tb.isList (by rw[e1,e2,hl]) (by omega) (yR I (A:=X.A.in1) hd (by show X.A.units+1+n < cLine;exact hu) aY c_ bI bM)
  rw[e1,jbz hl]at key;exact key X.prog X.w X.xe _ ⟨.bl (!decide (ds=aR)),H,I,rfl,q⟩
 .have key:=N7.lists_lengths (A:=X.A) (s:=s) ta.isList tb.isList (by rw[e1,e2];simpa using hl) (by omega)
  rw[Qe (fun z=>hl (by rw[z]))]at q;exact key X.prog X.w X.xe _ ⟨.bl true,H,I,rfl,q⟩
end
def LikeV(K:ai)(H:Hp):Nat->V->V->Prop
 | 0,x,y=>(∃i,x=.int i/\y=.int i)\/∃z,x=.str z/\y=.str z
 | n+1,x,y=>LikeV K H n x y\/
  (∃a b xs ys,x=.ref a/\y=.ref b/\SqT K H a xs/\SqT K H b ys/\xs.length=ys.length/\∀(j:Nat) x' y',xs[j]?=some x'->ys[j]?=some y'->LikeV K H n x' y')\/
  ∃a b xs ys,x=.ref a/\y=.ref b/\SqL K H a xs/\SqL K H b ys/\xs.length=ys.length/\∀(j:Nat) x' y',xs[j]?=some x'->ys[j]?=some y'->LikeV K H n x' y'
theorem qv{K:ai}{H:Hp}(i:Int):∀n,LikeV K H n (.int i) (.int i)
 | 0=>.inl ⟨i,rfl,rfl⟩
 | n+1=>.inl (qv i n)
theorem qN{K:ai}{H:Hp}(z:Str):∀n,LikeV K H n (.str z) (.str z)
 | 0=>.inr ⟨z,rfl,rfl⟩
 | n+1=>.inl (qN z n)
section
variable {ab:List (aa×Obj)}{σ:St}
theorem YG{ys:List V}{its aK:List ac}(hl:xs.length=ys.length)(bI:Vals xs its)(bM:Vals ys aK)(h:∀(j:Nat) x' y' u' v',xs[j]?=some x'->ys[j]?=some y'->RelV x' u'->RelV y' v'->la A s u' v' true):
  ∀j (h1:j < its.toArray.size) (h2:j < aK.toArray.size),la A s its.toArray[j] aK.toArray[j] true:=fun j h1 h2=>by
 have l3:=bI.length
 have cz:j < its.length:=by simpa using h1
 have cg:xs[j]?=some (xs[j]'(by omega+splitNatSub)):=aC (by omega)
 have cS:ys[j]?=some (ys[j]'(by omega+splitNatSub)):=aC (by omega)
 obtain⟨u',ff,oB⟩:=bI.get cg
 obtain⟨v',fc,oA⟩:=bM.get cS
 have eu:its.toArray[j]=u':=by
  have:=(aV.mp ff).2;simpa using this
 have ev:aK.toArray[j]=v':=by
  have:=(aV.mp fc).2;simpa using this
 rw[eu,ev]
 exact h j _ _ u' v' cg cS oB oA
theorem yA(I:Inv X ab σ H s):∀(n:Nat) (A:aD) (x y:V) (u v:ac),A.units+n < cLine->LikeV X.K H n x y->RelV x u->RelV y v->la A s u v true
 | 0,A,x,y,u,v,hA,h,ru,rv=>by
  rcases h with⟨i,rfl,rfl⟩ | ⟨z,rfl,rfl⟩
  .obtain⟨t,rfl⟩:=ru
   obtain⟨t',rfl⟩:=rv;have:=Ej (A:=A) (s:=s) i t i t';rw[beq_self_eq_true]at this;exact this
  .obtain⟨t,rfl⟩:=ru
   obtain⟨t',rfl⟩:=rv;have:=N8 (A:=A) (s:=s) z t z t';rw[beq_self_eq_true]at this;exact this
 | n+1,A,x,y,u,v,hA,h,ru,rv=>by
  rcases h with h | ⟨a,b,xs,ys,rfl,rfl,ha,hb,hl,hj⟩ | ⟨a,b,xs,ys,rfl,rfl,ha,hb,hl,hj⟩
  .exact yA I n A x y u v (by omega) h ru rv
  .cases ru;cases rv
   by_cases eR:a=b
   .subst eR;exact Eh _
   .obtain⟨its,bI,ta,_⟩:=I.tuple ha
    obtain⟨aK,bM,tb,_⟩:=I.tuple hb;refine Ei eR ?_;have l3:=bI.length;have l4:=bM.length;have key:=xm (A:=A) (s:=s) (e:=fun _=>true) (show s.heap.IsTuple a its.toArray from ta) (show s.heap.IsTuple b aK.toArray from tb) (by omega) (YG hl bI bM fun j x' y' u' v' e1 e2 r1 r2=>yA I n A.in1 x' y' u' v' (by show A.units+1+n < cLine;omega) (hj j x' y' e1 e2) r1 r2);have e:((bm (min its.toArray.size aK.toArray.size)).all (fun _=>true) && its.toArray.size == aK.toArray.size)=true:=by
     have:its.toArray.size=aK.toArray.size:=by simp;omega
     rw[this];simp
    rw[e]at key;exact key
  .cases ru;cases rv
   by_cases eR:a=b
   .subst eR;exact Eh _
   .obtain⟨its,bI,ta,_⟩:=I.list ha
    obtain⟨aK,bM,tb,_⟩:=I.list hb;refine Ei eR ?_;have l3:=bI.length;have l4:=bM.length;have key:=Eg (A:=A) (s:=s) (e:=fun _=>true) ta.isList tb.isList (by simp;omega) (by omega) (YG hl bI bM fun j x' y' u' v' e1 e2 r1 r2=>yA I n A.in1 x' y' u' v' (by show A.units+1+n < cLine;omega) (hj j x' y' e1 e2) r1 r2);have e:(bm its.toArray.size).all (fun _=>true)=true:=by simp
    rw[e]at key;exact key
end
def TKF(H H':Hp):Prop:=(∀b xs,H b=some (.tup xs)->H' b=some (.tup xs))/\∀b o u,H b=some (.frz o u)->H' b=some (.frz o u)
theorem TKF.same{H':Hp}(h:Same H H'):TKF H H':=⟨fun b xs e=>h b _ e,fun b o u e=>h b _ e⟩
theorem TKF.trans{H1 H2:Hp}(h:TKF H H1)(h':TKF H1 H2):TKF H H2:=⟨fun b xs e=>h'.1 b xs (h.1 b xs e),fun b o u e=>h'.2 b o u (h.2 b o u e)⟩
variable {a:aa}{u:HO}
theorem TKF.upd{o:HO}(h:H a=some o)(h1:∀xs,o≠.tup xs)(h2:∀p z,o≠.frz p z):TKF H (L2.upd H a u):=
 ⟨fun b xs e=>by rw[jl (j6 e h (fun z=>h1 xs z.symm))];exact e,fun b p z e=>by rw[jl (j6 e h (fun t=>h2 p z t.symm))];exact e⟩
theorem TKF.updD{kv:List (Key×V)}(h:H a=some (.dK kv)):TKF H (L2.upd H a u):=TKF.upd h (fun _ z=>by cases z) fun _ _ z=>by cases z
theorem TKF.updL(h:H a=some (.lst xs)):TKF H (L2.upd H a u):=TKF.upd h (fun _ z=>by cases z) fun _ _ z=>by cases z
theorem TKF.sqT{H':Hp}(e:TKF H H')(h:SqT K H a xs):SqT K H' a xs:=by
 rcases h with (h | ⟨o,h⟩) | h
 .exact .inl (.inl (e.1 _ _ h))
 .exact .inl (.inr ⟨o,e.2 _ _ _ h⟩)
 .exact .inr h
theorem Zu:∀{ys:List Str} {its:List ac},Vals (ys.map V.str) its->StrsAre its ys
 | [],_,r=>by cases r;exact .nil
 | y :: ys,_,r=>by
  cases r with
  | cons h t=>
   obtain⟨k,rfl⟩:=h;exact .cons y k (Zu t)
theorem jfc:MtR X "str.join" (fun x xs H Q=>∃(ou:Str) (l:aa) (ys:List Str),x=.str ou/\xs=[.ref l]/\SqL X.K H l (ys.map V.str)/\(ys.map (·.length)).sum+ys.length * ou.length<=16777216/\Q (.str (mB ou ys)) H):=by
 intro ab s σ H x xs v us Q I rx rs h;obtain⟨ou,l,ys,rfl,rfl,hl,hb,q⟩:=h;obtain⟨t,rfl⟩:=rx;obtain⟨u,rfl,ru⟩:=qZ rs
 cases ru
 obtain⟨its,rv,pl,hz⟩:=I.list hl;refine join_list pl.isList (by simpa using Zu rv) hb fun t' k=>?_
 exact⟨.str (mB ou ys),H,I.kept (t':=k) fun b o e=>e,⟨t',rfl⟩,q⟩
section
variable {prog:av}{w:ar}{E:ac->ae->Prop}
theorem jee{t b:aa}{vs ws:List ac}{Q:ac->ae->Prop}(ht:IsTup s.heap t vs.toArray)(hb:IsTup s.heap b ws.toArray)(hv:vs=[])(h:Q (.ref b) s):af (aj prog w) A (eD .Add (.ref t) (.ref b)) Q E s:=by
 obtain⟨⟨cls,dd,data,sl⟩,ho,hc,n,hd⟩:=id ht;obtain⟨⟨Mr,tw,data2,rT⟩,fh,f_,n2,cG⟩:=id hb;simp only at hc hd f_ cG;subst hc hd f_ cG;exact xh ⟨_,ho,rfl⟩ ⟨_,fh,rfl⟩ DR DP Eo Es (Eu _ _)
   (tuple_addW0 t b vs.toArray ws.toArray n n2 dd tw sl rT (by simp[hv])) ⟨ho,fh,h⟩
end
def jf7:R2:=fun x y H Q=>∃a b xs ys,x=.ref a/\y=.ref b/\H a=some (.tup xs)/\H b=some (.tup ys)/\xs.length+ys.length<=aB/\∀p H',Same H H'->H' p=some (.tup (xs++ys))->Q (.ref p) H'
theorem yf:OpR X (eD .Add) jf7:=by
 intro ab s σ H x y v u Q I rx ry h;obtain⟨a,b,xs,ys,rfl,rfl,ha,hb,hz,q⟩:=h;by_cases hx:xs=[]
 .cases rx
  cases ry
  obtain⟨its,r1,p1,_⟩:=I.tuple (SqT.of ha);obtain⟨aK,r2,p2,_⟩:=I.tuple (SqT.of hb);subst hx;exact jee p1 p2 (r1.nil_iff.mpr rfl) ⟨.ref b,H,I,rfl,q b H (Same.refl _) hb⟩
 .refine jeY ab s σ H (.ref a) (.ref b) v u Q I rx ry ⟨a,b,xs,ys,rfl,rfl,SqT.of ha,SqT.of hb,hx,hz,fun hy=>q a H (Same.refl _) (by rw[hy,dj];exact ha),fun _ p hp=>q p _ (fun c o e=>by rw[jl (jo e hp)];exact e) ja⟩
def jfB(t:TS):TS:=fun D σ H=>∃J:St->Hp->Prop,t { D with nx:=J } σ H/\∀σ' H',J σ' H'->D.nx σ' H'
theorem YV{st:au}{t:TS}(h:PS X st t):PS X st (jfB t):=by
 intro ab s σ H D I q;obtain⟨J,q,k⟩:=q;refine thn (h ab s σ H _ I q) fun f s1 q1=>?_
 cases f with
 | next=>
  obtain⟨σ',H',I',e⟩:=q1;exact⟨σ',H',I',k _ _ e⟩
 | cont=>exact q1
 | brk=>exact q1
 | ret v=>exact q1
end L2
namespace LW
open PySem L2
theorem qg{H:Hp}:∀{ds:List D} {vs:List V} {d:D} {v:V},HeldL H ds vs->Held H d v->HeldL H (ds++[d]) (vs++[v])
 | [],vs,d,v,h,hv=>by
  unfold HeldL at h;subst h;exact jc hv jp
 | d' :: ds,vs,d,v,h,hv=>by
  unfold HeldL at h;obtain⟨u,r,rfl,h1,h2⟩:=h;exact jc h1 (qg h2 hv)
mutual
theorem Y9{H H':Hp}(e:∀b xs,H b=some (.tup xs)->H' b=some (.tup xs)):∀{d:D} {v:V},Held H d v->Held H' d v
 | .int i,v,h=>by unfold Held at h |-;exact h
 | .str x,v,h=>by unfold Held at h |-;exact h
 | .tup ds,v,h=>by
  unfold Held at h |-;obtain⟨a,xs,e1,e2,e3⟩:=h;exact⟨a,xs,e1,e a _ e2,heldL_tk e e3⟩
theorem heldL_tk{H H':Hp}(e:∀b xs,H b=some (.tup xs)->H' b=some (.tup xs)):∀{ds:List D} {vs:List V},HeldL H ds vs->HeldL H' ds vs
 | [],vs,h=>by unfold HeldL at h |-;exact h
 | d :: ds,vs,h=>by
  unfold HeldL at h |-;obtain⟨v,r,e1,e2,e3⟩:=h;exact⟨v,r,e1,Y9 e e2,heldL_tk e e3⟩
end
def TK(G G':Hp):Prop:=∀b xs,G b=some (.tup xs)->G' b=some (.tup xs)
variable {G:Hp}
theorem TK.trans{G1 G2:Hp}(h:TK G G1)(h':TK G1 G2):TK G G2:=fun b xs e=>h' b xs (h b xs e)
variable {G':Hp}
theorem TK.same(h:Same G G'):TK G G':=fun b xs e=>h b _ e
theorem TK.upd{a:aa}{o u:HO}(h:G a=some o)(hn:∀xs,o≠.tup xs):TK G (L2.upd G a u):=fun b xs e=>by
 rw[jl (j6 e h (fun z=>hn xs z.symm))];exact e
theorem TK.heldL(h:TK G G'){d:List D}{v:List V}(x:HeldL G d v):HeldL G' d v:=heldL_tk h x
variable {v:V}
theorem TK.held(h:TK G G'){d:D}(x:Held G d v):Held G' d v:=Y9 h x
def Jd(p:List Int):D:=.tup (p.map D.int)
inductive SO(H:Hp):List (Option D)->List V->Prop where
 | nil:SO H [] []
 | non {os:List (Option D)} {vs:List V} (r:SO H os vs):SO H (none :: os) (.non :: vs)
 | tree {d:D} {v:V} {os:List (Option D)} {vs:List V} (h:Held H d v) (r:SO H os vs):SO H (some d :: os) (v :: vs)
variable {H:Hp}{vs:List V}
theorem SO.set{d:D}(hv:Held H d v){os:List (Option D)}(h:SO H os vs):∀k,SO H (os.set k (some d)) (vs.set k v):=by
 induction h with
 | nil=>intro k;exact .nil
 | non r ih=>intro k;cases k with | zero=>exact .tree hv r | succ k=>exact .non (ih k)
 | tree h r ih=>intro k;cases k with | zero=>exact .tree hv r | succ k=>exact .tree h (ih k)
theorem jbV{p:List Int}(h:Held H (Jd p) v):∃a,v=.ref a/\H a=some (.tup (p.map V.int)):=by
 unfold Jd Held at h;obtain⟨a,xs,e1,e2,e3⟩:=h;refine⟨a,e1,?_⟩;have:∀{p:List Int} {xs:List V},HeldL H (p.map D.int) xs->xs=p.map V.int:=by
  intro p;induction p with
  | nil=>intro xs h;simpa[HeldL]using h
  | cons x p ih=>
   intro xs h;rw[bW]at h;unfold HeldL at h;obtain⟨v,r,rfl,h1,h2⟩:=h;unfold Held at h1;rw[h1,ih h2];rfl
 rw[this e3]at e2;exact e2
theorem JC{p:List Int}{a:aa}(h:H a=some (.tup (p.map V.int))):Held H (Jd p) (.ref a):=by
 have:∀p:List Int,HeldL H (p.map D.int) (p.map V.int):=by
  intro p;induction p with
  | nil=>exact jp
  | cons x p ih=>exact jc jT ih
 exact jv h (this p)
def ja8:TE:=fun _ _ _=>False
theorem jdq{X:Cx}{e:ag}:PE X e ja8:=fun _ _ _ _ _ _ h=>h.elim
def lkA{α:Type}(L:List (Str×α))(k:Str):Option α:=(L.find? fun q=>decide (q.1=k)).map (·.2)
def kM{α:Type}(L:List (Str×α))(k:Str)(v:α):List (Str×α):=if (L.any fun q=>decide (q.1=k))=true then L.map (fun q=>if q.1=k then (q.1,v) else q) else L++[(k,v)]
def nKV(N:List (Str×Int)):List (Key×V):=N.map fun q=>(Sum.inr q.1,V.int q.2)
theorem J2(x y:Str):decide ((Sum.inr x:Key)=Sum.inr y)=decide (x=y):=by
 rw[decide_eq_decide];exact⟨fun h=>ix h,fun h=>by rw[h]⟩
theorem JY(N:List (Str×Int))(x:Str):kK (nKV N) (Sum.inr x)=(lkA N x).map V.int:=by
 unfold kK lkA nKV;rw[List.find?_map,O9,O9];congr 1;congr 1;funext q;exact J2 q.1 x
theorem JZ(N:List (Str×Int))(x:Str)(n:Int):kW (nKV N) (Sum.inr x) (.int n)=nKV (kM N x n):=by
 unfold kW kM nKV;have e:((N.map fun q=>((Sum.inr q.1:Key),V.int q.2)).any fun kv=>decide (kv.1=(Sum.inr x:Key)))=N.any fun q=>decide (q.1=x):=by
  rw[List.any_map];congr 1;funext q;exact J2 q.1 x
 rw[e];split
 .rw[ln,ln]
  apply EW;intro q _;show (if (Sum.inr q.1:Key)=Sum.inr x then ((Sum.inr q.1:Key),V.int n) else ((Sum.inr q.1:Key),V.int q.2))=((Sum.inr (if q.1=x then (q.1,n) else q).1:Key),V.int (if q.1=x then (q.1,n) else q).2);by_cases h:q.1=x
  .rw[Qg (by rw[h]),Qg h]
  .rw[Qf (fun z=>h (ix z)),Qf h]
 .rw[aX]
  rfl
theorem Ja{α:Type}(L:List (Str×α))(k:Str)(v:α):(kM L k v).length<=L.length+1:=by
 unfold kM;split
 .rw[am];omega
 .rw[aP];simp
def kr(N:List (Str×Int))(x:Str):Int:=if x = "" then 0 else (lkA N x).getD 0
theorem ku{x:Int}(h:Held H (.int x) v):v=.int x:=by unfold Held at h;exact h
theorem jD{ds:List D}(h:Held H (.tup ds) v):∃a xs,v=.ref a/\H a=some (.tup xs)/\HeldL H ds xs:=by unfold Held at h;exact h
theorem jP(h:HeldL H [] vs):vs=[]:=by unfold HeldL at h;exact h
theorem jg{d:D}{ds:List D}(h:HeldL H (d :: ds) vs):∃v r,vs=v :: r/\Held H d v/\HeldL H ds r:=by unfold HeldL at h;exact h
theorem jE{x:Str}(h:Held H (.str x) v):v=.str x:=by unfold Held at h;exact h
theorem jaO{x y:Str}(h:Held H (.tup [.str x,.str y]) v):∃a,v=.ref a/\H a=some (.tup [.str x,.str y]):=by
 obtain⟨a,xs,rfl,ha,h1⟩:=jD h;obtain⟨v1,r1,rfl,e1,h2⟩:=jg h1;obtain⟨v2,r2,rfl,e2,h3⟩:=jg h2
 cases jP h3
 cases jE e1
 cases jE e2
 exact⟨a,rfl,ha⟩
theorem yz{α:Type}(q:Str×α)(N:List (Str×α))(y:Str):lkA (q :: N) y=if q.1=y then some q.2 else lkA N y:=by
 unfold lkA;rw[g9];by_cases h:q.1=y
 .rw[Qd h,Qg h];rfl
 .rw[Qe h,Qf h]
theorem jej{ns:List Int}{k:Int}(h0:0<=k)(h:k < (ns.length:Int)):atI (ns.map V.int) k=some (.int (ns.getD k.toNat 0)):=by
 have hk:k.toNat < ns.length:=by omega
 have:=qG (xs:=ns.map V.int) (j:=k.toNat) (v:=.int (ns.getD k.toNat 0)) (by rw[bA,eK,aC hk];rfl);rw[show ((k.toNat:Nat):Int)=k by omega]at this;exact this
variable {i:Int}
theorem kH{xs:List Str}(h0:0<=i)(h:i < (xs.length:Int)):atI (xs.map V.str) i=some (.str (xs.getD i.toNat "")):=by
 have hk:i.toNat < xs.length:=by omega
 have:=qG (xs:=xs.map V.str) (j:=i.toNat) (v:=.str (xs.getD i.toNat "")) (by rw[bA,eK,aC hk];rfl);rw[show ((i.toNat:Nat):Int)=i by omega]at this;exact this
theorem ZS:∀ys:List Nat,(mB "" (ys.map fun c=>(⟨#[c]⟩:Str))).cps.toList=ys:=by
 intro ys;have e:mB "" (ys.map fun c=>(⟨#[c]⟩:Str))=("" : Str).join (ys.map fun c=>(⟨#[c]⟩:Str)):=PySem.StrLaws.glued_eq_join _ _;rw[e];clear e;induction ys with
 | nil=>rfl
 | cons y r ih=>
  cases r with
  | nil=>rfl
  | cons z r=>
   show (((⟨#[y]⟩:Str)++("" : Str))++("" : Str).join ((z :: r).map fun c=>(⟨#[c]⟩:Str))).cps.toList=_;rw[N5,rH,ih];rfl
def qw:Str:="abcdefghijklmnopqrstuvwxyz"
theorem Y3:qw.cps.toList=(bm 26).map (·+97):=by decide +kernel
def zN(i:Int):Nat:=i.toNat+97
theorem Ym(h0:0<=i)(h1:i < 26):atI qw.cps.toList i=some (zN i):=by
 have hk:i.toNat < 26:=by omega
 have:=qG (xs:=qw.cps.toList) (j:=i.toNat) (v:=zN i) (by rw[Y3,bA,EY hk];rfl);rw[show ((i.toNat:Nat):Int)=i by omega]at this;exact this
def qzS:Str:="qz"
def qzC(i:Int):Nat:=if i=0 then 113 else 122
theorem jg5(h0:0<=i)(h1:i < 2):atI qzS.cps.toList i=some (qzC i):=by
 have:i=0\/i=1:=by omega
 rcases this with rfl | rfl
 .decide +kernel
 .decide +kernel
def Kq:List Str:=["row","is","at","set","put","know","lose","start","entry","own","nought","pick","least","lost"]
structure WordsOk(ws:List Str)(n:Nat):Prop where
 len:ws.length=n
 nd:ws.Nodup
 ne:∀w∈ws,w≠""
 out:∀w∈ws,w≠"out"
 sz:∀w∈ws,w.length<=10
variable {n:Nat}
theorem yL{α:Type}{f:Nat->α}(h:∀i j,i < n->j < n->f i=f j->i=j):((bm n).map f).Nodup:=by
 unfold bG;rw[rD];apply E9 (R:=fun a b=>a≠b)
 .intro a b ha hb bp e
  exact bp (h a b (iI.mp ha) (iI.mp hb) e)
 .exact List.nodup_range
theorem Y0{a:Int}{i j:Nat}{m:Int}(hn:(n:Int)<=m)(hi:i < n)(hj:j < n)(h:(a+(0+(i:Int))) % m=(a+(0+(j:Int))) % m):i=j:=by
 have hm:0 < m:=by omega
 have h1:=Int.emod_emod_of_dvd (a+(0+(i:Int))) (Int.dvd_refl m);have h2:((a+(0+(i:Int))) - (a+(0+(j:Int)))) % m=0:=Int.emod_eq_emod_iff_emod_sub_eq_zero.mp h;have h3:m ∣ ((i:Int) - j):=by
  have:=Int.dvd_of_emod_eq_zero h2;rwa [show (a+(0+(i:Int))) - (a+(0+(j:Int)))=(i:Int) - j by omega]at this
 have h4:=Int.eq_zero_of_dvd_of_natAbs_lt_natAbs h3 (by omega);omega
def jdw(c:Int)(k:Nat):Str:=Kq.getD ((c / 7+(0+(k:Int))) % 14).toNat ""
def jgl(c:Int)(k:Nat):Str:=⟨#[zN ((c / 8+(0+(k:Int))) % 26)]⟩
def bsW(c bh:Int)(k j:Nat):Int:=c / 432+7 * (0+(j:Int)) * (0+(j:Int))+(0+(k:Int)) * (if decide (V.int (0+(j:Int))=V.int bh)=true then 1 else 0)
def lgW(c size bh:Int)(k:Nat):Str:=(⟨#[qzC (c / 144 % 2)]⟩:Str)++mB "" (((bm size.toNat).map fun j=>zN (bsW c bh k j % 26)).map fun ch=>(⟨#[ch]⟩:Str))
theorem jaH{α:Type}{l:List α}(nd:l.Nodup){i j:Nat}(hi:i < l.length)(hj:j < l.length)(e:l[i]=l[j]):i=j:=by
 have pw:=ll.mp nd;rcases EN i j with h | h | h
 .exact absurd e (pw i j hi hj h)
 .exact h
 .exact absurd e.symm (pw j i hj hi h)
theorem jaz:Kq.Nodup:=by decide +kernel
theorem Ko:∀w∈Kq,w≠""/\w≠"out"/\w.length<=10:=by decide +kernel
theorem Kn(c:Int)(k:Nat):jdw c k∈Kq:=by
 unfold jdw;have h0:=bR (c / 7+(0+(k:Int))) (b:=14) (by decide);have h1:=cr (c / 7+(0+(k:Int))) (b:=14) (by decide);have hl:Kq.length=14:=rfl;have hk:((c / 7+(0+(k:Int))) % 14).toNat < Kq.length:=by omega
 rw[eK,aC hk];exact eW hk
variable {c:Int}
theorem jgh(hn:n<=14):WordsOk ((bm n).map (jdw c)) n:=by
 refine⟨by simp,?_,fun w hw=>?_,fun w hw=>?_,fun w hw=>?_⟩
 .apply yL
  intro i j hi hj e;unfold jdw at e;have a0:=bR (c / 7+(0+(i:Int))) (b:=14) (by decide);have a1:=cr (c / 7+(0+(i:Int))) (b:=14) (by decide);have b0:=bR (c / 7+(0+(j:Int))) (b:=14) (by decide);have b1:=cr (c / 7+(0+(j:Int))) (b:=14) (by decide);have hl:Kq.length=14:=rfl;have hk:((c / 7+(0+(i:Int))) % 14).toNat < Kq.length:=by omega
  have sP:((c / 7+(0+(j:Int))) % 14).toNat < Kq.length:=by omega
  rw[eK,aC hk,eK,aC sP]at e;have e2:=jaH jaz hk sP e;exact Y0 (a:=c / 7) (n:=n) (m:=14) (by omega) hi hj (by omega)
 .obtain⟨k,_,rfl⟩:=bf.mp hw
  exact (Ko _ (Kn c k)).1
 .obtain⟨k,_,rfl⟩:=bf.mp hw
  exact (Ko _ (Kn c k)).2.1
 .obtain⟨k,_,rfl⟩:=bf.mp hw
  exact (Ko _ (Kn c k)).2.2
theorem ZR{a b:Int}(ha:0<=a)(hb:0<=b)(h:zN a=zN b):a=b:=by
 unfold zN at h;omega
theorem jgk(hn:n<=26):WordsOk ((bm n).map (jgl c)) n:=by
 refine⟨by simp,?_,fun w hw=>?_,fun w hw=>?_,fun w hw=>?_⟩
 .apply yL
  intro i j hi hj e;unfold jgl at e;have a0:=bR (c / 8+(0+(i:Int))) (b:=26) (by decide);have b0:=bR (c / 8+(0+(j:Int))) (b:=26) (by decide);have e1:zN ((c / 8+(0+(i:Int))) % 26)=zN ((c / 8+(0+(j:Int))) % 26):=by
   injection e with e;injection e with e;injection e
  exact Y0 (n:=n) (m:=26) (by omega) hi hj (ZR a0 b0 e1)
 .obtain⟨k,_,rfl⟩:=bf.mp hw
  intro z;have:=Qi Eb z;exact absurd this (by show (1:Nat)≠0;decide)
 .obtain⟨k,_,rfl⟩:=bf.mp hw
  intro z;have:=Qi Eb z;exact absurd this (by show (1:Nat)≠3;decide)
 .obtain⟨k,_,rfl⟩:=bf.mp hw
  show 1<=10;decide
theorem J0(c size bh:Int)(k:Nat):(lgW c size bh k).cps.toList=qzC (c / 144 % 2) :: (bm size.toNat).map fun j=>zN (bsW c bh k j % 26):=by
 unfold lgW;rw[N5,rH,ZS];rfl
theorem jhd{size bh:Int}(hn:n<=26)(h0:0<=bh)(h1:bh < size)(h2:size<=7):WordsOk ((bm n).map (lgW c size bh)) n:=by
 have len:∀k,(lgW c size bh k).length=1+size.toNat:=fun k=>by
  show (lgW c size bh k).cps.size=_;rw[<- fL,J0];simp;omega
 have q0:∀k,(lgW c size bh k).cps.toList[0]?=some (qzC (c / 144 % 2)):=fun k=>by rw[J0];rfl
 refine⟨by simp,?_,fun w hw=>?_,fun w hw=>?_,fun w hw=>?_⟩
 .apply yL
  intro i j hi hj e;have e1:(lgW c size bh i).cps.toList=(lgW c size bh j).cps.toList:=by rw[e]
  rw[J0,J0]at e1;injection e1 with _ e1;have hs:bh.toNat < size.toNat:=by omega
  have e2:zN (bsW c bh i bh.toNat % 26)=zN (bsW c bh j bh.toNat % 26):=by
   have this:((bm size.toNat).map fun k=>zN (bsW c bh i k % 26))[bh.toNat]?=((bm size.toNat).map fun k=>zN (bsW c bh j k % 26))[bh.toNat]?:=by rw[e1]
   rw[bA,bA,EY hs]at this;exact dW this
  have e3:=ZR (bR _ (by decide)) (bR _ (by decide)) e2;unfold bsW at e3;have hd:decide (V.int (0+((bh.toNat:Nat):Int))=V.int bh)=true:=Qd (Qi V.int (by omega));rw[hd,Qg rfl,x_,x_]at e3;exact Y0 (n:=n) (m:=26) (by omega) hi hj e3
 .obtain⟨k,_,rfl⟩:=bf.mp hw
  intro z;have h:=len k;rw[z]at h;have:(0:Nat)=1+size.toNat:=h;omega
 .obtain⟨k,_,rfl⟩:=bf.mp hw
  intro z;have h:=q0 k;rw[z]at h;have h':some (111:Nat)=some (qzC (c / 144 % 2)):=by
   rw[<- h];decide +kernel
  unfold qzC at h';split at h' <;> cases h'
 .obtain⟨k,_,rfl⟩:=bf.mp hw
  rw[len k];omega
end LW
namespace L2
open PySem PySem.Spec PyProof.Rows PySem.W
theorem fQ{a b c}(h:FnScope a b c:=by exact⟨rfl,rfl,rfl,by decide +kernel,rfl,by decide +kernel,by decide +kernel⟩):FnScope a b c:=h
theorem oQ{p q:Prop}(h:p\/q:=by first|exact .inl rfl|exact .inr rfl):p\/q:=h
variable {H:Hp}
theorem jhy{i:Nat}{v:V}{σ σ':St}{Q:St->Hp->Prop}(e:σ.set i (some v)=σ')(h:Q σ' H):kU i v σ H Q:=by subst e;exact h
theorem gQ{i:Nat}{v:V}{σ σ':St}{Q:St->Hp->Prop}(h:Q σ' H)(e:σ.set i (some v)=σ':=by simp only[List.set_cons_succ,List.set_cons_zero];rfl):kU i v σ H Q:=jhy e h
theorem zU{t:TS}{D:Ends}{σ σ':St}(e:σ=σ')(h:t D σ' H):t D σ H:=by subst e;exact h
section
variable {X:Cx}
structure QA(X:Cx)(es:List ag)(t:TA):Prop where
 h:PA X es t
structure QE(X:Cx)(e:ag)(t:TE):Prop where
 h:PE X e t
end
end L2
namespace PySem
variable {z i1 i2 l1 l2:aa}{k1:Nat}{xs ys:Array ac}{Q:ac->ae->Prop}
section
variable {prog:av}{w:ar}{A:aD}{E:ac->ae->Prop}{s:ae}
abbrev zT(h:aq)(z TI TO:aa)(f0:ac)(b:Bool):Prop:=
 h.get? z=some { cls:=.type "zip",dict:=none,data:=.fields #[f0,.bool b,.bool false,.ref TI,.ref TO],slots:=#[] }
theorem jah{TI TO T:aa}{oT:Obj}{bb:Bool}{k2:Nat}{x y:ac}
  (n1:i1≠z) (n2:i2≠z) (sk:i1≠i2) (m1:l1≠z) (m2:l2≠z) (AJ:l2≠i1) (nTz:T≠z) (sj:TI≠z)
  (hz:zT s.heap z TI TO (bx T) bb) (hT:s.heap.get? T=some oT) (gh:cY s.heap TI (.ref i1) (.ref i2))
  (h1:s.heap.IsTupleIter i1 l1 k1) (Cp:s.heap.IsListIter i2 l2 k2) (aT:s.heap.IsTuple l1 xs) (aQ:s.heap.IsList l2 ys) (hx:xs[k1]?=some x) (hy:ys[k2]?=some y)
  (hQ:∀h',zT h' z TI TO (bx T) true->h'.IsTupleIter i1 l1 (k1+1)->h'.IsListIter i2 l2 (k2+1)->cY h' s.heap.objs.size x y->h'.objs.size=s.heap.objs.size+1->
   (∀c o,c≠z->c≠i1->c≠i2->s.heap.get? c=some o->h'.get? c=some o)->Q (.ref s.heap.objs.size) { s with heap:=h' }) :
  af (aj prog w) A (Builtin.«zip.__next__» ⟨[.ref z],[]⟩) (fun fin s'=>∃v,fin=.done (.ret v)/\Q v s') E s:=by
 show af _ _ (field (.ref z) 2 >>= _) _ _ _
 refine ad (bO hz rfl (x:=.bool false) rfl ?_)
 show af _ _ (field (.ref z) 3 >>= _) _ _ _
 refine ad (bO hz rfl (x:=.ref TI) rfl ?_)
 refine ad (gS gh rfl ?_)
 show af _ _ (iG (.ref z) >>= _) _ _ _
 refine ad ?_
 unfold iG
 refine ad (bO hz rfl (x:=bx T) rfl ?_)
 show af _ _ (loadIfAlive ((T:Int).toNat) >>= _) _ _ _
 rw[lB]
 refine ad (W.kdx_alive hT ?_)
 simp only[Pa,g_,if_false]
 refine ad (bO hz rfl (x:=.bool bb) rfl ?_)
 cases bb with
 | true=>
  rw[Qf (show ¬((Value.bool true != Value.bool true)=true) from bB)]
  refine al ?_
  simp only[g_,if_false,<- y_,n9,n8]
  refine ad (ad (ad (de ?_)))
  show af _ _ (eV (.ref i1) >>= _) _ _ _
  refine ad (yZ (h1) (aT) hx fun h2 t2 b2=>al (al ?_))
  dsimp only
  refine ad (ad (de ?_))
  show af _ _ (eV (.ref i2) >>= _) _ _ _
  refine ad (Dz (Cp.extBut b2.extBut sk.symm) (aQ.extBut b2.extBut AJ) hy fun h3 t3 b3=>al (al (al ?_)))
  dsimp only
  refine ad (tK (hsz:=by show 2<=aB;decide) (al ⟨_,rfl,?_⟩))
  have sz:h3.objs.size=s.heap.objs.size:=by rw[b3.1,b2.1]
  show Q (.ref h3.objs.size) _
  have uK:zT h3 z TI TO (bx T) true:=b3.extBut _ _ n2.symm (b2.extBut _ _ n1.symm hz)
  have kk:∀c o,c≠z->c≠i1->c≠i2->s.heap.get? c=some o->h3.get? c=some o:=fun c o c1 c2 c3 e=>b3.extBut _ _ c3 (b2.extBut _ _ c2 (e))
  have on:h3.IsTupleIter i1 l1 (k1+1):=t2.extBut b3.extBut sk
  have pp:∀c o,h3.get? c=some o->(h3.push { cls:=.type "tuple",data:=.seq #[x,y] }).get? c=some o:=fun c o e=>aF _ e
  have np:cY (h3.push { cls:=.type "tuple",data:=.seq #[x,y] }) h3.objs.size x y:=bz _ rfl
  have zp:(h3.push { cls:=.type "tuple",data:=.seq #[x,y] }).objs.size=s.heap.objs.size+1:=by rw[dU,sz]
  rw[sz]at np |-
  exact hQ _ (pp _ _ uK) (on.at fun o e=>pp _ o e) (t3.at fun o e=>pp _ o e) np zp fun c o c1 c2 c3 e=>pp _ _ (kk c o c1 c2 c3 e)
 | false=>
  rw[Qg (show (Value.bool false != Value.bool true)=true from rfl)]
  refine ad (fE hz (by simp) fun cz e1 b1=>?_)
  replace b1:df z s.heap cz:=b1
  replace e1:zT cz z TI TO (bx T) true:=e1
  refine al ?_
  simp only[g_,if_false,<- y_,n9,n8]
  refine ad (ad (ad (de ?_)))
  show af _ _ (eV (.ref i1) >>= _) _ _ _
  refine ad (yZ (h1.extBut b1.extBut n1) (aT.extBut b1.extBut m1) hx fun h2 t2 b2=>al (al ?_))
  dsimp only
  refine ad (ad (de ?_))
  show af _ _ (eV (.ref i2) >>= _) _ _ _
  refine ad (Dz ((Cp.extBut b1.extBut n2).extBut b2.extBut sk.symm) ((aQ.extBut b1.extBut m2).extBut b2.extBut AJ) hy fun h3 t3 b3=>al (al (al ?_)))
  dsimp only
  refine ad (tK (hsz:=by show 2<=aB;decide) (al ⟨_,rfl,?_⟩))
  have sz:h3.objs.size=s.heap.objs.size:=by rw[b3.1,b2.1,b1.1]
  show Q (.ref h3.objs.size) _
  have uK:zT h3 z TI TO (bx T) true:=b3.extBut _ _ n2.symm (b2.extBut _ _ n1.symm e1)
  have kk:∀c o,c≠z->c≠i1->c≠i2->s.heap.get? c=some o->h3.get? c=some o:=fun c o c1 c2 c3 e=>b3.extBut _ _ c3 (b2.extBut _ _ c2 (b1.extBut _ _ c1 e))
  have on:h3.IsTupleIter i1 l1 (k1+1):=t2.extBut b3.extBut sk
  have pp:∀c o,h3.get? c=some o->(h3.push { cls:=.type "tuple",data:=.seq #[x,y] }).get? c=some o:=fun c o e=>aF _ e
  have np:cY (h3.push { cls:=.type "tuple",data:=.seq #[x,y] }) h3.objs.size x y:=bz _ rfl
  have zp:(h3.push { cls:=.type "tuple",data:=.seq #[x,y] }).objs.size=s.heap.objs.size+1:=by rw[dU,sz]
  rw[sz]at np |-
  exact hQ _ (pp _ _ uK) (on.at fun o e=>pp _ o e) (t3.at fun o e=>pp _ o e) np zp fun c o c1 c2 c3 e=>pp _ _ (kk c o c1 c2 c3 e)
theorem jai{TI TO:aa}{k2:Nat}{x y a b:ac}(D:tP z TI TO i1 i2 l1 l2)
  (hz:IsZip s.heap z TI TO .none) (gh:cY s.heap TI (.ref i1) (.ref i2)) (pH:cY s.heap TO a b)
  (h1:s.heap.IsTupleIter i1 l1 k1) (h2:s.heap.IsListIter i2 l2 k2) (aT:s.heap.IsTuple l1 xs) (aQ:s.heap.IsList l2 ys) (hx:xs[k1]?=some x) (hy:ys[k2]?=some y)
  (hQ:∀h',zT h' z TI TO (bx s.heap.objs.size) false->h'.IsTupleIter i1 l1 (k1+1)->h'.IsListIter i2 l2 (k2+1)->cY h' s.heap.objs.size x y->h'.objs.size=s.heap.objs.size+1->
   (∀c o,c≠z->c≠TO->c≠i1->c≠i2->s.heap.get? c=some o->h'.get? c=some o)->Q (.ref s.heap.objs.size) { s with heap:=h' }) :
  af (aj prog w) A (Builtin.«zip.__next__» ⟨[.ref z],[]⟩) (fun fin s'=>∃v,fin=.done (.ret v)/\Q v s') E s:=by
 show af _ _ (field (.ref z) 2 >>= _) _ _ _
 refine ad (bO hz rfl (x:=.bool false) rfl ?_)
 show af _ _ (field (.ref z) 3 >>= _) _ _ _
 refine ad (bO hz rfl (x:=.ref TI) rfl ?_)
 refine ad (gS gh rfl ?_)
 show af _ _ (iG (.ref z) >>= _) _ _ _
 refine ad ?_
 unfold iG
 refine ad (bO hz rfl (x:=.none) rfl (al ?_))
 simp only[if_true]
 refine ad (gq ?_)
 refine ad (bO hz rfl (x:=.ref TO) rfl ?_)
 refine ad (fE hz (by simp) fun g1 z1 b1=>?_)
 replace z1:IsZip g1 z TI TO .ellipsis:=z1
 refine ad ?_
 simp only[Pn,Pm,n9,n8]
 refine ad (ad (Dy ?_))
 show af _ _ (eV (.ref i1) >>= _) _ _ _
 refine ad (yZ (h1.extBut b1.extBut D.i1z) (aT.extBut b1.extBut D.l1z) hx fun g2 t2 b2=>al ?_)
 have o2:cY g2 TO a b:=b2.extBut _ _ D.TOi1 (b1.extBut _ _ D.TOz pH)
 refine ad (gS o2 rfl ?_)
 refine ad (MN o2 fun g3 o3 b3=>?_)
 replace o3:cY g3 TO x b:=o3
 refine ad (DC (al ?_))
 refine ad (ad (Dy ?_))
 show af _ _ (eV (.ref i2) >>= _) _ _ _
 refine ad (Dz (((h2.extBut b1.extBut D.i2z).extBut b2.extBut D.i12.symm).extBut b3.extBut D.TOi2.symm) (((aQ.extBut b1.extBut D.l2z).extBut b2.extBut D.l2i1).extBut b3.extBut D.l2TO) hy fun g4 t4 b4=>al ?_)
 have o4:cY g4 TO x b:=b4.extBut _ _ D.TOi2 o3
 refine ad (gS o4 rfl ?_)
 refine ad (MN o4 fun g5 o5 b5=>?_)
 replace o5:cY g5 TO x y:=o5
 refine ad (DC (al (al ?_)))
 refine ad (gS o5 rfl ?_)
 refine ad (tK ?_)
 have sz:g5.objs.size=s.heap.objs.size:=by rw[b5.1,b4.1,b3.1,b2.1,b1.1]
 have z5:IsZip g5 z TI TO .ellipsis:=b5.extBut _ _ D.TOz.symm (b4.extBut _ _ D.i2z.symm (b3.extBut _ _ D.TOz.symm (b2.extBut _ _ D.i1z.symm z1)))
 have k5:∀c o,c≠z->c≠TO->c≠i1->c≠i2->s.heap.get? c=some o->g5.get? c=some o:=fun c o c1 c2 c3 c4 e=>b5.extBut _ _ c2 (b4.extBut _ _ c4 (b3.extBut _ _ c2 (b2.extBut _ _ c3 (b1.extBut _ _ c1 e))))
 have on:g5.IsTupleIter i1 l1 (k1+1):=((t2.extBut b3.extBut D.TOi1.symm).extBut b4.extBut D.i12).extBut b5.extBut D.TOi1.symm
 have Fq:g5.IsListIter i2 l2 (k2+1):=t4.extBut b5.extBut D.TOi2.symm
 have Aa:z < g5.objs.size:=aI z5
 show af _ _ (xE (.ref z) (.ref g5.objs.size) >>= _) _ _ _
 refine ad ?_
 unfold xE
 have z6:IsZip (g5.push { cls:=.type "tuple",data:=.seq #[x,y] }) z TI TO .ellipsis:=aF _ z5
 refine ad (fE z6 (by simp) fun g7 z7 b7=>?_)
 replace z7:IsZip g7 z TI TO (bx g5.objs.size):=z7
 refine fE z7 (by simp) fun g8 z8 b8=>?_
 replace z8:zT g8 z TI TO (bx g5.objs.size) false:=z8
 have up:∀c o,c≠z->g5.get? c=some o->g8.get? c=some o:=fun c o c1 e=>b8.extBut _ _ c1 (b7.extBut _ _ c1 (aF _ e))
 have p8:cY g8 g5.objs.size x y:=b8.extBut _ _ (gZ Aa) (b7.extBut _ _ (gZ Aa) (bz _ rfl))
 have s8:g8.objs.size=g5.objs.size+1:=by rw[b8.1,b7.1,dU]
 rw[sz]at z8 p8 s8
 refine al ⟨_,rfl,?_⟩
 show Q (.ref g5.objs.size) _
 rw[sz]
 exact hQ g8 z8 (on.at fun o e=>up _ o D.i1z e) (Fq.at fun o e=>up _ o D.i2z e) p8 s8 fun c o c1 c2 c3 c4 e=>up c o c1 (k5 c o c1 c2 c3 c4 e)
theorem J8{TI TO T:aa}{oT:Obj}{bb:Bool}{Q:Fin->ae->Prop}(hh:A.handled=none)
  (n1:i1≠z) (m1:l1≠z) (hz:zT s.heap z TI TO (bx T) bb) (hT:s.heap.get? T=some oT) (gh:cY s.heap TI (.ref i1) (.ref i2)) (h1:s.heap.IsTupleIter i1 l1 k1) (aT:s.heap.IsTuple l1 xs) (hx:xs[k1]?=none)
  (hE:∀h' e,(∀c o,c≠z->c≠i1->s.heap.get? c=some o->h'.get? c=some o)->(∃o,h'.get? e=some o/\o.cls=.type "StopIteration")->E (.ref e) { s with heap:=h' }) :
  af (aj prog w) A (Builtin.«zip.__next__» ⟨[.ref z],[]⟩) Q E s:=by
 show af _ _ (field (.ref z) 2 >>= _) _ _ _
 refine ad (bO hz rfl (x:=.bool false) rfl ?_)
 show af _ _ (field (.ref z) 3 >>= _) _ _ _
 refine ad (bO hz rfl (x:=.ref TI) rfl ?_)
 refine ad (gS gh rfl ?_)
 show af _ _ (iG (.ref z) >>= _) _ _ _
 refine ad ?_
 unfold iG
 refine ad (bO hz rfl (x:=bx T) rfl ?_)
 show af _ _ (loadIfAlive ((T:Int).toNat) >>= _) _ _ _
 rw[lB]
 refine ad (W.kdx_alive hT ?_)
 simp only[Pa,g_,if_false]
 refine ad (bO hz rfl (x:=.bool bb) rfl ?_)
 cases bb with
 | true=>
  rw[Qf (show ¬((Value.bool true != Value.bool true)=true) from bB)]
  refine al ?_
  simp only[g_,if_false,<- y_,n9,n8]
  refine ad (ad (ad (de ?_)))
  show af _ _ (eV (.ref i1) >>= _) _ _ _
  exact ad (qQ hh (h1) (aT) hx fun h2 e b2 he=>hE h2 e (fun c o c1 c3 x=>b2 _ _ c3 (x)) he)
 | false=>
  rw[Qg (show (Value.bool false != Value.bool true)=true from rfl)]
  refine ad (fE hz (by simp) fun cz e1 b1=>?_)
  replace b1:df z s.heap cz:=b1
  refine al ?_
  simp only[g_,if_false,<- y_,n9,n8]
  refine ad (ad (ad (de ?_)))
  show af _ _ (eV (.ref i1) >>= _) _ _ _
  exact ad (qQ hh (h1.extBut b1.extBut n1) (aT.extBut b1.extBut m1) hx fun h2 e b2 he=>hE h2 e (fun c o c1 c3 x=>b2 _ _ c3 (b1.extBut _ _ c1 x)) he)
theorem KZ{TI TO:aa}{Q:Fin->ae->Prop}(hh:A.handled=none)
  (n1:i1≠z) (m1:l1≠z) (hz:IsZip s.heap z TI TO .none) (gh:cY s.heap TI (.ref i1) (.ref i2)) (h1:s.heap.IsTupleIter i1 l1 k1) (aT:s.heap.IsTuple l1 xs) (hx:xs[k1]?=none)
  (hE:∀h' e,(∀c o,c≠z->c≠i1->s.heap.get? c=some o->h'.get? c=some o)->(∃o,h'.get? e=some o/\o.cls=.type "StopIteration")->E (.ref e) { s with heap:=h' }) :
  af (aj prog w) A (Builtin.«zip.__next__» ⟨[.ref z],[]⟩) Q E s:=by
 show af _ _ (field (.ref z) 2 >>= _) _ _ _
 refine ad (bO hz rfl (x:=.bool false) rfl ?_)
 show af _ _ (field (.ref z) 3 >>= _) _ _ _
 refine ad (bO hz rfl (x:=.ref TI) rfl ?_)
 refine ad (gS gh rfl ?_)
 show af _ _ (iG (.ref z) >>= _) _ _ _
 refine ad ?_
 unfold iG
 refine ad (bO hz rfl (x:=.none) rfl (al ?_))
 simp only[if_true]
 refine ad (gq ?_)
 refine ad (bO hz rfl (x:=.ref TO) rfl ?_)
 refine ad (fE hz (by simp) fun g1 z1 b1=>?_)
 replace z1:IsZip g1 z TI TO .ellipsis:=z1
 refine ad ?_
 simp only[Pn,Pm,n9,n8]
 refine ad (ad (Dy ?_))
 show af _ _ (eV (.ref i1) >>= _) _ _ _
 refine ad (qQ hh (h1.extBut b1.extBut n1) (aT.extBut b1.extBut m1) hx fun g2 e b2 he=>?_)
 obtain⟨oe,ij,BT⟩:=he
 have z2:IsZip g2 z TI TO .ellipsis:=b2 _ _ n1.symm z1
 have IW:e≠z:=fun x=>by subst x;rw[z2]at ij;cases ij;simp at BT
 exact fE z2 (by simp) fun g3 _ b3=>hE g3 e (fun c o c1 c3 x=>b3.extBut _ _ c1 (b2 _ _ c3 (b1.extBut _ _ c1 x))) ⟨oe,b3.extBut _ _ IW ij,BT⟩
end
abbrev jeq(h:aq)(l1:aa):aq:=h.push { cls:=.type "tuple_iterator",data:=.fields #[.ref l1,.int 0 0] }
abbrev jep(h:aq)(l1 l2:aa):aq:=(jeq h l1).push { cls:=.type "list_iterator",data:=.fields #[.ref l2,.int 0 0] }
abbrev jeo(h:aq)(l1 l2:aa):aq:=(jep h l1 l2).push { cls:=.type "tuple",data:=.seq #[.ref h.objs.size,.ref (jeq h l1).objs.size] }
abbrev jen(h:aq)(l1 l2:aa):aq:=(jeo h l1 l2).push { cls:=.type "tuple",data:=.seq #[.none,.none] }
abbrev jaf(h:aq)(l1 l2:aa):aq:=(jen h l1 l2).push { cls:=.type "zip",data:=.fields #[.none,.bool false,.bool false,.ref (jep h l1 l2).objs.size,.ref (jeo h l1 l2).objs.size] }
theorem jcM(l1 l2:aa)(xs ys:Array ac):
  Meets (Builtin.«zip.__new__» ⟨[.type "zip",.ref l1,.ref l2],[]⟩) (fun _ R s=>s.heap.IsTuple l1 xs/\s.heap.IsList l2 ys/\R (.ok (.ret (.ref (jen s.heap l1 l2).objs.size))) { s with heap:=jaf s.heap l1 l2 }):=
 .of_wp fun prog w A R s h=>by
  obtain⟨hp,g,d,tk,os⟩:=s;obtain⟨aT,aQ,h⟩:=h;have oZ:=sub_zip;have LH:El (Ed ⟨hp,g,d,tk,os⟩) l1 xs:=aT;have LG:Og (Ed ⟨hp.push { cls:=.type "tuple_iterator",data:=.fields #[.ref l1,.int 0 0] },g,d,tk,os⟩) l2 ys:=Og.push aQ _;wp_walk using tJ LH,wT LG;exact⟨_,rfl,h⟩
section
variable {prog:av}{w:ar}{A:aD}{E:ac->ae->Prop}{s:ae}
theorem jcu(aT:s.heap.IsTuple l1 xs)(aQ:s.heap.IsList l2 ys)
  (h:∀h',IsZip h' (s.heap.objs.size+4) (s.heap.objs.size+2) (s.heap.objs.size+3) .none->cY h' (s.heap.objs.size+2) (.ref s.heap.objs.size) (.ref (s.heap.objs.size+1))->
   cY h' (s.heap.objs.size+3) .none .none->h'.IsTupleIter s.heap.objs.size l1 0->h'.IsListIter (s.heap.objs.size+1) l2 0->h'.objs.size=s.heap.objs.size+5->
   (∀c o,s.heap.get? c=some o->h'.get? c=some o)->Q (.ref (s.heap.objs.size+4)) { s with heap:=h' }) :
  af (aj prog w) A (call (.type "zip") [.ref l1,.ref l2]) Q E s:=by
 refine callType_new F.called_zip (by decide) (F.typeCall_zip_2 _ _) (F.newCall_zip_2 _ _) (fun obj=>F.args_object_init_3 obj _ _) F.entry_zip_new (jcM l1 l2 xs ys) ⟨aT,aQ,?_⟩
 have z1:(jeq s.heap l1).objs.size=s.heap.objs.size+1:=dU ..
 have z2:(jep s.heap l1 l2).objs.size=s.heap.objs.size+2:=by rw[dU,z1]
 have z3:(jeo s.heap l1 l2).objs.size=s.heap.objs.size+3:=by rw[dU,z2]
 have z4:(jen s.heap l1 l2).objs.size=s.heap.objs.size+4:=by rw[dU,z3]
 have z5:(jaf s.heap l1 l2).objs.size=s.heap.objs.size+5:=by rw[dU,z4]
 have up:∀(h:aq) (o:Obj) c u,h.get? c=some u->(h.push o).get? c=some u:=fun h o c u e=>aF _ e
 have g5:(jaf s.heap l1 l2).get? (jen s.heap l1 l2).objs.size=some _:=bz _ rfl
 have g4:(jaf s.heap l1 l2).get? (jeo s.heap l1 l2).objs.size=some _:=up _ _ _ _ (bz _ rfl)
 have g3:(jaf s.heap l1 l2).get? (jep s.heap l1 l2).objs.size=some _:=up _ _ _ _ (up _ _ _ _ (bz _ rfl))
 have g2:(jaf s.heap l1 l2).get? (jeq s.heap l1).objs.size=some _:=up _ _ _ _ (up _ _ _ _ (up _ _ _ _ (bz _ rfl)))
 have g1:(jaf s.heap l1 l2).get? s.heap.objs.size=some _:=up _ _ _ _ (up _ _ _ _ (up _ _ _ _ (up _ _ _ _ (bz _ rfl))))
 show _/\_
 rw[z2,z3,z4]at g5
 rw[z1,z2]at g3
 rw[z3]at g4
 rw[z1]at g2
 rw[z4]
 exact⟨⟨_,g5,rfl⟩,h _ g5 g3 g4 ⟨_,g1,rfl,rfl⟩ ⟨_,g2,rfl,rfl⟩ z5 fun c o x=>up _ _ _ _ (up _ _ _ _ (up _ _ _ _ (up _ _ _ _ (up _ _ _ _ x))))⟩
end
open Sem (wp)
namespace F
theorem lk_zip_keys:p_ (.type "zip") "keys" = pure none:=by rw[DM,D2];kernel_rfl
theorem lk_zip_getattr:p_ (.type "zip") "__getattr__" = pure none:=by rw[DM,D2];kernel_rfl
theorem entry_zip_ga:xg table "zip.__getattribute__" = some Builtin.«object.__getattribute__»:=entryFor_alias (id':="object.__getattribute__") (by kernel_rfl) (by first | rfl | decide +kernel) (by decide +kernel) (by kernel_rfl)
end F
variable {Q:Option ac->ae->Prop}
section
variable {prog:av}{w:ar}{A:aD}{E:ac->ae->Prop}{h:aq}{g:Array xy}{d:Drawn}{t:Nat}{os:OsState}{a:aa}{its:Array ac}{n:Nat}{sl:Array (Option ac)}
theorem jfe:(aM (toString "'"++toString ((Manifest.find? "zip").elim "zip" fun x=>x.tpName)++toString "' object has no attribute '")++aM "keys"++aM "'").length<=aB:=by
 rw[gr];decide +kernel
theorem K4{tk:Tok}{Q:Fin->ae->Prop}(hh:A.handled=none)(hx:h.get? a=some { cls:=.type "zip",dict:=none,data:=.fields its,slots:=sl })
   (hq:∀h' t' e,(∀b u,h.get? b=some u->h'.get? b=some u)->(∃oe,h'.get? e=some oe/\oe.cls=.type "AttributeError")->E (.ref e) ⟨h',g,d,t',os⟩) :
  af (aj prog w) A (Builtin.«object.__getattribute__» ⟨[.ref a,.str "keys" tk],[]⟩) Q E ⟨h,g,d,t,os⟩:=by
 have hT:(⟨h,g,d,t,os⟩:ae).TypeIs (.ref a) "zip":=⟨_,hx,rfl⟩
 have f4:=F.lk_zip_keys
 repeat (any_goals (first | assumption | wp_step))
 exact ja1 jfe hh hq
theorem YY{tk:Tok}{R:lb->ae->Prop}(hh:A.handled=none)(hx:h.get? a=some { cls:=.type "zip",dict:=none,data:=.fields its,slots:=sl })
   (hq:∀h' t' e,(∀b u,h.get? b=some u->h'.get? b=some u)->(∃oe,h'.get? e=some oe/\oe.cls=.type "AttributeError")->R (.error (.ref e)) ⟨h',g,d,t',os⟩) :
  dR (aj prog w) A (.call (.builtin "zip.__getattribute__") ⟨[.ref a,.str "keys" tk],[]⟩) R ⟨h,g,d,t,os⟩:=
 NE xz.plain F.entry_zip_ga (xz.check _ _ _ _ _ _ _ _ (show (⟨h,g,d,t,os⟩:ae).TypeIs (.ref a) "zip" from⟨_,hx,rfl⟩) (F.args_zip_getattribute_2 _ _) (K4 hh hx hq))
theorem jaG{tk:Tok}{Q:ac->ae->Prop}(hh:A.handled=none)(hx:h.get? a=some { cls:=.type "zip",dict:=none,data:=.fields its,slots:=sl })
   (hq:∀h' t' e,(∀b u,h.get? b=some u->h'.get? b=some u)->(∃oe,h'.get? e=some oe/\oe.cls=.type "AttributeError")->E (.ref e) ⟨h',g,d,t',os⟩) :
  af (aj prog w) A (getAttrBy (.ref a) (.str "keys" tk) false) Q E ⟨h,g,d,t,os⟩:=by
 have hT:(⟨h,g,d,t,os⟩:ae).TypeIs (.ref a) "zip":=⟨_,hx,rfl⟩
 have f2:=xz.lookup
 have f3:=xz.bind (.ref a)
 have f4:=F.lk_zip_getattr
 repeat (any_goals (first | assumption | wp_step))
 refine YY hh hx fun h' t' e k ij=>?_
 obtain⟨oe,e1,e2⟩:=ij
 have vT:(⟨h',g,d,t',os⟩:ae).TypeIs (.ref e) "AttributeError":=⟨_,e1,e2⟩
 show af (aj prog w) A (Nu (Value.ref a) (Value.str (aM "keys") tk) (Value.type "zip") (.ref e) none false false) Q E _
 unfold Nu
 refine ad (mt vT F.sub_attr_attr ?_)
 rw[Qg rfl]
 refine ad ?_
 show af _ _ (p_ (.type "zip") "__getattr__") _ _ _
 rw[f4]
 refine al ?_
 show af _ _ (NK _ _ _ false false) _ _ _
 unfold NK
 dsimp only
 rw[Qg (show (!false)=true from rfl)]
 refine ad (wS ?_)
 exact hq h' t' e k ⟨oe,e1,e2⟩
theorem nokeysZ{s:ae}(hh:A.handled=none)(hx:s.heap.get? a=some { cls:=.type "zip",dict:=none,data:=.fields its,slots:=sl })
   (hq:∀h' t',(∀b u,s.heap.get? b=some u->h'.get? b=some u)->Q none { s with heap:=h',toks:=t' }) :
  af (aj prog w) A (getAttr? (.ref a) "keys") Q E s:=by
 obtain⟨h,g,d,t,os⟩:=s
 unfold getAttr? getAttrBy?
 refine ad (wpAny_mkText (ad (mv ?_)))
 refine jaG hh hx fun h' t' e k ij=>?_
 obtain⟨oe,e1,e2⟩:=ij
 have vT:(⟨h',g,d,t',os⟩:ae).TypeIs (.ref e) "AttributeError":=⟨_,e1,e2⟩
 dsimp only
 refine ad (mt vT F.sub_attr_attr ?_)
 rw[Qg rfl]
 exact al (hq h' t' k)
end
structure ZipSt(h:aq)(z TI TO i1 i2 l1 l2:aa)(i:Nat):Prop where
 ti:cY h TI (.ref i1) (.ref i2)
 a:h.IsTupleIter i1 l1 i
 b:h.IsListIter i2 l2 i
 c:(IsZip h z TI TO .none/\∃a b,cY h TO a b)\/∃(T:aa) (oT:Obj) (bb:Bool),zT h z TI TO (bx T) bb/\h.get? T=some oT/\T≠z/\T≠i1/\T≠i2
section
variable {prog:av}{w:ar}{A:aD}{E:ac->ae->Prop}{s:ae}
theorem jbH{z TI TO i1 i2 l1 l2:aa}{i:Nat}{xs ys:Array ac}{x y:ac}(D:tP z TI TO i1 i2 l1 l2)(Z:ZipSt s.heap z TI TO i1 i2 l1 l2 i)(aT:s.heap.IsTuple l1 xs)(aQ:s.heap.IsList l2 ys)(hx:xs[i]?=some x)(hy:ys[i]?=some y)
  (hQ:∀h',ZipSt h' z TI TO i1 i2 l1 l2 (i+1)->cY h' s.heap.objs.size x y->(∀c o,c≠z->c≠TO->c≠i1->c≠i2->s.heap.get? c=some o->h'.get? c=some o)->Q (some (.ref s.heap.objs.size)) { s with heap:=h' }) :
  af (aj prog w) A (cC (.ref z)) Q E s:=by
 have lt:∀{c o},s.heap.get? c=some o->s.heap.objs.size≠c:=fun e=>gZ (aI e)
 have Gk:s.heap.objs.size≠i1:=by obtain⟨_,e,_⟩:=Z.a;exact lt e
 have Gj:s.heap.objs.size≠i2:=by obtain⟨_,e,_⟩:=Z.b;exact lt e
 rcases Z.c with⟨hz,a,b,pH⟩ | ⟨T,oT,bb,hz,hT,t1,t2,t3⟩
 .have hT:s.TypeIs (.ref z) "zip":=⟨_,hz,rfl⟩
  unfold cC
  refine ad (mv (iy (name:=aM "__next__") hT rm (fF rm hT Er ?_ (Et _))))
  exact jai D hz Z.ti pH Z.a Z.b aT aQ hx hy fun h' a1 a2 a3 a4 a5 k=>al (hQ h' ⟨k _ _ D.TIz D.TITO D.TIi1 D.TIi2 Z.ti,a2,a3,.inr ⟨_,_,false,a1,a4,lt hz,Gk,Gj⟩⟩ a4 k)
 .have pI:s.TypeIs (.ref z) "zip":=⟨_,hz,rfl⟩
  unfold cC
  refine ad (mv (iy (name:=aM "__next__") pI rm (fF rm pI Er ?_ (Et _))))
  exact jah D.i1z D.i2z D.i12 D.l1z D.l2z D.l2i1 t1 D.TIz hz hT Z.ti Z.a Z.b aT aQ hx hy fun h' a1 a2 a3 a4 a5 k=>al (hQ h' ⟨k _ _ D.TIz D.TIi1 D.TIi2 Z.ti,a2,a3,.inr ⟨T,oT,true,a1,k _ _ t1 t2 t3 hT,t1,t2,t3⟩⟩ a4 fun c o c1 _ c3 c4 e=>k c o c1 c3 c4 e)
theorem jcN{z TI TO i1 i2 l1 l2:aa}{i:Nat}{xs:Array ac}(hh:A.handled=none)(D:tP z TI TO i1 i2 l1 l2)(Z:ZipSt s.heap z TI TO i1 i2 l1 l2 i)(aT:s.heap.IsTuple l1 xs)(hx:xs[i]?=none)
  (hQ:∀h',(∀c o,c≠z->c≠i1->s.heap.get? c=some o->h'.get? c=some o)->Q none { s with heap:=h' }):af (aj prog w) A (cC (.ref z)) Q E s:=by
 have pI:s.TypeIs (.ref z) "zip":=by
  rcases Z.c with⟨hz,_⟩ | ⟨T,oT,bb,hz,_⟩
  .exact⟨_,hz,rfl⟩
  .exact⟨_,hz,rfl⟩
 unfold cC
 refine ad (mv (iy (name:=aM "__next__") pI rm (fF rm pI Er ?_ (Et _))))
 rcases Z.c with⟨hz,_⟩ | ⟨T,oT,bb,hz,hT,t1,t2,t3⟩
 .refine KZ hh D.i1z D.l1z hz Z.ti Z.a aT hx fun h' e k he=>?_
  obtain⟨o,ho,hc⟩:=he
  refine ad (mt (T:="StopIteration") (b:=true) ⟨o,ho,hc⟩ xc ?_)
  exact al (hQ _ k)
 .refine J8 hh D.i1z D.l1z hz hT Z.ti Z.a aT hx fun h' e k he=>?_
  obtain⟨o,ho,hc⟩:=he
  refine ad (mt (T:="StopIteration") (b:=true) ⟨o,ho,hc⟩ xc ?_)
  exact al (hQ _ k)
theorem ZE{T:aa}{x y:ac}{Q:List ac->ae->Prop}(h:cY s.heap T x y)(hq:Q [x,y] s):af (aj prog w) A (OH (.ref T)) Q E s:=by
 unfold OH;refine ad (mq (T:="tuple") ⟨_,h,rfl⟩ ?_);rw[Qg (by decide)];refine ad ?_;unfold ra;refine ad (p7 h ?_);exact al (al hq)
end
end PySem
namespace L2
open PySem PySem.Spec PyProof.Rows PySem.W
def zKV(names:List Str)(vs:List V):List (Key×V):=(names.zip vs).map fun q=>(Sum.inr q.1,q.2)
theorem ZipSt.keepD{h h':aq}{z TI TO i1 i2 l1 l2 d:aa}{i:Nat}(Z:ZipSt h z TI TO i1 i2 l1 l2 i)(sj:TI≠d)(n1:i1≠d)(n2:i2≠d)(nz:z≠d)(si:TO≠d)(hd:∃o,h'.get? d=some o)(k:∀b o,b≠d->h.get? b=some o->h'.get? b=some o):ZipSt h' z TI TO i1 i2 l1 l2 i:=by
 refine⟨k _ _ sj Z.ti,Z.a.at fun o e=>k _ o n1 e,Z.b.at fun o e=>k _ o n2 e,?_⟩;rcases Z.c with⟨hz,a,b,pH⟩ | ⟨T,oT,bb,hz,hT,t1,t2,t3⟩
 .exact .inl ⟨k _ _ nz hz,a,b,k _ _ si pH⟩
 .refine .inr ⟨T,?_⟩
  by_cases e:T=d
  .obtain⟨o,ho⟩:=hd
   exact⟨o,bb,k _ _ nz hz,by rw[e];exact ho,t1,t2,t3⟩
  .exact⟨oT,bb,k _ _ nz hz,k _ _ e hT,t1,t2,t3⟩
section
variable {prog:av}{w:ar}{A:aD}{E:ac->ae->Prop}{R:lb->ae->Prop}
theorem jbI{d z TI TO i1 i2 l1 l2:aa}{xs ys:List ac}{names:List Str}{vs:List V}(hh:A.handled=none)(D:tP z TI TO i1 i2 l1 l2)(sj:TI≠d)(n1:i1≠d)(n2:i2≠d)(nz:z≠d)(si:TO≠d)(m1:l1≠d)(m2:l2≠d)
  (rx:Vals (names.map V.str) xs) (ry:Vals vs ys) (hl:names.length=vs.length) (nd:names.Nodup) (hz:names.length<=aB) :
  ∀(k i:Nat) (s:ae) (aU:List (Key×ac)),i+k=names.length->ZipSt s.heap z TI TO i1 i2 l1 l2 i->s.heap.IsTuple l1 xs.toArray->s.heap.IsList l2 ys.toArray->s.heap.DictOf (km prog w) d aU->KV (zKV (names.take i) (vs.take i)) aU->
   (∀h' tk pX,(∀b o,b≠d->b≠z->b≠TO->b≠i1->b≠i2->s.heap.get? b=some o->h'.get? b=some o)->h'.DictOf (km prog w) d pX->KV (zKV names vs) pX->R (.ok (.ret .none)) { s with heap:=h',toks:=tk })->
   ∀c:Int,dR (aj prog w) A (.builtin "dict.update.loop" ⟨[.ref d,.ref z,bx c,.none],[]⟩) R s:=by
 intro k
 have lx:=rx.length
 have ly:=ry.length
 rw[am]at lx
 induction k with
 | zero=>
  intro i s aU hk Z ht aQ hd dP hR c
  have vz:i=names.length:=by omega
  refine iC yk ?_
  rw[le qq _]
  show af _ A.in1 (cC (.ref z) >>= _) _ _ s
  refine ad (jcN (A:=A.in1) hh D Z ht (by simp;omega) fun h1 lX=>?_)
  show af _ A.in1 (Builtin.Dict.addKeywords d [] >>= _) _ _ _
  refine ad (al (al ?_))
  obtain⟨o,es,ep,ho,x⟩:=hd
  subst vz
  rw[ce,hl,ce]at dP
  exact hR h1 s.toks aU (fun b o _ b2 _ b4 _ e=>lX b o b2 b4 e) ⟨o,es,ep,lX d o (aO nz) (aO n1) ho,x⟩ dP
 | succ k ih=>
  intro i s aU hk Z ht aQ hd dP hR c
  have aG:i < names.length:=by omega
  have uO:(names.map V.str)[i]?=some (.str names[i]):=by rw[bA,aC aG];rfl
  have iR:vs[i]?=some (vs[i]'(by omega+splitNatSub)):=aC (by omega)
  obtain⟨x,ex,FD⟩:=rx.get uO
  obtain⟨y,ey,FC⟩:=ry.get iR
  refine iC yk ?_
  rw[le qq _]
  show af _ A.in1 (cC (.ref z) >>= _) _ _ s
  refine ad (jbH D Z ht aQ (x:=x) (y:=y) (by simpa using ex) (by simpa using ey) fun h1 Z1 gM k1=>?_)
  have cL:h1.IsTuple l1 xs.toArray:=ht.at fun o e=>k1 _ o D.l1z D.l1TO D.l1i1 D.l1i2 e
  have Iy:h1.IsList l2 ys.toArray:=aQ.at fun o e=>k1 _ o D.l2z D.l2TO D.l2i1 D.l2i2 e
  have i5:h1.DictOf (km prog w) d aU:=by
   obtain⟨o,es,ep,ho,x⟩:=hd;exact⟨o,es,ep,k1 d o (aO nz) (aO si) (aO n1) (aO n2) ho,x⟩
  dsimp only
  refine ad (de (ad (wpAny_tryCatch (ZE gM ?_))))
  dsimp only
  have hal:aU.length=i:=by
   have:=xq dP;unfold zKV at this;rw[am,uc,a_,a_]at this;omega
  refine de (MZ (k:=(Sum.inr names[i]:Key)) (Kx (k:=Sum.inr names[i]) FD) i5 (fun h2 cG lO=>?_) (by omega))
  refine al ⟨mx qq _,?_⟩
  have dD:∀b o,b≠d->h1.get? b=some o->h2.get? b=some o:=fun b o hb e=>(lO.2 b hb).trans e
  have fresh:(aU.any fun kv=>decide (kv.1=(Sum.inr names[i]:Key)))=false:=by
   rw[PR];intro kv hm;have h1:kv.1∈aU.map (·.1):=bf.mpr ⟨kv,hm,rfl⟩;rw[jfh dP]at h1;unfold zKV at h1;rw[ln]at h1;obtain⟨q,hq,e⟩:=bf.mp h1;intro zz;have z':kv.1=Sum.inr names[i]:=Qc zz;rw[<- e]at z';have Hn:q.1=names[i]:=ix z';have Ih:names[i]∈names.take i:=by
    rw[<- Hn];exact (xU hq).1
   obtain⟨j,hj,Bw⟩:=di.mp Ih;rw[a_]at hj;rw[rE]at Bw;exact (ll.mp nd) j i (by omega) aG (by omega) Bw
  have bv:stored aU (Sum.inr names[i]) y=aU++[((Sum.inr names[i]:Key),y)]:=by
   unfold stored;rw[fresh,Qf bB]
  rw[bv]at cG
  have nk:KV (zKV (names.take (i+1)) (vs.take (i+1))) (aU++[((Sum.inr names[i]:Key),y)]):=by
   have e1:zKV (names.take (i+1)) (vs.take (i+1))=zKV (names.take i) (vs.take i)++[((Sum.inr names[i]:Key),vs[i]'(by omega+splitNatSub))]:=by
    unfold zKV;rw[cq,aC aG,cq,iR,List.zip_append (by rw[a_,a_];omega),aX];rfl
   rw[e1];exact jfg dP FC
  have vK:∃o,h2.get? d=some o:=by obtain⟨o,es,ep,ho,_⟩:=cG;exact⟨o,ho⟩
  exact ih (i+1) { s with heap:=h2,toks:=_ } _ (by omega) (ZipSt.keepD Z1 sj n1 n2 nz si vK dD) (cL.at fun o e=>dD _ o m1 e) (Iy.at fun o e=>dD _ o m2 e) cG nk (fun h' tk pX i0 iu vq=>hR h' tk pX (fun b o b1 b2 b3 b4 b5 e=>i0 b o b1 b2 b3 b4 b5 (dD b o b1 (k1 b o b2 b3 b4 b5 e))) iu vq) (c+1)
end
def tDZ(K:ai)(t:TA):TE:=fun σ H Q=>t σ H fun vs H1=>∃(a b:aa) (names:List Str) (ys:List V),vs=[.ref a,.ref b]/\SqT K H1 a (names.map V.str)/\H1 b=some (.lst ys)/\names.length=ys.length/\names.Nodup/\names.length<=1000/\
 ∀l:aa,H1 l=none->Q (.ref l) (upd H1 l (.dK (zKV names ys)))
theorem nlt{x y:Nat}(h:x < y\/y < x):x≠y:=by omega
theorem jbG{S a b:Nat}(ha:a < S)(hb:b < S):tP (S+4) (S+2) (S+3) S (S+1) a b:=by
 constructor <;> exact nlt (by omega)
theorem jeg:bS "zip" = some (.type "zip"):=by decide +kernel
theorem jeR{X:Cx}{p pos p2 oG:Pos}{e1 e2:ag}{t:TA}(hc:X.calm=true)(hg:Gl X "dict")(hm:X.mg "dict" = none)(hv:bS "dict" = some (.type "dict"))(vD:Gl X "zip")(Ik:X.mg "zip" = none)(dm:bS "zip" = some (.type "zip"))(ha:PA X [e1,e2] t)(gM:qa e1=true:=by rfl)(ii:qa e2=true:=by rfl):
  PE X (.Call (.Name "dict" p) [.Call (.Name "zip" p2) [e1,e2] [] oG] [] pos) (tDZ X.K t):=by
 intro ab s σ H Q I h
 refine p9 (yh I hg hm hv ?_)
 refine rA ?_ rfl rfl
 show af _ _ (spliced [(false,eval (.Call (.Name "zip" p2) [e1,e2] [] oG) X.env)]) _ _ s
 refine xC ?_
 refine p9 (yh I vD Ik dm ?_)
 refine rA (thn (ha oG ab s σ H _ I h) fun us s1 z=>?_) (zb gM _ _) (Jq _ _ [e2] (by simp[ii]))
 obtain⟨vs,H1,I1,r1,a,b,names,ys,rfl,lN,hb,hl,nd,hz,q⟩:=z
 clear I h
 obtain⟨u1,u2,rfl,FG,FF⟩:=ja5 r1
 cases FG
 cases FF
 obtain⟨xs,rx,uW,_⟩:=I1.tuple lN
 obtain⟨hzy,its,n,ry,ho⟩:=I1.hok b _ hb
 have Bm:s1.heap.IsList b its.toArray:=⟨_,ho,rfl,n,rfl⟩
 refine jcu uW Bm fun h' zz zp zo Fc Fb zs zk=>?_
 refine Ey ?_
 have BY:(h'.objs.size == gT)=false:=by
  have:=I1.big;exact Qh.mpr (by rw[zs];exact gZ (cm this (xR _ _)))
 refine callType_codes (Q₁:=fun obj s₁=>obj=.ref h'.objs.size/\s₁={ s1 with heap:=h'.push { cls:=.type "dict",data:=.dict #[] } }) PySem.F.kt_called_dict (PySem.F.kt_typeCall_dict_1 _) PySem.F.entry_dict_init (PySem.kt_code_dict_new _ ⟨rfl,rfl⟩) ?_
 rintro obj s₁ ⟨rfl,rfl⟩
 have pc:(h'.push { cls:=.type "dict",data:=.dict #[] }).DictOf (km X.prog X.w) h'.objs.size []:=Oi h'
 have gM:∀b o,h'.get? b=some o->(h'.push { cls:=.type "dict",data:=.dict #[] }).get? b=some o:=fun b o e=>aF _ e
 refine⟨pc.typeIs,PySem.F.args_dict_init_2 _ _,?_⟩
 unfold Builtin.«dict.__init__»
 refine ad ?_
 unfold Builtin.Dict.selfAndRest
 refine ad (wpAny_notOrdered_dict pc.typeIs ?_)
 show af _ _ (pure (h'.objs.size,[Value.ref (s1.heap.objs.size+4)])) _ _ _
 refine al ?_
 show af _ _ (OG "dict.__init__" h'.objs.size (.ref (s1.heap.objs.size+4)) [] .none) _ _ _
 unfold OG
 have iX:=gM _ _ zz
 refine ad (mq (T:="zip") ⟨_,iX,rfl⟩ ?_)
 rw[Qg (by decide)]
 refine ad (PySem.nokeysZ (show X.A.in1.in1.handled=none from I1.ok.hd hc) iX fun h2 t2 k2=>?_)
 rw[Qg (show (none:Option ac).isNone=true from rfl)]
 have hU:∀c o,h'.get? c=some o->h2.get? c=some o:=fun c o e=>k2 c o (gM c o e)
 refine ad (gq (ad (wpAny_pyIter_zip (show IsZip h2 _ _ _ .none from hU _ _ zz) ?_)))
 refine al ⟨mx qq _,?_⟩
 have cG:h2.DictOf (km X.prog X.w) h'.objs.size []:=by
  obtain⟨o,es,ep,ho,x⟩:=pc;exact⟨o,es,ep,k2 _ _ ho,x⟩
 have AL:a < s1.heap.objs.size:=by obtain⟨o,e,_⟩:=uW;exact aI e
 have AK:b < s1.heap.objs.size:=aI ho
 generalize hS:s1.heap.objs.size=S at *
 have D:=jbG AL AK
 rw[zs]at cG BY |-
 refine jbI (A:=X.A.in1) (xs:=xs) (ys:=its) (names:=names) (vs:=ys) (show X.A.in1.handled=none from I1.ok.hd hc) D (nlt (by omega)) (nlt (by omega)) (nlt (by omega)) (nlt (by omega)) (nlt (by omega)) (aN (cm AL (xR _ _))) (aN (cm AK (xR _ _))) rx ry hl nd (cQ (jw hz)) names.length 0 _ [] (by omega) ⟨hU _ _ zp,Fc.at fun o e=>hU _ o e,Fb.at fun o e=>hU _ o e,.inl ⟨hU _ _ zz,_,_,hU _ _ zo⟩⟩ (El.at uW fun o e=>hU _ o (zk _ o e)) (Bm.at fun o e=>hU _ o (zk _ o e)) cG .nil ?_ 0
 intro h3 tk pX hk iu vq
 refine⟨rfl,.ref (S+5),_,I1.laid (t':=tk) (fun c o e=>?_) (by omega) (Zc (kvs:=zKV names ys) ?_ BY vq iu),rfl,q _ (I1.hok.fresh (by omega))⟩
 .have lc:=aI e
  rw[hS]at lc
  have g:∀k,c≠S+k:=fun k=>aN (cm lc (xR _ _))
  exact hk c o (g 5) (g 4) (g 3) (g 0) (g 1) (hU _ _ (zk _ _ e))
 .unfold zKV
  rw[am,uc,<- hl,Pf]
  exact cQ (jw hz)
structure MkFn(P:av)(w:ar)(K:ai)(mg:Str->Option ac)(base:aq)(k:Nat)(x:Str)(C:aa)(ps:List Str)(sp:Sp):Prop where
 ex:∃f fd,Mk K C f/\FnOk P w K mg base CX0 k f fd ps sp/\Binds K fd ps []/\mg x=some (.ref C)
theorem jg8{X:Cx}{k k':Nat}{x:Str}{C:aa}{ps:List Str}{sp:Sp}{e:ag}{es:List ag}{t:TA}{p pos:Pos}(F:MkFn X.prog X.w X.K X.mg X.base k x C ps sp)(hr:Room k' X.A)(ha:PA X (e :: es) t)(hk:k+1<=k':=by decide)(hg:Gl X x:=by rfl)
  (hd:(x == ("__debug__" : Str))=false:=by decide) (hp:(e :: es).all qa=true:=by rfl):PE X (.Call (.Name x p) (e :: es) [] pos) (jcZ C sp [] E0 t):=by
 obtain⟨f,fd,M,G,b,m⟩:=F.ex
 rw[uh,gB]at hp
 exact jeO M G (hr.mono hk) hg m b .nil jfK ha hd (zb hp.1 es X.env) (Jq pos X.env es hp.2)
theorem KC{env:Env}(kx vx gens scope pos):eval (.DictComp kx vx gens scope pos) env=comprehension (.DictComp kx vx gens scope pos) scope env (xf gens pos) newDict (firstAsync gens) (firstIter gens env):=rfl
theorem K6{prog:av}{w:ar}{A:aD}{s:ae}{kx vx target iter:ag}{ifs:List ag}{scope:b_}{pos:Pos}{it:ac}{D:aa}{env:Env}{R:lb->ae->Prop}(I:Nat->ae->Prop)
  (eL:∀n s,I n s->af (aj prog w) A (cC it) (fun r s1=>match r with
   | none=>R (.ok .next) s1
   | some v=>af (aj prog w) A (tM target it v) (fun _ oy=>af (aj prog w) A (assign target env v) (fun _ s2=>
     af (aj prog w) A (forIn ifs true fun c r=>if r=true then do let ok <- isTrue c env (eval c env);pure (ForInStep.yield ok) else pure (ForInStep.yield r)) (fun ok s3=>
      if ok=true then af (aj prog w) A (eval kx env) (fun kv s4=>af (aj prog w) A (eval vx env) (fun vv s5=>
       af (aj prog w) A (dictSet D kv vv) (fun _ s6=>∃m,m < n/\I m s6) (fun _ _=>False) s5) (fun _ _=>False) s4) (fun _ _=>False) s3
      else ∃m,m < n/\I m s3) (fun _ _=>False) s2) (fun _ _=>False) oy) (fun _ _=>False) s1) (fun _ _=>False) s)
  (n:Nat) (h:I n s):dR (aj prog w) A (.compLoop (.DictComp kx vx [⟨target,iter,ifs,0⟩] scope pos) 0 it (.ref D) env) R s:=by
 have no:∀(x:ac) (s':ae),False->notedBy (aj prog w) A env (fun e s'=>R (.error e) s') x s':=fun _ _ z=>z.elim
 refine codeAny_loop rfl I (fun n s hI=>?_) n h
 show af _ A ((compTurn (.DictComp kx vx [⟨target,iter,ifs,0⟩] scope pos) 0 it (.ref D) env).onRaise (fun x=>do noteFrame x env;theTreesLotGoes x)) _ _ s
 refine wpAny_noted ?_
 rw[compTurn_dict]
 refine ad (tI (ad (cB (eL n s hI) (fun r s1 h1=>?_) no)))
 cases r with
 | none=>exact al h1
 | some v=>
  refine ad (cB h1 (fun _ oy cz=>?_) no)
  refine ad (cB cz (fun _ s2 h2=>ad (cB h2 (fun ok s3 h3=>?_) no)) no)
  cases ok with
  | false=>exact al ⟨rfl,h3⟩
  | true=>
   exact ad (ad (cB h3 (fun kv s4 h4=>ad (de (cB h4 (fun vv s5 h5=>ad (tI (de (cB h5 (fun _ s6 h6=>al ⟨rfl,h6⟩) no)))) no))) no))
def jbB(J:It)(p:aa)(g:TG)(tt:TT)(tk tv:TE)(Q:VK)(σ:St)(H:Hp):Prop:=∃W:Nat->Nat->St->Hp->Prop,(∃m,W 0 m σ H)/\
 ∀i m σ' H',W i m σ' H'->(J.stop i H'/\Q (.ref p) H')\/(J.go i H'/\∃N:St->Hp->Prop,(∀σ3 H3,N σ3 H3->∃m',m' < m/\W (i+1) m' σ3 H3)/\∀x H2,J.yld i H' x H2->g x σ' H2 fun σ3 H3=>tt σ3 H3 fun c H4=>
  if c=true then tk σ3 H4 fun ky H5=>tv σ3 H5 fun y H6=>∃kvs k,ky=kV k/\H6 p=some (.dK kvs)/\kvs.length < aB/\N σ3 (upd H6 p (.dK (kW kvs k y))) else N σ3 H4)
def jao(own:List Str)(fr:List Nat)(wi:TI)(g:TG)(tt:TT)(tk tv:TE):TE:=fun σ H Q=>wi σ H fun J H1=>∀p,H1 p=none->jbB J p g tt tk tv Q (jcy own fr σ) (upd H1 p (.dK []))
theorem jco{X:Cx}{scope:b_}{own:List Str}{fr:List Nat}{kx vx tg iter:ag}{ifs:List ag}{pos:Pos}{wi:TI}{g:TG}{tt:TT}{tk tv:TE}{use:Option (ac->Sem Unit)}(hc:X.calm=true)(O:CompOk X scope fr)(hi:PI X tg iter wi)
  (hb:∀s H ex,PG (blk X scope own fr s H ex) tg g/\PTs (blk X scope own fr s H ex) ifs tt/\PE (blk X scope own fr s H ex) kx tk/\PE (blk X scope own fr s H ex) vx tv)
  (hs:∀x,gV iter X.env x=pure x) {ab:List (aa×Obj)} {s:ae} {σ:St} {H:Hp} {Q:VK} {R:ac->ae->Prop} (I:Inv X ab σ H s) (h:jao own fr wi g tt tk tv σ H Q) (hx:∀e s',X.xe e s'↔False)
  (fin:∀(p C:aa) (H':Hp) (s':ae) (m:Str->Option ac),s'.heap.Ns C m->H' C=none->C≠X.env.locals->(∀x c,X.env.cells.lookup x=some c->c≠C)->Inv X ab σ H' s'->(∀h',df C s'.heap h'->Inv X ab σ H' { s' with heap:=h' })->Q (.ref p) H'->
   rg (aj X.prog X.w) X.A X.xe use R (.ref p) C (.ok .next) s') :
  af (aj X.prog X.w) X.A (comprehension (.DictComp kx vx [⟨tg,iter,ifs,0⟩] scope pos) scope X.env (xf [⟨tg,iter,ifs,0⟩] pos) newDict false (eval iter X.env) use) R X.xe s:=by
 have da:∀x∈scope.names,x.2=.free->(X.env.cells.lookup x.1).isSome=true:=fun x cg e=>by
  obtain⟨c,hc⟩:=I.ok.has x.1 (O.frees x cg e);rw[hc];rfl
 have no:∀(E:ac->ae->Prop) (x:ac) (s':ae),X.xe x s'->E x s':=fun E x s' z=>((hx x s').mp z).elim
 refine DG (cl:=zW X.env.cells scope.names []) rfl hs (yT da) O.kind O.loc ?_
 refine thn (hi ab s σ H _ I h) fun v s1 h1=>thn h1 fun oP s2 h2=>?_
 obtain⟨it,fp,tn,J,H2,e,I2,T,eX,f2,q2⟩:=h2
 subst e
 unfold newDict
 refine dG ?_
 have nw:H2 s2.heap.objs.size=none:=I2.fresh
 obtain⟨W,⟨m0,w0⟩,eL⟩:=q2 _ nw
 generalize hp:s2.heap.objs.size=p at *
 have I3:Inv X ab σ (upd H2 p (.dK [])) { s2 with heap:=s2.heap.push { cls:=.type "dict",data:=.dict #[] } }:=by
  have:=I2.laid (a:=s2.heap.objs.size) (o:=.dK []) (t':=s2.toks) (fun _ _ q=>aF { cls:=.type "dict",data:=.dict #[] } q) (ay _) (KI s2.heap I2.big);rw[hp]at this;exact this
 have iQ:∀b∈fp,b < s2.heap.objs.size:=fun b hb=>by
  obtain⟨o,ho,_⟩:=T.obj _ _ eX b hb;exact aI ho
 have i7:∀b∈fp,(upd H2 p (.dK [])) b=none:=fun b hb=>by
  rw[jl (by rw[<- hp];exact aN (iQ b hb))];exact (f2 b hb).1
 generalize hs3:({ s2 with heap:=s2.heap.push { cls:=.type "dict",data:=.dict #[] } }:ae)=s3 at *
 have oo:s3.heap.objs.size=p+1:=by
  rw[<- hs3];show (s2.heap.push _).objs.size=_;rw[dU,hp]
 have st3:tn 0 s3.heap:=T.keep 0 _ _ eX fun b hb o e=>by
  rw[<- hs3];exact aF _ e
 refine DB O.nocell (by intro y hy;simp at hy) (fun h4 iY o0=>?_) O.kind
 have k4:∀b o,s3.heap.get? b=some o->h4.get? b=some o:=fun b o e=>o0.extBut b o (aN (aI e)) (aF _ e)
 have pb:h4.Ns s3.heap.objs.size fun _=>none:=by
  have z:(fun x:Str=>([]:List (Str×ac)).reverse.lookup x)=fun _=>none:=by funext x;rfl
  rw[z]at iY;exact iY
 have fo:∀b∈fp,Jm X ab (upd H2 p (.dK [])) b/\b < s3.heap.objs.size:=fun b hb=>⟨⟨i7 b hb,(f2 b hb).2⟩,by rw[oo,<- hp];exact t8 (iQ b hb)⟩
 have I4:=Y6 (own:=own) (fr:=fr) (t1:=s3.toks+([]:List (Str×ac)).length) I3 O fo pb k4
 have dA:tn 0 h4:=T.keep 0 _ _ st3 fun b hb o e=>k4 b o e
 obtain⟨hg,ht,i0,fc⟩:=hb s3 (upd H2 p (.dK [])) fp
 have cF:∀{H':Hp} {pn:List (aa×Obj)} {s':ae} {σ':St},Inv (blk X scope own fr s3 (upd H2 p (.dK [])) fp) [] σ' H' s'->(∀b∈fp,H' b=none)->∀b∈fp,Jm (blk X scope own fr s3 (upd H2 p (.dK [])) fp) [] H' b:=fun {H' pn s' σ'} J hn b aW=>
  ⟨hn b aW,(J.ok.exf b aW).1,J.ok.exfs b aW,.inl aW,(J.ok.exf b aW).2,fun p hp=>absurd hp (by simp[blk])⟩
 have oJ:∀x c,X.env.cells.lookup x=some c->c≠s3.heap.objs.size:=fun x c e=>by
  obtain⟨v,q⟩:=I3.cell x c e;exact aN q.lt
 have loop:∀s5:ae,s5={ s3 with heap:=h4,toks:=s3.toks+([]:List (Str×ac)).length }->
   dR (aj X.prog X.w) X.A (.compLoop (.DictComp kx vx [⟨tg,iter,ifs,0⟩] scope pos) 0 (.ref it) (.ref p) (blk X scope own fr s3 (upd H2 p (.dK [])) fp).env) (rg (aj X.prog X.w) X.A X.xe use R (.ref p) s3.heap.objs.size) s5:=by
  rintro s5 rfl
  refine K6 (fun n s'=>∃i σ' H',Inv (blk X scope own fr s3 (upd H2 p (.dK [])) fp) [] σ' H' s'/\tn i s'.heap/\(∀b∈fp,H' b=none)/\W i n σ' H') ?_ m0 ⟨0,_,_,I4,dA,i7,w0⟩
  rintro n s6 ⟨i,σ6,H6,I6,iK,i6,w6⟩
  rcases eL i n σ6 H6 w6 with⟨stop,qn⟩ | ⟨go,N,hN,step⟩
  .refine thn (T.done (blk X scope own fr s3 (upd H2 p (.dK [])) fp) rfl rfl rfl hc i [] s6 σ6 H6 _ I6 (cF (pn:=[]) I6 i6) iK stop) fun r s7 ⟨hr,I7⟩=>?_
   subst hr
   obtain⟨m,hm,_⟩:=I7.loc
   exact fin p _ H6 s7 m hm I7.free (gZ I3.lt) oJ (zF I3 fo I7 (xx ..)) (fun h' eN=>zF I3 fo I7 eN) qn
  .refine thn (T.item (blk X scope own fr s3 (upd H2 p (.dK [])) fp) rfl rfl rfl hc i [] s6 σ6 H6 _ I6 (cF (pn:=[]) I6 i6) iK go) fun r s7 ⟨u,hr,h7⟩=>?_
   subst hr
   refine thn h7 fun _ s8 hM=>?_
   obtain⟨x,H8,I8,r8,y8,fN,pR⟩:=hM
   have pY:=I8.pinned (cF (pn:=[]) I8 pR) (T.obj _ _ fN)
   refine thn (hg _ s8 σ6 H8 x u _ pY r8 (step x H8 y8)) fun _ s9 hM=>?_
   obtain⟨σ9,H9,I9,q9⟩:=hM
   refine thn (ht _ s9 σ9 H9 _ I9 q9) fun ok gH hM=>?_
   obtain⟨pZ,i9,d_⟩:=hM
   have again:∀{cO:Hp} {cI:ae},Inv (blk X scope own fr s3 (upd H2 p (.dK [])) fp) ([]++zL fp s8.heap) σ9 cO cI->(∃m',m' < n/\W (i+1) m' σ9 cO)->
     ∃m,m < n/\∃i σ' H',Inv (blk X scope own fr s3 (upd H2 p (.dK [])) fp) [] σ' H' cI/\tn i cI.heap/\(∀b∈fp,H' b=none)/\W i m σ' H':=fun {cO cI} dy ⟨m',hm,og⟩=>by
    refine⟨m',hm,i+1,σ9,cO,dy.unpinned,T.keep _ _ _ fN fun b aW o e=>(dy.pin (b,o) (cE _ (cE _ (kX aW e)))).1,fun b aW=>?_,og⟩
    obtain⟨o,e,d⟩:=T.obj _ _ fN b aW
    exact (dy.pin (b,o) (cE _ (cE _ (kX aW e)))).2.1
   cases ok with
   | false=>
    rw[Qf bB]at d_ |-
    exact again i9 (hN _ _ d_)
   | true=>
    rw[Qg rfl]at d_ |-
    refine thn (i0 _ gH σ9 pZ _ i9 d_) fun kv cI hM=>?_
    obtain⟨ky,cO,dy,oC,oF⟩:=hM
    refine thn (fc _ cI σ9 cO _ dy oF) fun vv bc hM=>?_
    obtain⟨y,nG,nF,FH,kvs,k,ek,dP,bd,oE⟩:=hM
    subst ek
    obtain⟨z,hd,vs,cx,dd⟩:=jea nF.hok dP
    have hl:(kW kvs k y).length<=aB:=by have:=zl kvs k y;omega
    refine MZ (Kx oC) dd (fun h' gP eN=>?_) (by rw[<- cx.length];exact z)
    have IX:∃q,h'.get? p=some q:=let ⟨q,_,_,hq,_⟩:=gP;⟨q,hq⟩
    exact again (J3 (t':=bc.toks+1) nF (by rw[dP];exact True.intro) eN IX (Zc hl hd (cx.put k FH) gP)) (hN _ _ oE)
 refine codeAny_compStart_dict (loop _ rfl) (T.self X.A 0 _ _ _ dA (loop _ rfl))
theorem jdt{X:Cx}{scope:b_}{kx vx tg iter:ag}{ifs:List ag}{pos:Pos}{wi:TI}{g:TG}{tt:TT}{tk tv:TE}(own:List Str)(fr:List Nat)(hc:X.calm=true)(O:CompOk X scope fr)(hi:PI X.nox tg iter wi)
  (hb:∀s H ex,PG (blk X.nox scope own fr s H ex) tg g/\PTs (blk X.nox scope own fr s H ex) ifs tt/\PE (blk X.nox scope own fr s H ex) kx tk/\PE (blk X.nox scope own fr s H ex) vx tv)
  (hs:∀x,gV iter X.env x=pure x:=by intro _;rfl):PE X.nox (.DictComp kx vx [⟨tg,iter,ifs,0⟩] scope pos) (jao own fr wi g tt tk tv):=by
 intro ab s σ H Q I h
 rw[KC]
 refine jco (X:=X.nox) (use:=none) (Q:=Q) hc ⟨O.kind,O.nocell,O.loc,O.frees,O.fr⟩ hi hb hs I h (fun _ _=>Iff.rfl) fun p C H' s' m hm hC _ _ I' tz q=>?_
 exact⟨m,hm,fun h' eN=>⟨.ref p,H',tz h' eN,rfl,q⟩⟩
section
variable {p:aa}{g:TG}{tt:TT}{tk tv:TE}{σ:St}{H:Hp}{Q:VK}
theorem Yw{K:ai}{a:aa}{xs:List V}(Pv:Nat->St->Hp->Prop)(h0:Pv 0 σ H)(hl:∀i σ' H',i<=xs.length->Pv i σ' H'->SqT K H' a xs)
  (hs:∀i x σ' H',xs[i]?=some x->Pv i σ' H'->g x σ' H' fun σ3 H3=>tt σ3 H3 fun c H4=>if c=true then tk σ3 H4 fun ky H5=>tv σ3 H5 fun y H6=>∃kvs k,ky=kV k/\H6 p=some (.dK kvs)/\kvs.length < aB/\Pv (i+1) σ3 (upd H6 p (.dK (kW kvs k y))) else Pv (i+1) σ3 H4)
  (hd:∀σ' H',Pv xs.length σ' H'->Q (.ref p) H'):jbB (Itt K a) p g tt tk tv Q σ H:=by
 refine⟨fun i m σ H=>m=xs.length - i/\i<=xs.length/\Pv i σ H,⟨xs.length,by simp,bE _,h0⟩,?_⟩
 rintro i m σ1 H1 ⟨rfl,hi,pv⟩
 have q:=hl i σ1 H1 hi pv
 by_cases aG:i < xs.length
 .refine .inr ⟨⟨xs,xs[i],q,by simp[aG]⟩,Pv (i+1),fun σ3 H3 q=>⟨xs.length - (i+1),by omega,rfl,aG,q⟩,fun x H2 y=>?_⟩
  obtain⟨e1,e2⟩:=y
  subst e1
  exact hs i x σ1 _ (e2 xs q) pv
 .have e:i=xs.length:=by omega
  subst e
  exact .inl ⟨⟨xs,q,ay _⟩,hd σ1 H1 pv⟩
end
end L2
namespace HT
open PySem PySem.Spec PyProof.Rows L2
open PySem.SeqAt
open PySem.AutoSeq1 (wpAny_loadPart')
open PySem.MeetsSeq PySem.MeetsSeq2 PySem.MeetsSeq3
section
variable {prog:av}{w:ar}{A:aD}{E:ac->ae->Prop}{s:ae}
theorem getItem_tuple_whole{t sl:aa}{items:Array ac}{vl vu:ac}{lo hi:Option Int}{Q:ac->ae->Prop}(ht:IsTup s.heap t items)(hs:s.heap.IsSliceOf sl vl vu .none)(pl:iF vl lo)(pu:iF vu hi)
  (hw:sIx items.size 0 lo=0/\sIx items.size items.size hi=items.size) (h:Q (.ref t) s):af (aj prog w) A (iB (.ref t) (.ref sl)) Q E s:=by
 obtain⟨os,lP,lY,pB⟩:=id hs
 have vS:s.TypeIs (.ref sl) "slice":=⟨os,lP,lY⟩
 unfold iB
 try with_reducible refine de ?_
 first | refine ad (al ?_) | skip
 refine ad (MQ ht.typeIs (by decide) ?_)
 refine ad (iy (name:=aM "__getitem__") ht.typeIs rq
  (fF rq ht.typeIs OX ?_ (O3 _ _)))
 show af _ _ (OB (.ref t) >>= _) _ _ s
 refine ad (tupleItemsOf_ ht ?_)
 refine ad (mq vS ?_)
 rw[Qg (by decide)]
 refine ad (zu hs pl pu ?_)
 have GB:(((sIx items.size 0 lo:Nat):Int) == 0 && (1:Int) == 1 && (sIx items.size items.size hi - sIx items.size 0 lo) == items.size)=true:=by
  rw[hw.1,hw.2];simp
 show af _ _ (if (((sIx items.size 0 lo:Nat):Int) == 0 && (1:Int) == 1 && (sIx items.size items.size hi - sIx items.size 0 lo) == items.size)=true then _ else _) _ _ s
 rw[Qg GB]
 refine ad ?_
 unfold Builtin.Tuple.tupleIsExact
 first
  | refine ad (mq ht.typeIs (al ?_))
  | trace_state
 rw[Qg (by decide)]
 refine ad (gq ?_)
 exact al ⟨_,rfl,al h⟩
end
end HT
namespace L2
open PySem PySem.Spec PyProof.Rows
def jg1(K:ai):V->Option Int->Option Int->Hp->VK->Prop:=fun x lo hi H Q=>∃a xs,x=.ref a/\SqT K H a xs/\
 ((HT.sIx xs.length 0 lo=0/\HT.sIx xs.length xs.length hi=xs.length)->Q (.ref a) H)/\(¬(HT.sIx xs.length 0 lo=0/\HT.sIx xs.length xs.length hi=xs.length)->∀p,H p=none->Q (.ref p) (upd H p (.tup (kN xs lo hi))))
variable {X:Cx}
theorem jey:SlR X (jg1 X.K):=by
 intro ab s σ H x v vl vu lo hi sl Q I rx hs pl pu h;obtain⟨a,xs,rfl,hx,q1,q2⟩:=h;by_cases hw:HT.sIx xs.length 0 lo=0/\HT.sIx xs.length xs.length hi=xs.length
 .cases rx
  obtain⟨its,r,ht,hz⟩:=I.tuple hx;have bd:its.toArray.size=xs.length:=by rw[bP];exact r.length.symm
  refine⟨"tuple",_,rq.lookup,ht.typeIs,?_⟩;exact HT.getItem_tuple_whole ht hs pl pu (by rw[bd];exact hw) ⟨.ref a,H,I,rfl,q1 hw⟩
 .exact zn ab s σ H (.ref a) v vl vu lo hi sl Q I rx hs pl pu ⟨a,xs,rfl,hx,hw,q2 hw⟩
theorem jaV{xs:List V}{lo hi:Option Int}(h:HT.sIx xs.length 0 lo=0/\HT.sIx xs.length xs.length hi=xs.length):kN xs lo hi=xs:=by
 unfold kN;rw[h.1,h.2,E5,xN,ce]
def jg0(K:ai):V->Option Int->Option Int->Hp->VK->Prop:=fun x lo hi H Q=>∃a xs,x=.ref a/\SqT K H a xs/\∀p H',Same H H'->SqT K H' p (kN xs lo hi)->Q (.ref p) H'
theorem jba:SlR X (jg0 X.K):=by
 intro ab s σ H x v vl vu lo hi sl Q I rx hs pl pu h;obtain⟨a,xs,e,hx,q⟩:=h;refine jey ab s σ H x v vl vu lo hi sl Q I rx hs pl pu ⟨a,xs,e,hx,fun hw=>q a H (Same.refl _) (by rw[jaV hw];exact hx),fun _ p hp=>q p _ (fun b u z=>by rw[jl (jo z hp)];exact z) (SqT.of ja)⟩
variable {X:Cx}{X:Cx}{pos:Pos}
def jfz(i j l:Nat)(ta:TA):TS:=fun D σ H=>ta σ H fun vs H1=>∃v w u,vs=[v,w,u]/\D.nx (((σ.set i (some v)).set j (some w)).set l (some u)) H1
theorem jeK{i j l:Nat}{x y z:Str}{a b c:ag}{ta:TA}{px py pz pt:Pos}{kt k2 lG}(hc:X.calm=true)(hN:X.N.Nodup)(hi:X.N[i]?=some x)(hj:X.N[j]?=some y)(hl:X.N[l]?=some z)(i4:i≠j)(cV:i≠l)(Bv:j≠l)
  (hx:Loc X.env.scope x) (hy:Loc X.env.scope y) (hz:Loc X.env.scope z) (ha:PA X [a,b,c] ta)
  (hw:w8 [.Tuple [.Name x px,.Name y py,.Name z pz] kt pt] (.Tuple [a,b,c] k2 lG) X.env=pure (some [x,y,z]))
  (fx:X.fn x=true\/X.env.scope.names.lookup x=some .local) (fy:X.fn y=true\/X.env.scope.names.lookup y=some .local) (fz:X.fn z=true\/X.env.scope.names.lookup z=some .local)
  (hs:wZ [.Tuple [.Name x px,.Name y py,.Name z pz] kt pt] (.Tuple [a,b,c] k2 lG) pos.line X.env=pure false:=by rfl) :
  PS X (.Assign [.Tuple [.Name x px,.Name y py,.Name z pz] kt pt] (.Tuple [a,b,c] k2 lG) pos) (jfz i j l ta):=by
 intro ab s σ H D I h
 rw[exec_Assign_arm]
 refine ad (tI ?_)
 rw[hs]
 refine ad (al ?_)
 rw[Qf (by decide)]
 refine ad (Tuple_ (thn (ha _ ab s σ H _ I h) fun us s1 hM=>?_))
 obtain⟨vs,H1,I1,r1,q1⟩:=hM
 obtain⟨v,w,u,e1,q1⟩:=q1
 subst e1
 obtain⟨u1,u2,u3,rfl,rv,dL,ru⟩:∃u1 u2 u3,us=[u1,u2,u3]/\RelV v u1/\RelV w u2/\RelV u u3:=by
  cases r1 with
  | cons p q=>
   cases q with
   | cons p' q'=>
    cases q' with
    | cons p2 q2=>
     cases q2
     exact⟨_,_,_,rfl,p,p',p2⟩
 refine dG ?_ (by show 3<=aB;decide)
 have I2:Inv X ab σ H1 { s1 with heap:=s1.heap.push { cls:=.type "tuple",data:=.seq [u1,u2,u3].toArray } }:=I1.kept (t':=s1.toks) fun b o e=>aF _ e
 rw[hw]
 refine ad (al ?_)
 show af (aj X.prog X.w) X.A (do rule "assign.swapped-stores";let items <- unpackItems (.ref s1.heap.objs.size) 3 none;D5 [fun v=>ri X.env z v,fun v=>ri X.env y v,fun v=>ri X.env x v] items.reverse;pure Flow.next) _ _ _
 refine ad (gq (ad (unpackItems_tuple (items:=#[u1,u2,u3]) (I.ok.hd hc) (xL s1.heap _) fun h' cg=>?_)))
 have I3:=I2.kept (h':=h') (t':=s1.toks) fun b o e=>cg b o (aN (aI e)) e
 show af _ _ (D5 [fun v=>ri X.env z v,fun v=>ri X.env y v,fun v=>ri X.env x v] [u3,u2,u1] >>= fun _=>pure Flow.next) _ _ _
 refine ad (xK (DI (zY I3 hN hl hz ru (fun s2 I4=>?_) fz)))
 refine xK (DI (zY I4 hN hj hy dL (fun s3 I5=>?_) fy))
 refine xK (DI (zY I5 hN hi hx rv (fun s4 I6=>O2 (al ?_)) fx))
 have e:((σ.set l (some u)).set j (some w)).set i (some v)=((σ.set i (some v)).set j (some w)).set l (some u):=by
  rw[ET _ _ (aO Bv),ET _ _ (aO cV),ET _ _ (aO i4)]
 rw[e]at I6
 exact⟨_,H1,I6,q1⟩
theorem ZB(kvs:List (Key×V))(k:Key)(v:V):(kW kvs k v).length<=kvs.length+1:=by
 unfold kW;split
 .rw[am];omega
 .rw[aP];simp
theorem jeQ{X:Cx}{K:ai}{e:ag}{f:Str}{pos:Pos}{ta:TE}(h:PE X e ta)(hb:iD e f X.env (eval e X.env)=eval e X.env)(hK:X.K=K:=by rfl):PE X (.Attribute e f pos) (jev K ta f):=by subst hK;exact jdr h hb
structure QT(X:Cx)(e:ag)(t:TT):Prop where
 h:PT X e t
structure QW(X:Cx)(e:ag)(t:TT):Prop where
 h:PW X e t
structure QG(X:Cx)(e:ag)(t:TG):Prop where
 h:PG X e t
structure QGs(X:Cx)(e:List ag)(t:TGs):Prop where
 h:PGs X e t
structure QI(X:Cx)(tg e:ag)(t:TI):Prop where
 h:PI X tg e t
structure QO(X:Cx)(e:Option ag)(t:TO):Prop where
 h:PO X e t
structure QTs(X:Cx)(e:List ag)(t:TT):Prop where
 h:PTs X e t
structure QPs(X:Cx)(pos:Pos)(ks:List (Option ag))(vs:List ag)(t:List (TE×TE)):Prop where
 h:PPs X pos ks vs t
variable {e:ag}
theorem QW.pt{X:Cx}{t:TT}(h:QW X e t):QT X e t:=⟨h.h.pt⟩
theorem yp{X:Cx}{t:TE}(h:QE X e t)(he:∀lD,isTrue e X.env lD=(do let v <- lD;standAt e.pos;holding [v] (truthy v)):=by intro _;rfl):QT X e (tB t):=⟨jdk h.h he⟩
variable {x:Str}
theorem zpv{X:Cx}(i:Nat){pos:Pos}(h1:(Cx.N X)[i]?=some x:=by rfl)(h2:Vis (fH (Cx.env X)) x:=by first | exact Or.inl rfl | exact Or.inr (Or.inl rfl) | exact Or.inr (Or.inr rfl))(h3:(x == aM "__debug__")=false:=by decide)(h4:(x == aM "__classdict__")=false:=by decide):QE X (Expr.Name x pos) (jfU i):=
 ⟨@pv _ i _ _ h1 h2 h3 h4⟩
variable {j:Nat}
theorem jf{X:Cx}{i:Int}{pos:Pos}:QE X (Expr.Constant (Const.int i) j pos) (tC (V.int i)):=
 ⟨@je _ _ _ _⟩
theorem jJ{X:Cx}{pos:Pos}:QE X (Expr.Constant (Const.str x) j pos) (tC (V.str x)):=
 ⟨@kc _ _ _ _⟩
theorem kD{X:Cx}{pos:Pos}:QE X (Expr.Constant Const.none j pos) (tC V.non):=
 ⟨@jgd _ _ _⟩
theorem jcK{X:Cx}{v:V}{u:ac}{pos:Pos}(h1:Gl X x)(h2:Cx.mg X x=none)(h3:bS x=some u)(h4:RelV v u)(h5:x≠aM "__name__":=by decide)(h6:(x == aM "__debug__")=false:=by decide):QE X (Expr.Name x pos) (tC v):=
 ⟨@jeV _ _ _ _ _ h1 h2 h3 h4 h5 h6⟩
variable {a b:ag}{ta tb:TE}{r:R2}
theorem jK{X:Cx}{pos:Pos}{op:Operator}(h1:OpR X (eD op) r)(h2:QE X a ta)(h3:QE X b tb):QE X (ag.BinOp a op b pos) (tOp r ta tb):=
 ⟨@jr _ _ _ _ _ _ _ _ h1 h2.h h3.h⟩
theorem J5{X:Cx}{pos:Pos}{op:UnaryOp}{r:V->Hp->VK->Prop}(h1:UnR X (unaryOp op) r)(h2:QE X a ta):QE X (Expr.UnaryOp op a pos) (tUn r ta):=
 ⟨@jg7 _ _ _ _ _ _ h1 h2.h⟩
theorem J6{X:Cx}{pos:Pos}{op:CmpOp}(h1:OpR X (cX op) r)(h2:QE X a ta)(h3:QE X b tb)(h4:j_ op b=false):QE X (Expr.Compare a [op] [b] pos) (tOp r ta tb):=
 ⟨@k0 _ _ _ _ _ _ _ _ h1 h2.h h3.h h4⟩
theorem jer{X:Cx}{pos:Pos}{op:BoolOp}{t:TE}(h1:QE X a t):QE X (Expr.BoolOp op [a] pos) t:=
 ⟨@jgc _ _ _ _ _ h1.h⟩
theorem ja4{X:Cx}{pos:Pos}{kh:List ag}(h1:QE X a ta)(h2:QE X (Expr.BoolOp BoolOp.And (b :: kh) pos) tb):QE X (Expr.BoolOp BoolOp.And (a :: b :: kh) pos) (jfF ta tb):=
 ⟨@jgf _ _ _ _ _ _ _ h1.h h2.h⟩
variable {te:TE}
theorem qz{X:Cx}{lo hi:Option ag}{tl th:TO}{pos p2:Pos}{r:V->Option Int->Option Int->Hp->VK->Prop}(h1:SlR X r)(h2:QE X e te)(h3:QO X lo tl)(h4:QO X hi th):QE X (Expr.Subscript e (ag.Slice lo hi none p2) pos) (tSl r te tl th):=
 ⟨@qt _ _ _ _ _ _ _ _ _ _ h1 h2.h h3.h h4.h⟩
variable {o:ag}{td ty:TE}
theorem qk{X:Cx}{i:ag}{pos:Pos}(h1:EC (Cx.A X)+1 < cLine)(h2:QE X o td)(h3:QE X i ty)(h4:jgO i):QE X (Expr.Subscript o i pos) (jfE td ty):=
 ⟨@jeT _ _ _ _ _ _ h1 h2.h h3.h h4⟩
theorem jC{X:Cx}{pos:Pos}(h1:IxR X r)(h2:QE X a ta)(h3:QE X b tb)(h4:jbA b):QE X (Expr.Subscript a b pos) (tOp r ta tb):=
 ⟨@jx _ _ _ _ _ _ _ h1 h2.h h3.h h4⟩
variable {es:List ag}
theorem qj{X:Cx}{t:TA}{pos:Pos}(h1:QA X es t):QE X (ag.List es pos) (jfX t):=
 ⟨@ko _ _ _ _ h1.h⟩
variable {x1:Nat}
theorem jO{X:Cx}{t:TA}{pos:Pos}(h1:QA X es t):QE X (Expr.Tuple es x1 pos) (jgR t):=
 ⟨@j0 _ _ _ _ _ h1.h⟩
theorem jbE{X:Cx}{pos:Pos}:QE X (Expr.Dict [] [] pos) jc0:=
 ⟨@jds _ _⟩
theorem jcI{X:Cx}{pos:Pos}{keys:List (Option ag)}{hJ:List ag}{dJ:List (TE×TE)}(h1:QPs X pos keys hJ dJ)(h2:(List.all keys fun x=>O_ x)=true)(h3:lz keys=lz hJ)(h4:keys≠[])(h5:lz keys<=15):QE X (Expr.Dict keys hJ pos) (jfD dJ):=
 ⟨@jeS _ _ _ _ _ h1.h h2 h3 h4 h5⟩
theorem jcE{X:Cx}{pos:Pos}:QPs X pos [] [] []:=
 ⟨@jeM _ _⟩
variable {tv:TE}
theorem K9{X:Cx}{pos:Pos}{k v:ag}{ks:List (Option ag)}{vs:List ag}{tk:TE}{dJ:List (TE×TE)}(h1:QE X k tk)(h2:QE X v tv)(h3:QPs X pos ks vs dJ):QPs X pos (some k :: ks) (v :: vs) ((tk,tv) :: dJ):=
 ⟨@jdn _ _ _ _ _ _ _ _ _ h1.h h2.h h3.h⟩
variable {scope:b_}{tg iter:ag}{ifs:List ag}{g:TG}{tt:TT}
theorem jcJ{X:Cx}{bU:ag}{pos:Pos}{wi:TI}(own:List Str)(fr:List Nat)(h1:Cx.calm X=true)(h2:CompOk X scope fr)(h3:QI (Cx.nox X) tg iter wi)(h4:∀(s:ae) (H:Hp) (ex:List aa),QG (blk (Cx.nox X) scope own fr s H ex) tg g/\QTs (blk (Cx.nox X) scope own fr s H ex) ifs tt/\QE (blk (Cx.nox X) scope own fr s H ex) bU te)(h5:∀(x:ac),gV iter (Cx.env X) x=pure x:=by intro _;rfl):QE (Cx.nox X) (Expr.ListComp bU [{ target:=tg,iter:=iter,ifs:=ifs,is_async:=0 }] scope pos) (Yd own fr wi g tt te):=
 ⟨@qu _ _ _ _ _ _ _ _ _ _ _ own fr h1 h2 h3.h (fun s H ex=>⟨(h4 s H ex).1.h,(h4 s H ex).2.1.h,(h4 s H ex).2.2.h⟩) h5⟩
theorem Yb{X:Cx}{kx vx:ag}{pos:Pos}{wi:TI}{tk:TE}(own:List Str)(fr:List Nat)(h1:Cx.calm X=true)(h2:CompOk X scope fr)(h3:QI (Cx.nox X) tg iter wi)(h4:∀(s:ae) (H:Hp) (ex:List aa),QG (blk (Cx.nox X) scope own fr s H ex) tg g/\QTs (blk (Cx.nox X) scope own fr s H ex) ifs tt/\QE (blk (Cx.nox X) scope own fr s H ex) kx tk/\QE (blk (Cx.nox X) scope own fr s H ex) vx tv)(h5:∀(x:ac),gV iter (Cx.env X) x=pure x:=by intro _;rfl):QE (Cx.nox X) (ag.DictComp kx vx [{ target:=tg,iter:=iter,ifs:=ifs,is_async:=0 }] scope pos) (jao own fr wi g tt tk tv):=
 ⟨@jdt _ _ _ _ _ _ _ _ _ _ _ _ _ own fr h1 h2 h3.h (fun s H ex=>⟨(h4 s H ex).1.h,(h4 s H ex).2.1.h,(h4 s H ex).2.2.1.h,(h4 s H ex).2.2.2.h⟩) h5⟩
variable {f:Str}
theorem jZ{X:Cx}{pos:Pos}(h1:QE X e ta)(h2:iD e f (Cx.env X) (eval e (Cx.env X))=eval e (Cx.env X)):QE X (Expr.Attribute e f pos) (jev (Cx.K X) ta f):=
 ⟨@jdr _ _ _ _ _ h1.h h2⟩
variable {ps:List Str}{sp:Sp}{p:Pos}
theorem jcG{X:Cx}{k k':Nat}{C:aa}{t:TA}{pos:Pos}(h1:MkFn (Cx.prog X) (Cx.w X) (Cx.K X) (Cx.mg X) (Cx.base X) k x C ps sp)(h2:Room k' (Cx.A X))(h3:QA X (e :: es) t)(h4:k+1<=k':=by decide)(h5:Gl X x:=by rfl)(h6:(x == aM "__debug__")=false:=by decide)(h7:List.all (e :: es) qa=true:=by rfl):QE X (Expr.Call (Expr.Name x p) (e :: es) [] pos) (jcZ C sp [] E0 t):=
 ⟨@jg8 _ _ _ _ _ _ _ _ _ _ _ _ h1 h2 h3.h h4 h5 h6 h7⟩
theorem jQ{X:Cx}{k k':Nat}{t:TA}{pos:Pos}(h1:Fn (Cx.prog X) (Cx.w X) (Cx.K X) (Cx.mg X) (Cx.base X) k x ps sp)(h2:Room k' (Cx.A X))(h3:QA X (e :: es) t)(h4:k<=k':=by decide)(h5:Gl X x:=by rfl)(h6:(x == aM "__debug__")=false:=by decide)(h7:List.all (e :: es) qa=true:=by rfl):QE X (Expr.Call (Expr.Name x p) (e :: es) [] pos) (jc2 sp [] E0 t):=
 ⟨@jV _ _ _ _ _ _ _ _ _ _ _ h1 h2 h3.h h4 h5 h6 h7⟩
variable {id:String}
theorem yG{X:Cx}{pos:Pos}{t:TA}{r:List V->Hp->VK->Prop}(h1:qd X (Value.builtin id) r)(h2:Gl X x)(h3:Cx.mg X x=none)(h4:bS x=some (Value.builtin id))(h5:QA X (e :: es) t)(h6:List.all (e :: es) qa=true:=by rfl)(h7:x≠aM "__name__":=by decide)(h8:(x == aM "__debug__")=false:=by decide):QE X (Expr.Call (Expr.Name x p) (e :: es) [] pos) (tCB r t):=
 ⟨@qP _ _ _ _ _ _ _ _ _ h1 h2 h3 h4 h5.h h6 h7 h8⟩
variable {T:String}
theorem J7{X:Cx}{pos:Pos}{t:TA}{r:List V->Hp->VK->Prop}(h1:qd X (Value.type T) r)(h2:Gl X x)(h3:Cx.mg X x=none)(h4:bS x=some (Value.type T))(h5:QA X (e :: es) t)(h6:List.all (e :: es) qa=true:=by rfl)(h7:x≠aM "__name__":=by decide)(h8:(x == aM "__debug__")=false:=by decide):QE X (Expr.Call (Expr.Name x p) (e :: es) [] pos) (tCB r t):=
 ⟨@zw _ _ _ _ _ _ _ _ _ h1 h2 h3 h4 h5.h h6 h7 h8⟩
variable {cW bJ:Pos}
theorem jbF{X:Cx}{f:ag}{tx:TE}(h1:EC (Cx.A X)+1 < cLine)(h2:QE X o td)(h3:QE X e ty)(h4:QE X f tx)(h5:M2 X o (aM "get") cW e f bJ):QE X (Expr.Call (Expr.Attribute o (aM "get") cW) [e,f] [] bJ) (jc1 td ty tx):=
 ⟨@qM _ _ _ _ _ _ _ _ _ h1 h2.h h3.h h4.h h5⟩
theorem YE{X:Cx}{to:TE}{t:TA}{name:Str}{r:V->List V->Hp->VK->Prop}(h1:xn T)(h2:Slot T name id)(h3:typeOf (Value.builtin id)=pure (Value.type "method_descriptor"))(h4:MtR X id r)(h5:QE X o to)(h6:QA X (e :: es) t)(h7:iD o name (Cx.env X) (eval o (Cx.env X))=eval o (Cx.env X):=by rfl)(h8:(((List.all (eE bJ (bo (e :: es) (Cx.env X))) fun x=>!Prod.fst x) && List.all (backToKw bJ (DU [] (Cx.env X))) fun x=>O_ (Prod.fst x)) && decide ((lz (e :: es)+lz ([]:List Oe)+if List.isEmpty ([]:List Oe)=true then 0 else 1) < 30))=true:=by rfl)(h9:(Pos.endLine cW == ld bJ)=true:=by rfl)(ma:bo (e :: es) (Cx.env X)=(false,eval e (Cx.env X)) :: bo es (Cx.env X):=by rfl)(we:(List.any (eE bJ (bo es (Cx.env X))) fun x=>Prod.fst x)=false:=by rfl):QE X (Expr.Call (Expr.Attribute o name cW) (e :: es) [] bJ) (tBM (Cx.K X) T r to t):=
 ⟨@ye _ _ _ _ _ _ _ _ _ _ _ _ h1 h2 h3 h4 h5.h h6.h h7 h8 h9 ma we⟩
theorem jes{X:Cx}{to:TE}{name:Str}{r:V->List V->Hp->VK->Prop}(h1:xn T)(h2:Slot T name id)(h3:typeOf (Value.builtin id)=pure (Value.type "method_descriptor"))(h4:MtR X id r)(h5:QE X o to)(h6:iD o name (Cx.env X) (eval o (Cx.env X))=eval o (Cx.env X):=by rfl)(h7:(Pos.endLine cW == ld bJ)=true:=by rfl):QE X (Expr.Call (Expr.Attribute o name cW) [] [] bJ) (jgW (Cx.K X) T r to):=
 ⟨@jge _ _ _ _ _ _ _ _ _ h1 h2 h3 h4 h5.h h6 h7⟩
theorem Zj{X:Cx}{pos p2 oG:Pos}{e1 e2:ag}{t:TA}(h1:Cx.calm X=true)(h2:Gl X (aM "dict"))(h3:Cx.mg X (aM "dict")=none)(h4:bS (aM "dict")=some (Value.type "dict"))(h5:Gl X (aM "zip"))(h6:Cx.mg X (aM "zip")=none)(h7:bS (aM "zip")=some (Value.type "zip"))(h8:QA X [e1,e2] t)(h9:qa e1=true:=by rfl)(ma:qa e2=true:=by rfl):QE X (Expr.Call (Expr.Name (aM "dict") p) [Expr.Call (Expr.Name (aM "zip") p2) [e1,e2] [] oG] [] pos) (tDZ (Cx.K X) t):=
 ⟨@jeR _ _ _ _ _ _ _ _ h1 h2 h3 h4 h5 h6 h7 h8.h h9 ma⟩
variable {tA:TT}
theorem YC{X:Cx}{pos:Pos}(h1:QT X a tA):QT X (Expr.UnaryOp UnaryOp.Not a pos) (jgT tA):=
 ⟨@jdl _ _ _ _ h1.h⟩
theorem jL{X:Cx}{pos:Pos}{op:CmpOp}(h1:OpR X (cX op) r)(h2:QE X a ta)(h3:QE X b tb)(h4:j_ op b=false):QT X (Expr.Compare a [op] [b] pos) (jcX (tOp r ta tb)):=
 ⟨@jW _ _ _ _ _ _ _ _ h1 h2.h h3.h h4⟩
theorem yo{X:Cx}{pos:Pos}{gE:TT}{kh:List ag}(h1:QT X a tA)(h2:QW X (Expr.BoolOp BoolOp.And (b :: kh) pos) gE):QW X (Expr.BoolOp BoolOp.And (a :: b :: kh) pos) (jgX tA gE):=
 ⟨@jdh _ _ _ _ _ _ _ h1.h h2.h⟩
theorem zt{X:Cx}{pos:Pos}(h1:QT X a tA):QW X (Expr.BoolOp BoolOp.And [a] pos) tA:=
 ⟨@jbf _ _ _ _ h1.h⟩
theorem jcC{X:Cx}{pos:Pos}{gE:TT}{kh:List ag}(h1:QT X a tA)(h2:QW X (Expr.BoolOp BoolOp.Or (b :: kh) pos) gE):QW X (Expr.BoolOp BoolOp.Or (a :: b :: kh) pos) (tOr tA gE):=
 ⟨@jfI _ _ _ _ _ _ _ h1.h h2.h⟩
theorem ja3{X:Cx}{pos:Pos}(h1:QT X a tA):QW X (Expr.BoolOp BoolOp.Or [a] pos) tA:=
 ⟨@jdg _ _ _ _ h1.h⟩
theorem Zh{X:Cx}:QO X none ja7:=
 ⟨@qT _⟩
theorem kQ{X:Cx}(h1:QE X e te):QO X (some e) (jfy te):=
 ⟨@qS _ _ _ h1.h⟩
theorem jag{X:Cx}{ta:TA}{pos:Pos}(h1:Gl X (aM "range"))(h2:Cx.mg X (aM "range")=none)(h3:QA X [a] ta)(h4:bo [a] (Cx.env X)=[(false,eval a (Cx.env X))]:=by rfl):QI X tg (Expr.Call (Expr.Name (aM "range") p) [a] [] pos) (jfM ta):=
 ⟨@qV _ _ _ _ _ _ h1 h2 h3.h h4⟩
theorem Zi{X:Cx}{l:ag}{tl:TE}(h1:QE X l tl):QI X tg l (jfN (Cx.K X) tl):=
 ⟨@qe _ _ _ _ h1.h⟩
theorem YD{X:Cx}{l:ag}{tl:TE}(h1:QE X l tl):QI X tg l (jhh (Cx.K X) tl):=
 ⟨@zM _ _ _ _ h1.h⟩
theorem jcF{X:Cx}{gn:List ag}{tp:Pos}{ta:TA}{pos:Pos}(h1:Gl X (aM "enumerate"))(h2:Cx.mg X (aM "enumerate")=none)(h3:QA X [a] ta)(h4:bo [a] (Cx.env X)=[(false,eval a (Cx.env X))]:=by rfl):QI X (Expr.Tuple gn x1 tp) (Expr.Call (Expr.Name (aM "enumerate") p) [a] [] pos) (jfO (Cx.K X) ta):=
 ⟨@jeN _ _ _ _ _ _ _ _ h1 h2 h3.h h4⟩
theorem Ya{X:Cx}{gn:List ag}{tp:Pos}{ta:TA}{pos:Pos}(h1:Gl X (aM "enumerate"))(h2:Cx.mg X (aM "enumerate")=none)(h3:QA X [a] ta)(h4:bo [a] (Cx.env X)=[(false,eval a (Cx.env X))]:=by rfl):QI X (Expr.Tuple gn x1 tp) (Expr.Call (Expr.Name (aM "enumerate") p) [a] [] pos) (jdY (Cx.K X) ta):=
 ⟨@jdp _ _ _ _ _ _ _ _ h1 h2 h3.h h4⟩
variable {i:Nat}{dl:Pos}
theorem jF{X:Cx}{pos:Pos}(h1:bG (Cx.N X))(h2:(Cx.N X)[i]?=some x)(h3:L2.Loc (fH (Cx.env X)) x)(h4:QE X e te)(h5:iz e (some (Expr.Name x dl)) (ld pos) (Cx.env X)=pure false:=by rfl)(h6:Cx.fn X x=true\/fJ x (rj (fH (Cx.env X)))=some NameKind.local:=by first | exact .inl rfl | exact .inr rfl | assumption):QS X (Stmt.Assign [Expr.Name x dl] e pos) (jap te (kU i)):=
 ⟨@jH _ _ _ _ _ _ _ h1 h2 h3 h4.h h5 h6⟩
theorem JG{X:Cx}{bU:ag}{pos:Pos}{wi:TI}{y:Str}{py ot:Pos}(h1:bG (Cx.N X))(h2:(Cx.N X)[i]?=some y)(h3:L2.Loc (fH (Cx.env X)) y)(own:List Str)(fr:List Nat)(h4:Cx.calm X=true)(h5:CompOk X scope fr)(h6:QI (Cx.nox X) tg iter wi)(h7:∀(s:ae) (H:Hp) (ex:List aa),QG (blk (Cx.nox X) scope own fr s H ex) tg g/\QTs (blk (Cx.nox X) scope own fr s H ex) ifs tt/\QE (blk (Cx.nox X) scope own fr s H ex) bU te)(h8:∀(x:ac),gV iter (Cx.env X) x=pure x:=by intro _;rfl)(h9:iz (Expr.ListComp bU [{ target:=tg,iter:=iter,ifs:=ifs,is_async:=0 }] scope pos) (some (Expr.Name y py)) (ld ot) (Cx.env X)=pure true:=by rfl)(ma:Cx.fn X y=true\/fJ y (rj (fH (Cx.env X)))=some NameKind.local:=by first | exact .inl rfl | exact .inr rfl | assumption):QS (Cx.nox X) (Stmt.Assign [Expr.Name y py] (Expr.ListComp bU [{ target:=tg,iter:=iter,ifs:=ifs,is_async:=0 }] scope pos) ot) (jap (Yd own fr wi g tt te) (kU i)):=
 ⟨@zc _ _ _ _ _ _ _ _ _ _ _ _ _ _ _ h1 h2 h3 own fr h4 h5 h6.h (fun s H ex=>⟨(h7 s H ex).1.h,(h7 s H ex).2.1.h,(h7 s H ex).2.2.h⟩) h8 h9 ma⟩
variable {value:ag}
theorem qX{X:Cx}{i:ag}{pos:Pos}(h1:EC (Cx.A X)+1 < cLine)(h2:QE X o td)(h3:QE X i ty)(h4:QE X value tv)(h5:iz value (some (Expr.Subscript o i dl)) (ld pos) (Cx.env X)=pure false):QS X (Stmt.Assign [Expr.Subscript o i dl] value pos) (jfG td ty tv):=
 ⟨@jeL _ _ _ _ _ _ _ _ _ h1 h2.h h3.h h4.h h5⟩
theorem kZ{X:Cx}{pos:Pos}(h1:QE X o ta)(h2:QE X value tv)(h3:iz value (some (Expr.Attribute o f dl)) (ld pos) (Cx.env X)=pure false):QS X (Stmt.Assign [Expr.Attribute o f dl] value pos) (jgZ (Cx.K X) ta tv f):=
 ⟨@jga _ _ _ _ _ _ _ _ h1.h h2.h h3⟩
theorem JU{X:Cx}{pos:Pos}(h1:QE X e te)(h2:QG X tg g)(h3:wZ [tg] e (ld pos) (Cx.env X)=pure false:=by rfl)(h4:w8 [tg] e (Cx.env X)=pure none:=by rfl)(h5:mI (fun x=>Prod.snd x) (fG [tg] (Cx.env X))=[assign tg (Cx.env X)]:=by rfl):QS X (Stmt.Assign [tg] e pos) (jap te g):=
 ⟨@yK _ _ _ _ _ _ h1.h h2.h h3 h4 h5⟩
theorem j8{X:Cx}{pos:Pos}(h1:QE X e te):QS X (au.Return (some e) pos) (jgS te):=
 ⟨@jN _ _ _ _ h1.h⟩
variable {c:ag}
theorem j9{X:Cx}{t u:TS}{pos:Pos}{a b:List au}{tc:TT}(h1:QT X c tc)(h2:QSs X a t)(h3:QSs X b u):QS X (au.If c a b pos) (jgU tc t u):=
 ⟨@kB _ _ _ _ _ _ _ _ h1.h h2.h h3.h⟩
theorem JT{X:Cx}{body:List au}{wi:TI}{tb:TS}{pos:Pos}(h1:xo (aj (Cx.prog X) (Cx.w X)) (Cx.A X) (Cx.env X) (Cx.xe X))(h2:Cx.calm X=true)(h3:QI X tg iter wi)(h4:QG X tg g)(h5:QSs X body tb)(h6:∀(x:ac),gV iter (Cx.env X) x=pure x:=by intro _;rfl):QS X (au.For tg iter body [] pos) (jgV wi g tb):=
 ⟨@zd _ _ _ _ _ _ _ _ h1 h2 h3.h h4.h h5.h h6⟩
theorem yF{X:Cx}{pos rO:Pos}{op:Operator}{rd:V->V->Hp->VK->Prop}(h1:QE X o ta)(h2:QE X value tv)(h3:jgP X op rd):QS X (au.AugAssign (Expr.Attribute o f rO) op value pos) (jbd (Cx.K X) ta tv rd f):=
 ⟨@jbP _ _ _ _ _ _ _ _ _ _ h1.h h2.h h3⟩
theorem jbC{X:Cx}{pos:Pos}{body:List au}{tc:TT}{tb:TS}(h1:xo (aj (Cx.prog X) (Cx.w X)) (Cx.A X) (Cx.env X) (Cx.xe X))(h2:QT X c tc)(h3:QSs X body tb):QS X (au.While c body [] pos) (jam tc tb):=
 ⟨@ZC _ _ _ _ _ _ h1 h2.h h3.h⟩
theorem qb{X:Cx}{pos:Pos}(h1:QE X e te)(h2:iz e none (ld pos) (Cx.env X)=pure false:=by rfl):QS X (au.Expr e pos) (jfC te):=
 ⟨@qD _ _ _ _ h1.h h2⟩
theorem ke{X:Cx}{pos:Pos}(h1:bG (Cx.N X))(h2:(Cx.N X)[i]?=some x)(h3:L2.Loc (fH (Cx.env X)) x)(h4:Cx.fn X x=true\/fJ x (rj (fH (Cx.env X)))=some NameKind.local:=by first | exact .inl rfl | exact .inr rfl | assumption):QG X (Expr.Name x pos) (kU i):=
 ⟨@jA _ _ _ _ h1 h2 h3 h4⟩
theorem zG{X:Cx}{pos:Pos}{k:Nat}{t:TGs}{n:Nat}(h1:Cx.calm X=true)(h2:QGs X es t)(h3:lz (fG es (Cx.env X))=n:=by rfl)(h4:xZ (fun x=>Prod.fst x) (fG es (Cx.env X))=none:=by rfl):QG X (Expr.Tuple es k pos) (jgz (Cx.K X) n t):=
 ⟨@qA _ _ _ _ _ _ h1 h2.h h3 h4⟩
theorem qY{X:Cx}:QGs X [] jhi:=
 ⟨@kE _⟩
theorem kn{X:Cx}{t:TG}{u:TGs}(h1:QG X e t)(h2:QGs X es u)(h3:mI (fun x=>Prod.snd x) (fG (e :: es) (Cx.env X))=assign e (Cx.env X) :: mI (fun x=>Prod.snd x) (fG es (Cx.env X)):=by rfl):QGs X (e :: es) (jfP t u):=
 ⟨@jI _ _ _ _ _ h1.h h2.h h3⟩
theorem jX{X:Cx}:QSs X [] jfA:=
 ⟨@j4 _⟩
variable {st:au}
theorem jt{X:Cx}{t:TS}(h1:QS X st t):QSs X [st] t:=
 ⟨@js _ _ _ h1.h⟩
theorem jh{X:Cx}{kh:List au}{t u:TS}(h1:QS X st t)(h2:QSs X kh u):QSs X (st :: kh) (jfV t u):=
 ⟨@jm _ _ _ _ _ h1.h h2.h⟩
theorem zX{X:Cx}:QTs X [] yH:=
 ⟨@qR _⟩
theorem jj{X:Cx}:QA X [] jfW:=
 ⟨@ji _⟩
theorem jd{X:Cx}{t:TA}(h1:QE X e te)(h2:QA X es t)(h3:qa e=true:=by rfl):QA X (e :: es) (ja9 te t):=
 ⟨@jk _ _ _ _ _ h1.h h2.h h3⟩
theorem jcH{X:Cx}{K:ai}{pos:Pos}(h1:QE X e ta)(h2:iD e f (Cx.env X) (eval e (Cx.env X))=eval e (Cx.env X))(h3:Cx.K X=K:=by rfl):QE X (Expr.Attribute e f pos) (jev K ta f):=
 ⟨@jeQ _ _ _ _ _ _ h1.h h2 h3⟩
theorem jcD{X:Cx}{pos:Pos}{l:Nat}{y z:Str}{ta:TA}{px py pz pt:Pos}{kt k2:Nat}{lG:Pos}(h1:Cx.calm X=true)(h2:bG (Cx.N X))(h3:(Cx.N X)[i]?=some x)(h4:(Cx.N X)[j]?=some y)(h5:(Cx.N X)[l]?=some z)(h6:i≠j)(h7:i≠l)(h8:j≠l)(h9:L2.Loc (fH (Cx.env X)) x)(ma:L2.Loc (fH (Cx.env X)) y)(we:L2.Loc (fH (Cx.env X)) z)(L7:QA X [a,b,c] ta)(L6:w8 [Expr.Tuple [Expr.Name x px,Expr.Name y py,Expr.Name z pz] kt pt] (Expr.Tuple [a,b,c] k2 lG) (Cx.env X)=pure (some [x,y,z]))(L5:Cx.fn X x=true\/fJ x (rj (fH (Cx.env X)))=some NameKind.local)(wc:Cx.fn X y=true\/fJ y (rj (fH (Cx.env X)))=some NameKind.local)(L4:Cx.fn X z=true\/fJ z (rj (fH (Cx.env X)))=some NameKind.local)(L3:wZ [Expr.Tuple [Expr.Name x px,Expr.Name y py,Expr.Name z pz] kt pt] (Expr.Tuple [a,b,c] k2 lG) (ld pos) (Cx.env X)=pure false:=by rfl):QS X (Stmt.Assign [Expr.Tuple [Expr.Name x px,Expr.Name y py,Expr.Name z pz] kt pt] (Expr.Tuple [a,b,c] k2 lG) pos) (jfz i j l ta):=
 ⟨@jeK _ _ _ _ _ _ _ _ _ _ _ _ _ _ _ _ _ _ _ h1 h2 h3 h4 h5 h6 h7 h8 h9 ma we L7.h L6 L5 wc L4 L3⟩
theorem jbD{X:Cx}:QS X st jcY:=⟨jdm⟩
theorem qi{X:Cx}{t:TS}(h:QS X st t):QS X st (jfB t):=⟨YV h.h⟩
theorem Fun.okZ{P:av}{w:ar}{K:ai}{mg:Str->Option ac}{base:aq}{bj:Str}{f:aa}{fd:aH}{N:List Str}{k:Nat}(F:Fun K x bj st f fd)(S:FnScope N ps (jn st))(pE:∀(az:ac) (A:aD) (outer:List Env) (s:ae) (H:Hp) (vs:List V) (Q:VK) (E:XK),Room k (A.deeper (envOfC bj (jn st) s.heap.objs.size f az))->sp vs H Q E->
   ∃t,QSs (JQ CX0 P w K mg base N bj (jn st) f az A outer s H E).nox (qE st) t/\t { nx:=fun _ H'=>Q .non H',rt:=Q } (y0 N vs) H)(len:∀vs H Q E,sp vs H Q E->vs.length=ps.length:=by intro _ _ _ _ h;first|(cases h;subst_vars;rfl)|repeat first|(obtain⟨rfl,_⟩:=h;rfl)|(obtain⟨_,h⟩:=h)):FnOk P w K mg base CX0 (k+1) f fd ps sp:=
 F.ok S len fun az A outer s H vs Q E hr h=>let ⟨t,a,b⟩:=pE az A outer s H vs Q E hr h;⟨t,a.h,b⟩
end L2
namespace Tim
open PySem PyProof.Rows
variable {prog:av}{w:ar}{A:aD}{E:ac->ae->Prop}{s:ae}{κ:KeyKind}
section
def kq(κ:KeyKind)(p:Keyed):κ.α:=(κ.keyOf p.1).getD κ.dflt
def KW(κ:KeyKind)(p:Keyed):Prop:=∃a,κ.keyOf p.1=some a
end
abbrev SL(κ:KeyKind)(l:List Keyed):Prop:=l.Pairwise fun p q=>κ.kle (kq κ p) (kq κ q)
abbrev Le(κ:KeyKind)(p q:Keyed):Prop:=κ.kle (kq κ p) (kq κ q)
variable {ia ib:Nat}
section
variable {A B L:List Keyed}
structure LoI(κ:KeyKind)(A B L:List Keyed)(ia ib:Nat):Prop where
 perm:L.Perm (A.take ia++B.take ib)
 srt:SL κ L
 ba:∀x∈L,∀y∈A.drop ia,Le κ x y
 bb:∀x∈L,∀y∈B.drop ib,Le κ x y
theorem LoI.swap(I:LoI κ A B L ia ib):LoI κ B A L ib ia:=⟨I.perm.trans rC,I.srt,I.bb,I.ba⟩
def YB(κ:KeyKind)(A B M:List Keyed):Prop:=M.Perm (A++B)/\SL κ M
theorem LoI.done(I:LoI κ A B L ia ib)(sa:SL κ A)(sb:SL κ B)(h:∀x∈A.drop ia,∀y∈B.drop ib,Le κ x y):YB κ A B (L++A.drop ia++B.drop ib):=by
 refine⟨?_,?_⟩
 .have e1:=mH ia A
  have e2:=mH ib B;have h1:(L++A.drop ia++B.drop ib).Perm ((A.take ia++B.take ib)++(A.drop ia++B.drop ib)):=by
   rw[dI];exact I.perm.append_right _
  refine h1.trans ?_;have h2:((A.take ia++B.take ib)++(A.drop ia++B.drop ib)).Perm ((A.take ia++A.drop ia)++(B.take ib++B.drop ib)):=by
   rw[dI,dI];refine PV _ ?_;rw[<- dI,<- dI];exact rC.append_right _
  rw[e1,e2]at h2;exact h2
 .refine lm.mpr ⟨lm.mpr ⟨I.srt,sa.drop,I.ba⟩,sb.drop,fun x hx y hy=>?_⟩
  rcases cZ.mp hx with hx | hx
  .exact I.bb x hx y hy
  .exact h x hx y hy
theorem LoI.last(I:LoI κ A B L ia ib)(sa:SL κ A)(sb:SL κ B)(h:∀x∈B.drop ib,∀y∈A.drop ia,Le κ x y):YB κ A B (L++B.drop ib++A.drop ia):=by
 obtain⟨h1,h2⟩:=I.swap.done sb sa h;exact⟨h1.trans rC,h2⟩
end
variable {a:Array Keyed}{i:Nat}
theorem ZZ{j:Nat}:(a.extract i j).toList=(a.toList.drop i).take (j - i):=by
 simp
theorem jbt:(a.extract i a.size).toList=a.toList.drop i:=by
 rw[ZZ,iH (by rw[gA];simp)]
abbrev jaT(a b out:Array Keyed)(ia ib:Nat):Array Keyed:=out++a.extract ia a.size++b.extract ib b.size
variable {out:Array Keyed}{st:bV}{N:Nat}
section
variable {b:Array Keyed}
structure MC(κ:KeyKind)(a b:Array Keyed):Prop where
 ka:∀i (h:i < a.size),KW κ a[i]
 kb:∀i (h:i < b.size),KW κ b[i]
 sa:SL κ a.toList
 sb:SL κ b.toList
 last:∀j (h:j < b.size) (h':a.size - 1 < a.size),Le κ b[j] a[a.size - 1]
theorem jcn:(jaT a b out ia ib).toList=out.toList++a.toList.drop ia++b.toList.drop ib:=by
 unfold jaT;rw[rH,rH,jbt,jbt]
theorem MC.fin(C:MC κ a b)(I:LoI κ a.toList b.toList out.toList ia ib)(h:ia=a.size\/ib=b.size):YB κ a.toList b.toList (jaT a b out ia ib).toList:=by
 rw[jcn];refine I.done C.sa C.sb fun x hx y hy=>?_
 rcases h with rfl | rfl
 .rw[PQ (by simp)]at hx;cases hx
 .rw[PQ (by simp)]at hy;cases hy
end
variable {na nb:Nat}
section
variable {A B L:List Keyed}
structure HiI(κ:KeyKind)(A B L:List Keyed)(na nb:Nat):Prop where
 perm:L.Perm (A.drop na++B.drop nb)
 srt:L.Pairwise fun p q=>Le κ q p
 ba:∀x∈L,∀y∈A.take na,Le κ y x
 bb:∀x∈L,∀y∈B.take nb,Le κ y x
theorem HiI.swap(I:HiI κ A B L na nb):HiI κ B A L nb na:=⟨I.perm.trans rC,I.srt,I.bb,I.ba⟩
theorem HiI.done(I:HiI κ A B L na nb)(sa:SL κ A)(sb:SL κ B)(h:∀x∈A.take na,∀y∈B.take nb,Le κ x y):YB κ A B (A.take na++B.take nb++L.reverse):=by
 refine⟨?_,?_⟩
 .have e1:=mH na A
  have e2:=mH nb B;have h1:(A.take na++B.take nb++L.reverse).Perm ((A.take na++B.take nb)++(A.drop na++B.drop nb)):=((List.reverse_perm L).trans I.perm).append_left _;refine h1.trans ?_;have h2:((A.take na++B.take nb)++(A.drop na++B.drop nb)).Perm ((A.take na++A.drop na)++(B.take nb++B.drop nb)):=by
   rw[dI,dI];refine PV _ ?_;rw[<- dI,<- dI];exact rC.append_right _
  rw[e1,e2]at h2;exact h2
 .refine lm.mpr ⟨lm.mpr ⟨sa.take,sb.take,h⟩,List.pairwise_reverse.mpr I.srt,fun x hx y hy=>?_⟩
  have cS:=List.mem_reverse.mp hy;rcases cZ.mp hx with hx | hx
  .exact I.ba y cS x hx
  .exact I.bb y cS x hx
theorem HiI.first(I:HiI κ A B L na nb)(sa:SL κ A)(sb:SL κ B)(h:∀x∈B.take nb,∀y∈A.take na,Le κ x y):YB κ A B (B.take nb++A.take na++L.reverse):=by
 obtain⟨h1,h2⟩:=I.swap.done sb sa h;exact⟨h1.trans rC,h2⟩
end
abbrev jaU(a b out:Array Keyed)(na nb:Nat):Array Keyed:=a.extract 0 na++b.extract 0 nb++out.reverse
variable {n:Nat}
section
variable {b:Array Keyed}
theorem ZX{l:Array Keyed}:(l.extract 0 n).toList=l.toList.take n:=by
 rw[ZZ,E5,xN]
theorem Z4:(jaU a b out na nb).toList=a.toList.take na++b.toList.take nb++out.toList.reverse:=by
 unfold jaU;rw[rH,rH,ZX,ZX,Array.toList_reverse]
structure MD(κ:KeyKind)(a b:Array Keyed):Prop where
 ka:∀i (h:i < a.size),KW κ a[i]
 kb:∀i (h:i < b.size),KW κ b[i]
 sa:SL κ a.toList
 sb:SL κ b.toList
 first:∀i (h:i < a.size) (h':0 < b.size),Le κ b[0] a[i]
theorem MD.fin(C:MD κ a b)(I:HiI κ a.toList b.toList out.toList na nb)(h:na=0\/nb=0):YB κ a.toList b.toList (jaU a b out na nb).toList:=by
 rw[Z4];refine I.done C.sa C.sb fun x hx y hy=>?_
 rcases h with rfl | rfl
 .cases hx
 .cases hy
end
section
variable {arr:Array Keyed}
def Seg(κ:KeyKind)(arr:Array Keyed)(lo hi:Nat):Prop:=∀i j,lo<=i->i<=j->j < hi->κ.kle (KK κ arr i) (KK κ arr j)
end
def jgI(lo a dM:Nat):StateT bV Sem AscSt:=
 forIn [a:dM] ((none,a):AscSt) fun _ c=>do
  let x <- ltAt' (lo+c.snd) (lo+c.snd - 1)
  match x with
  | some smaller=>if smaller=true then pure (ForInStep.done (none,c.snd)) else pure (ForInStep.yield (none,c.snd+1))
  | _=>pure (ForInStep.done (some none,c.snd))
def jcW(lo n dM:Nat):StateT bV Sem (Option Nat):=do
 xH lo (lo+n)
 let c <- jgI lo n dM
 match c.fst with
 | some r=>pure r
 | none=>pure (some c.snd)
def jfQ(lo n dM:Nat):StateT bV Sem DescSt:=
 forIn [n:dM] ((none,n,0):DescSt) fun _ c=>do
  let x <- ltAt' (lo+c.snd.fst) (lo+c.snd.fst - 1)
  match x with
  | some smaller=>
   if smaller=true then
    if c.snd.snd > 0 then do
     xH (lo+c.snd.fst - (c.snd.snd+1)) (lo+c.snd.fst)
     pure (ForInStep.yield (none,c.snd.fst+1,0))
    else pure (ForInStep.yield (none,c.snd.fst+1,0))
   else do
    let x <- ltAt' (lo+c.snd.fst - 1) (lo+c.snd.fst)
    match x with
    | some larger=>
     if larger=true then pure (ForInStep.done (none,c.snd.fst,c.snd.snd))
     else pure (ForInStep.yield (none,c.snd.fst+1,c.snd.snd+1))
    | _=>pure (ForInStep.done (some none,c.snd.fst,c.snd.snd))
  | _=>pure (ForInStep.done (some none,c.snd.fst,c.snd.snd))
def jdv(lo n dM:Nat):StateT bV Sem (Option Nat):=do
 liftM (rule "list.sort.descending-run")
 let c <- jfQ lo (n+1) dM
 match c.fst with
 | some r=>pure r
 | none=>
  if c.snd.snd > 0 then do
   xH (lo+c.snd.fst - (c.snd.snd+1)) (lo+c.snd.fst)
   jcW lo c.snd.fst dM
  else jcW lo c.snd.fst dM
theorem Zd(lo dM:Nat):countRun' lo dM=(do
  let c <- jgI lo 1 dM
  match c.fst with
  | some r=>pure r
  | none=>
   if (c.snd == dM)=true then pure (some c.snd)
   else if c.snd > 1 then do
    let x <- ltAt' lo (lo+c.snd - 1)
    match x with
    | some rose=>if rose=true then pure (some c.snd) else do
      xH lo (lo+c.snd)
      jdv lo c.snd dM
    | _=>pure none
   else jdv lo c.snd dM):=by
 rw[countRun'_eq]
 dsimp only
 unfold jdv jcW jfQ jgI
 congr 1
 funext c
 obtain⟨r,n⟩:=c
 cases r with
 | some r=>rfl
 | none=>
  dsimp only
  split
  .rfl
  .split
   .congr 1
    funext x
    cases x with
    | none=>rfl
    | some rose=>
     dsimp only
     split
     .rfl
     .congr 1
      funext _r
      congr 1
      funext u1
      congr 1
      congr 1
      funext d
      obtain⟨d1,d2,d3⟩:=d
      cases d1 with
      | some _=>rfl
      | none=>
       dsimp only
       split
       .congr 1
        funext u2
        congr 1
        funext u3
        congr 1
        funext e
        obtain⟨e1,e2⟩:=e
        cases e1 <;> rfl
       .congr 1
        funext u3
        congr 1
        funext e
        obtain⟨e1,e2⟩:=e
        cases e1 <;> rfl
   .congr 1
    funext u1
    congr 1
    congr 1
    funext d
    obtain⟨d1,d2,d3⟩:=d
    cases d1 with
    | some _=>rfl
    | none=>
     dsimp only
     split
     .congr 1
      funext u2
      congr 1
      funext u3
      congr 1
      funext e
      obtain⟨e1,e2⟩:=e
      cases e1 <;> rfl
     .congr 1
      funext u3
      congr 1
      funext e
      obtain⟨e1,e2⟩:=e
      cases e1 <;> rfl
variable {lo:Nat}
section
variable {a₀ tE:Array Keyed}{P:Array (Nat×Nat×Nat)}
structure TB(a₀:Array Keyed)(P:Array (Nat×Nat×Nat))(lo:Nat)(tE:Array Keyed)(st:bV):Prop where
 perm:(arrOf st).Perm a₀
 kind:kindOf st=oneType'
 failed:lg st=none
 pend:lf st=P
 Gc:∀k,k < lo->(arrOf st)[k]?=tE[k]?
theorem TB.size(h:TB a₀ P lo tE st):(arrOf st).size=a₀.size:=h.perm.size_eq
theorem TB.key(T:TB a₀ P lo tE st)(keys:KeysOf κ a₀)(below:i < a₀.size):∃li:i < (arrOf st).size,KW κ ((arrOf st)[i]):=
 ⟨by rw[T.size];exact below,keys _ ((Array.perm_iff_toList_perm.mp T.perm).mem_iff.mp (Array.getElem_mem_toList _))⟩
theorem grown{R:Nat->Nat->Prop}(refl:∀i,R i i)(trans:∀i j k,R i j->R j k->R i k){top:Nat}(Gc:lo < top)(bq:∀i j,lo<=i->i<=j->j < top->R i j)(new:R (top - 1) top):∀i j,lo<=i->i<=j->j < top+1->R i j:=fun i j a b c=>by
 rcases eJ j top with d | d
 .exact bq i j a b d
 have ej:j=top:=by omega
 rcases eJ i j with f | f
 .rw[ej];exact trans _ _ _ (bq i (top - 1) a (by omega) (by omega)) new
 .rw[show i=j by omega];exact refl j
end
section
variable {a₀:Array Keyed}
def yn(κ:KeyKind)(arr:Array Keyed):Nat->List (Nat×Nat×Nat)->Nat->Prop
 | lo,[],hi=>lo=hi
 | lo,p :: r,hi=>p.1=lo/\0 < p.2.1/\Seg κ arr lo (lo+p.2.1)/\yn κ arr (lo+p.2.1) r hi
theorem Ji{arr:Array Keyed}:∀{p q:List (Nat×Nat×Nat)} {lo hi:Nat},yn κ arr lo (p++q) hi↔∃cK,yn κ arr lo p cK/\yn κ arr cK q hi
 | [],q,lo,hi=>by
  show yn κ arr lo q hi↔∃cK,lo=cK/\yn κ arr cK q hi;constructor
  .intro h;exact⟨lo,rfl,h⟩
  .rintro⟨_,rfl,h⟩;exact h
 | x :: p,q,lo,hi=>by
  have ih:=Ji (arr:=arr) (p:=p) (q:=q) (lo:=lo+x.2.1) (hi:=hi);show (x.1=lo/\0 < x.2.1/\Seg κ arr lo (lo+x.2.1)/\yn κ arr (lo+x.2.1) (p++q) hi)↔∃cK,(x.1=lo/\0 < x.2.1/\Seg κ arr lo (lo+x.2.1)/\yn κ arr (lo+x.2.1) p cK)/\yn κ arr cK q hi;rw[ih];constructor
  .rintro⟨h1,h2,h3,cK,h4,h5⟩;exact⟨cK,⟨h1,h2,h3,h4⟩,h5⟩
  .rintro⟨cK,⟨h1,h2,h3,h4⟩,h5⟩;exact⟨h1,h2,h3,cK,h4,h5⟩
structure SInv(κ:KeyKind)(a₀:Array Keyed)(hi:Nat)(st:bV):Prop where
 perm:(arrOf st).Perm a₀
 kind:kindOf st=oneType'
 failed:lg st=none
 chain:yn κ (arrOf st) 0 (lf st).toList hi
theorem SInv.push(S:SInv κ a₀ lo st)(h:Seg κ (arrOf st) lo (lo+n))(hn:0 < n):SInv κ a₀ (lo+n) (setPending st ((lf st).push (lo,n,0))):=by
 refine⟨S.perm,S.kind,S.failed,?_⟩;show yn κ (arrOf st) 0 ((lf st).push (lo,n,0)).toList (lo+n);rw[Fa];exact Ji.mpr ⟨lo,S.chain,rfl,hn,h,rfl⟩
end
section
theorem wpS_ltP{j:Nat}{x y:Keyed}{v:Bool}{Q:Option Bool->bV->Prop}(hi:(arrOf st)[i]?=some x)(hj:(arrOf st)[j]?=some y)
  (ask:af (aj prog w) A (keyLt' (kindOf st) x.1 y.1) (fun b s'=>s'=s/\b=v) (fun _ _=>False) s) (q:Q (some v) st):wpS (aj prog w) A E s (ltAt' i j) Q st:=by
 rw[ltAt'_eq]
 refine dg (rp ?_)
 dsimp only
 rw[elem'_eq,hi]
 refine dg (gY ?_)
 rw[elem'_eq,hj]
 refine dg (gY ?_)
 rw[lt'_eq]
 refine dg (rp ?_)
 refine dg (wpS_lift (mv (cB ask (fun b s' h=>?_) (fun _ _ h=>h.elim))))
 obtain⟨h1,h2⟩:=h
 subst h2
 exact⟨h1,gY q⟩
theorem YF{Q:Option Nat->bV->Prop}(h1:1<=N)
  (asks:∀i,1<=i->i < N->∀Q':Option Bool->bV->Prop,Q' (some false) st->wpS (aj prog w) A E s (ltAt' i (i - 1)) Q' st) (q:Q (some N) st):wpS (aj prog w) A E s (countRun' 0 N) Q st:=by
 rw[Zd]
 refine dg (xG (I:=fun n c sn=>sn=st/\c=(none,n)) (fun n c sn an bn J=>?_) (fun c sn J=>?_) ⟨rfl,rfl⟩)
 .obtain⟨rfl,rfl⟩:=J
  dsimp only
  rw[tZ]
  refine dg (asks n an bn _ ?_)
  exact gY ⟨rfl,rfl⟩
 .obtain⟨rfl,rfl⟩:=J
  have e:max 1 N=N:=by omega
  rw[e]
  dsimp only
  rw[Qg (by simp)]
  exact gY q
theorem Zn{Q:Bool->bV->Prop}(h1:1<=n)(q:Q true st):wpS (aj prog w) A E s (binarySort' 0 n n) Q st:=by
 rw[binarySort'_eq];refine dg (xG (I:=fun _ c sn=>sn=st/\c=(none,())) (fun k c sn ak bk J=>?_) (fun c sn J=>?_) ⟨rfl,rfl⟩)
 .omega
 .obtain⟨rfl,rfl⟩:=J
  exact gY q
theorem wpS_sortAsc{Q:Unit->bV->Prop}(hN:(arrOf st).size=N)(h1:1<=N)(hp:lf st=#[])
  (asks:∀i,1<=i->i < N->∀Q':Option Bool->bV->Prop,Q' (some false) st->wpS (aj prog w) A E s (ltAt' i (i - 1)) Q' st)
  (q:∀sn,arrOf sn=arrOf st->lg sn=lg st->Q () sn):wpS (aj prog w) A E s sortRuns' Q st:=by
 rw[sortRuns'_eq]
 refine dg (rp ?_)
 dsimp only
 rw[hN]
 generalize minRun' N N 0=mr
 refine dg (wpS_mono (xG (I:=fun (x:Nat) (c:Option Unit×Nat) (bH:bV)=>(x=0/\c=(none,0)/\bH=st)\/(1<=x/\c=(none,N)/\arrOf bH=arrOf st/\lg bH=lg st/\(lf bH).size=1))
  (Q:=fun (c:Option Unit×Nat) (bH:bV)=>c=(none,N)/\arrOf bH=arrOf st/\lg bH=lg st/\(lf bH).size=1) ?step ?fin (.inl ⟨rfl,rfl,rfl⟩)) ?post)
 case fin=>
  rintro c bH (⟨h,_⟩ | ⟨_,h2,h3,h4,h5⟩)
  .omega
  .exact⟨h2,h3,h4,h5⟩
 case step=>
  rintro x c bH _ hx (⟨rfl,rfl,rfl⟩ | ⟨_,rfl,h3,h4,h5⟩)
  .dsimp only
   rw[Qf (by omega)]
   refine dg ?_
   rw[xN]
   refine YF h1 asks ?_
   dsimp only
   split
   .rename_i hm
    refine dg (wpS_lift (gq ⟨rfl,?_⟩))
    have e:min N mr=N:=by omega
    rw[e]
    refine dg (Zn h1 ?_)
    simp only[P8,g_,if_false]
    refine dg (rp ?_)
    rw[hp]
    refine dg (wpS_modify (gY (.inr ⟨by omega,?_,rfl,rfl,?_⟩)))
    .rw[tZ]
    .show ((lf bH).push _).size=1
     rw[hp]
     rfl
   .refine dg (rp ?_)
    rw[hp]
    refine dg (wpS_modify (gY (.inr ⟨by omega,?_,rfl,rfl,?_⟩)))
    .rw[tZ]
    .show ((lf bH).push _).size=1
     rw[hp]
     rfl
  .dsimp only
   rw[Qg (ay _)]
   exact gY ⟨rfl,h3,h4,h5⟩
 case post=>
  rintro c bH ⟨rfl,h3,h4,h5⟩
  dsimp only
  refine dg (wpS_mono (xG (I:=fun (x:Nat) (c:Option Unit×Unit) (dA:bV)=>c=(none,())/\dA=bH)
   (Q:=fun (c:Option Unit×Unit) (dA:bV)=>c=(none,())/\dA=bH) ?step4 (fun _ _ h=>h) ⟨rfl,rfl⟩) ?post4)
  case step4=>
   rintro x c dA _ hx ⟨rfl,rfl⟩
   refine dg (rp ?_)
   rw[Qg (by omega)]
   exact gY ⟨rfl,rfl⟩
  case post4=>
   rintro c dA ⟨rfl,rfl⟩
   exact gY (q _ h3 h4)
end
end Tim
namespace L2
open PySem PySem.Spec PyProof.Rows PySem.W
theorem Jy:1000<=(aB:Nat):=by rw[gr];decide
section
variable {prog:av}{w:ar}{A:aD}{E:ac->ae->Prop}{s:ae}
theorem YZ{ps:List (Int×Int)}(h:ps.Pairwise fun x y=>x.1 < y.1):(ps.map (·.1)).Nodup:=by
 unfold bG;rw[rD];exact h.imp fun z=>Int.ne_of_lt z
theorem Zv{a:aa}{vs:List ac}{ps:List (Int×Int)}{n:Nat}{P:Fin->ae->Prop}(ho:s.heap.get? a=some (dh "list" vs.toArray n))(hl:vs.length=ps.length)
  (hv:∀i (h:i < ps.length),PairAt s.heap (vs.getD i Value.none) ps[i]) (tD:ps.Pairwise fun x y=>x.1 < y.1) (most:ps.length<=1000)
  (h:P (.done (.ret .none)) { s with heap:=EF s.heap a vs vs.toArray }) :
  af (aj prog w) A (Builtin.«list.sort» ⟨[.ref a],[]⟩) P E s:=by
 have ha:a < s.heap.objs.size:=aI ho
 have nd:=YZ tD
 have hsz:vs.toArray.size=vs.length:=by simp
 have line:vs.length<=aB:=by
  have:=Jy;omega
 obtain⟨e1,iX⟩:∃e1,(s.heap.update a (eF fun _=>#[])).get? a=some (dh "list" #[] e1):=⟨_,xI ho (fun _=>#[])⟩
 have fh:(((s.heap.update a (eF fun _=>#[])).push (dh "tuple" vs.toArray 0)).push (dh "list" #[] 0)).get? a=some (dh "list" #[] e1):=aF _ (aF _ iX)
 have dm:∀i (h:i < ps.length),PairAt (((s.heap.update a (eF fun _=>#[])).push (dh "tuple" vs.toArray 0)).push (dh "list" #[] 0)) (vs.getD i Value.none) ps[i]:=fun i hi=>(hv i hi).kept fun b o e c=>by
  have hb:b≠a:=fun z=>by
   rw[z,ho]at e
   cases e
   exact absurd c (by simp)
  exact aF _ (aF _ ((xv _ _ _ _ hb).trans e))
 rw[list_sort_plain]
 refine ad (listItems_at ho rfl (ad (EI ho rfl ?_ (by rw[hsz];omega) (bE _))))
 refine ad (EH iX rfl (ad (tK ?_ line)))
 refine ad (DA (de ?_) (bE _))
 generalize hh:(((s.heap.update a (eF fun _=>#[])).push (dh "tuple" vs.toArray 0)).push (dh "list" #[] 0))=h2 at *
 show af (aj prog w) A _ P E { s with heap:=h2 }
 dsimp only
 have u8:((vs.toArray.zip vs.toArray).map (·.2))=vs.toArray:=by
  apply Array.ext
  .simp
  .intro i h1 h2
   simp
 by_cases b9:vs.toArray.size < 2
 .rw[Qg b9,Qg b9]
  refine ad (al ?_)
  rw[StateT.run_pure]
  refine ad (al ?_)
  dsimp only
  refine ad (EH fh rfl (ad (EI fh rfl ?_ (bE _) ?_)))
  .simp only[bne_self_eq_false,g_,if_false]
   refine al ?_
   have g:=h
   unfold EF at g
   rw[hh]at g
   rw[<- u8]at g
   exact g
  .show ((vs.toArray.zip vs.toArray).map (·.2)).size<=_
   rw[u8,hsz]
   omega
 .rw[Qf b9,Qf b9]
  obtain⟨fs,t1,t2,t3⟩:=Km (h:=h2) hl dm
  refine ad (kat_kind (s:={ s with heap:=h2 }) (T:=.type "int") t1 (by omega) (fun v hv=>?_) (by decide) ?_)
  .obtain⟨x,t,rfl⟩:=t3 v hv
   exact Looks.of_pure rfl
  have hk:(Value.type "int" != Value.type "tuple")=true:=by decide
  rw[hk]
  have z_:(vs.toArray.zip vs.toArray).size=ps.length:=by simp[hl]
  have gN:∀i,i < ps.length->(vs.toArray.zip vs.toArray)[i]?=some (vs.getD i Value.none,vs.getD i Value.none):=fun i hi=>by
   have cM:i < vs.length:=by omega
   rw[rJ (by rw[z_];exact hi)];simp[cM]
  refine ad (cB (Tim.wpS_sortAsc (prog:=prog) (w:=w) (A:=A) (E:=E) (s:={ s with heap:=h2 }) (st:=bV.mk' (tuples' true) (vs.toArray.zip vs.toArray) #[] 7 none) (N:=ps.length) (Q:=fun _ sn=>arrOf sn=vs.toArray.zip vs.toArray/\lg sn=none) z_ (by omega) rfl (fun i a1 a2 Q' q'=>?_) (fun sn b1 b2=>⟨b1,b2⟩)) (fun o sh J=>?_) fun _ _ e=>e)
  .refine Tim.wpS_ltP (gN i a2) (gN (i - 1) (by omega)) (v:=false) ?_ q'
   have g:=jcz (prog:=prog) (w:=w) (A:=A) (s:={ s with heap:=h2 }) (C:=fun b s'=>s'={ s with heap:=h2 }/\b=false) hl dm nd a2 (show i - 1 < ps.length by omega) (by
    refine⟨rfl,Qe ?_⟩;have pw:=ll.mp tD (i - 1) i (by omega) a2 (by omega);have gi:ps.getD i (0,0)=ps[i]:=by simp[a2]
    have gj:ps.getD (i - 1) (0,0)=ps[i - 1]:=by
     have:i - 1 < ps.length:=by omega
     simp[this]
    rw[gi,gj];omega)
   exact g
  obtain⟨⟨⟩,bH⟩:=o
  obtain⟨rfl,b1,b2⟩:=J
  dsimp only at b1 b2 |-
  rw[b1,u8]
  refine ad (EH fh rfl (ad (EI fh rfl ?_ (bE _) ?_)))
  .rw[b2]
   simp only[bne_self_eq_false,g_,if_false]
   refine al ?_
   have g:=h
   unfold EF at g
   rw[hh]at g
   exact g
  .rw[hsz]
   omega
end
theorem yV{X:Cx}:qd X (.builtin "sorted") (fun xs H Q=>∃(p:aa) (qs:List V) (ps:List (Int×Int)),xs=[.ref p]/\SqL X.K H p qs/\PairsL X.K H qs ps/\(ps.Pairwise fun x y=>x.1 < y.1)/\ps.length<=1000/\
  ∀(l:aa),H l=none->Q (.ref l) (upd H l (.lst qs))):=by
 intro ab s σ H xs us Q I r h
 obtain⟨b,qs,ps,rfl,hq,hp,tD,most,q⟩:=h
 obtain⟨u,rfl,rx⟩:=qZ r
 cases rx
 obtain⟨its,rv,pl,hz⟩:=I.list hq
 have aT:=rv.length
 have hl:its.length=ps.length:=by rw[<- aT,hp.1]
 have hv:∀i (h:i < ps.length),PairAt s.heap (its.getD i Value.none) ps[i]:=fun i hi=>by
  obtain⟨c,e1,e2⟩:=hp.2 i hi;obtain⟨v,e3,e4⟩:=rv.get e1
  cases e4
  obtain⟨ic,rc,⟨o,k1,k2,n,k3⟩,_⟩:=I.tuple e2;obtain⟨u1,u2,rfl,⟨t,rfl⟩,⟨t',rfl⟩⟩:=ja5 rc;exact⟨c,o,t,t',n,by rw[eK,e3];rfl,k1,k2,k3⟩
 refine Oz kind_sorted plain_sorted entry_sorted (args_sorted1 _) ?_
 unfold Builtin.«sorted»
 refine ad (m:=checkCount "sorted" 1 1 _) (al (ad (collect_list pl.isList (ad (DA ?_ ?_)) ?_)))
 .have bq:∀b o,s.heap.get? b=some o->((s.heap.push (dh "list" #[] 0)).update s.heap.objs.size (eF (·++its.toArray))).get? b=some o:=fun b o e=>by
   rw[xv _ _ _ _ (aN (aI e))];exact aF _ e
  generalize ((s.heap.push (dh "list" #[] 0)).update s.heap.objs.size (eF (·++its.toArray)))=h1 at *;have I1:Inv X ab σ H { s with heap:=h1 }:=I.kept (t':=s.toks) bq;have ik:(h1.push (dh "list" its.toArray 0)).get? h1.objs.size=some (dh "list" its.toArray 0):=bz _ rfl;refine ad (de (fF slot_list_sort ⟨_,ik,rfl⟩ entry_list_sort (Zv (s:={ s with heap:=h1.push (dh "list" its.toArray 0) }) ik hl (fun i hi=>(hv i hi).kept fun b o e _=>aF _ (bq b o e)) tD most ⟨_,rfl,?_⟩) (args_list_sort _)));refine al ⟨_,rfl,?_⟩;obtain⟨e,he⟩:=sortedHeap_at (out:=its.toArray) ik;refine⟨.ref _,_,I1.laid (t':=s.toks) (fun b o hb=>?_) (ay _) (show ObjOk X.prog X.w _ _ _ (.lst qs) from⟨hz,_,e,rv,he⟩),rfl,q _ (I1.hok.fresh (ay _))⟩;have aG:=aI hb;rw[sortedHeap_old (aN aG) (by rw[EG];exact t8 aG)];exact aF _ hb
 .rw[hl];exact aZ most Jy
 .rw[hl];exact aZ most Jy
end L2
namespace Tim
open PySem PyProof.Rows
def jgr:ac->Option Int
 | .int n _=>some n
 | _=>none
@[reducible] def intKind:PyProof.Rows.KeyKind where
 α:=Int
 blt a b:=decide (a < b)
 irrefl a:=Qe (P5 a)
 trans a b c h1 h2:=Qd (P3 (Qc h1) (Qc h2))
 negTrans a b c h:=by
  have:=Qc h;by_cases x:a < b
  .exact .inl (Qd x)
  .exact .inr (Qd (by omega))
 total a b h1 h2:=by
  have:=of_decide_eq_false h1;have:=of_decide_eq_false h2;omega
 keyOf:=jgr
 dflt:=0
end Tim
namespace L2
open PySem PySem.Spec PyProof.Rows PySem.W
theorem LikeV.tup{K:ai}{H:Hp}{n:Nat}{a b:aa}{xs ys:List V}(ha:H a=some (.tup xs))(hb:H b=some (.tup ys))(hl:xs.length=ys.length)(h:∀(j:Nat) x' y',xs[j]?=some x'->ys[j]?=some y'->LikeV K H n x' y'):LikeV K H (n+1) (.ref a) (.ref b):=.inr (.inl ⟨a,b,xs,ys,rfl,rfl,SqT.of ha,SqT.of hb,hl,h⟩)
theorem LikeV.lst{K:ai}{H:Hp}{n:Nat}{a b:aa}{xs ys:List V}(ha:H a=some (.lst xs))(hb:H b=some (.lst ys))(hl:xs.length=ys.length)(h:∀(j:Nat) x' y',xs[j]?=some x'->ys[j]?=some y'->LikeV K H n x' y'):LikeV K H (n+1) (.ref a) (.ref b):=.inr (.inr ⟨a,b,xs,ys,rfl,rfl,SqL.of ha,SqL.of hb,hl,h⟩)
def LikeL(K:ai)(H:Hp)(n:Nat)(xs ys:List V):Prop:=xs.length=ys.length/\∀(j:Nat) x' y',xs[j]?=some x'->ys[j]?=some y'->LikeV K H n x' y'
theorem LikeL.nil{K:ai}{H:Hp}{n:Nat}:LikeL K H n [] []:=⟨rfl,fun j x y h _=>by simp at h⟩
theorem LikeL.cons{K:ai}{H:Hp}{n:Nat}{x y:V}{xs ys:List V}(h:LikeV K H n x y)(t:LikeL K H n xs ys):LikeL K H n (x :: xs) (y :: ys):=⟨by rw[bi,bi,t.1],fun j x' y' e1 e2=>by
 cases j with
 | zero=>simp at e1 e2;subst e1 e2;exact h
 | succ j=>exact t.2 j x' y' (by simpa using e1) (by simpa using e2)⟩
mutual
theorem held_like{K:ai}{H:Hp}:∀{n:Nat} {d:D} {x y:V},d.depth<=n->Held H d x->Held H d y->LikeV K H n x y
 | n,.int i,x,y,_,h,h'=>by unfold Held at h h';subst h h';exact qv _ _
 | n,.str i,x,y,_,h,h'=>by unfold Held at h h';subst h h';exact qN _ _
 | n,.tup ds,x,y,hn,h,h'=>by
  unfold Held at h h';obtain⟨a,xs,rfl,ha,h1⟩:=h;obtain⟨b,ys,rfl,hb,h2⟩:=h';unfold D.depth at hn
  cases n with
  | zero=>omega
  | succ n=>
   have hl:=heldL_like (K:=K) (n:=n) (by omega) h1 h2;exact LikeV.tup ha hb hl.1 hl.2
theorem heldL_like{K:ai}{H:Hp}:∀{n:Nat} {ds:List D} {xs ys:List V},D.depthL ds<=n->HeldL H ds xs->HeldL H ds ys->LikeL K H n xs ys
 | n,[],xs,ys,_,h,h'=>by unfold HeldL at h h';subst h h';exact .nil
 | n,d :: ds,xs,ys,hn,h,h'=>by
  unfold HeldL at h h';obtain⟨v,r,rfl,e1,e2⟩:=h;obtain⟨v',r',rfl,gp,nD⟩:=h';unfold D.depthL at hn;exact .cons (held_like (by omega) e1 gp) (heldL_like (by omega) e2 nD)
end
section
variable {X:Cx}
theorem jbl(n:Nat)(hu:X.A.units+1+n < cLine):OpR X (cX .Eq) (fun x y H Q=>∃a b xs ys,x=.ref a/\y=.ref b/\SqT X.K H a xs/\SqT X.K H b ys/\LikeL X.K H n xs ys/\Q (.bl true) H):=by
 intro ab s σ H x y v u Q I rx ry h;obtain⟨a,b,xs,ys,rfl,rfl,ha,hb,⟨hl,hj⟩,q⟩:=h
 cases rx;cases ry
 obtain⟨its,bI,ta,_⟩:=I.tuple ha;obtain⟨aK,bM,tb,_⟩:=I.tuple hb;have l3:=bI.length;have l4:=bM.length;have key:=xm (A:=X.A) (s:=s) (e:=fun _=>true) (show s.heap.IsTuple a its.toArray from ta) (show s.heap.IsTuple b aK.toArray from tb) (by omega) (YG hl bI bM fun j x' y' u' v' e1 e2 r1 r2=>yA I n X.A.in1 x' y' u' v' (by show X.A.units+1+n < cLine;exact hu) (hj j x' y' e1 e2) r1 r2);have e:((bm (min its.toArray.size aK.toArray.size)).all (fun _=>true) && its.toArray.size == aK.toArray.size)=true:=by
  have:its.toArray.size=aK.toArray.size:=by simp;omega
  rw[this];simp
 rw[e]at key;exact key X.prog X.w X.xe _ ⟨.bl true,H,I,rfl,q⟩
end
end L2
namespace LW
open PySem L2
variable {H:Hp}
theorem jb{p:aa}(h:H p=none)(o:HO):Same H (upd H p o):=fun b u q=>by rw[jl (jo q h)];exact q
variable {n:Nat}
theorem Kd(h:n<=1000):n<=aB:=cQ (jw h)
theorem sm(h:n.ble 1000=true):n<=aB:=Kd (Pi h)
variable {w:ar}{K:ai}{mg:Str->Option ac}{base:aq}{v:V}
section
variable {P:av}
theorem Ys{k:Str}{r:List D}(h:Held H (.tup (.str k :: r)) v):∃a xs,v=.ref a/\H a=some (.tup (.str k :: xs))/\HeldL H r xs:=by
 unfold Held at h;obtain⟨a,xs,e1,e2,e3⟩:=h;unfold HeldL at e3;obtain⟨v,r',rfl,h1,h2⟩:=e3;unfold Held at h1;subst h1;exact⟨a,r',e1,e2,h2⟩
theorem J4{x:V}{xs:List V}:atI (x :: xs) 0=some x:=qG (j:=0) rfl
end
def jhB(a:aa)(H H':Hp):Prop:=∀b o,b≠a->H b=some o->H' b=some o
def jz(base:Int)(ps:List (Int×Int))(p:Int):Int:=ps.foldl (fun f q=>if q.1<=p then q.2 else f) base
theorem Yt(b p:Int):jz b [] p=b:=rfl
theorem zO(b:Int)(ps:List (Int×Int))(q:Int×Int)(p:Int):jz b (ps++[q]) p=if q.1<=p then q.2 else jz b ps p:=by unfold jz;rw[uf];rfl
theorem ki{p:Int}:∀{ps:List (Int×Int)} {b:Int},(∀q∈ps,¬q.1<=p)->jz b ps p=b
 | [],_,_=>rfl
 | q :: r,b,h=>by
  show jz (if q.1<=p then q.2 else b) r p=b;rw[Qf (h q bQ)];exact ki fun q hq=>h q (bK _ hq)
theorem zA{p:Int}:∀{ps:List (Int×Int)} {b:Int},(∀q∈ps,q.1<=p)->jz b ps p=((ps.getLast?).map (·.2)).getD b
 | [],_,_=>rfl
 | [q],b,h=>by
  show (if q.1<=p then q.2 else b)=q.2;rw[Qg (h q bQ)]
 | q :: q' :: r,b,h=>by
  show jz (if q.1<=p then q.2 else b) (q' :: r) p=_;rw[zA fun q hq=>h q (bK _ hq),Pz]
  cases e:(q' :: r).getLast? with
  | none=>simp at e
  | some z=>rfl
theorem qx(b:Int)(ps qs:List (Int×Int))(p:Int):jz b (ps++qs) p=jz (jz b ps p) qs p:=by unfold jz;rw[uf]
def Cut(ps:List (Int×Int))(p:Int)(c:Nat):Prop:=c<=ps.length/\(∀i (h:i < ps.length),i < c->ps[i].1<=p)/\∀i (h:i < ps.length),c<=i->p < ps[i].1
variable {b p:Int}{ps:List (Int×Int)}
theorem jd1{c:Nat}(h:Cut ps p c):jz b ps p=if c=0 then b else (ps.getD (c - 1) (0,0)).2:=by
 obtain⟨h1,h2,h3⟩:=h;have e:ps=ps.take c++ps.drop c:=(mH c ps).symm;have a1:∀q∈ps.take c,q.1<=p:=fun q hq=>by
  obtain⟨i,hi,rfl⟩:=di.mp hq;rw[a_]at hi;rw[rE];exact h2 i (by omega) (by omega)
 have a2:∀q∈ps.drop c,¬q.1<=p:=fun q hq=>by
  obtain⟨i,hi,rfl⟩:=di.mp hq;rw[gA]at hi;rw[xW];have:=h3 (c+i) (by omega) (by omega);omega
 have e2:jz b ps p=jz b (ps.take c++ps.drop c) p:=Qi (fun z=>jz b z p) e;rw[e2,qx,ki a2,zA a1];by_cases h0:c=0
 .subst h0
  rfl
 .rw[Qf h0,List.getLast?_eq_getElem?,a_,xO h1,PD,Qg (by omega),aC (by omega),eK,aC (by omega)]
  rfl
abbrev kg(ps:List (Int×Int)):Prop:=ps.Pairwise (fun x y=>x.1 < y.1)
variable {i:Nat}
theorem Yh(h:kg ps){j:Nat}(hi:i < ps.length)(hj:j < ps.length)(l:i<=j):ps[i].1<=ps[j].1:=by
 rcases eJ i j with k | k
 .exact Int.le_of_lt (ll.mp h i j hi hj k)
 .have:i=j:=by omega
  subst this;exact dz _
def StepsAt(K:ai)(H:Hp)(qs:List V)(ps:List (Int×Int)):Prop:=qs.length=ps.length/\∀i (h:i < ps.length),∃c,qs[i]?=some (.ref c)/\SqT K H c [.int ps[i].1,.int ps[i].2]
structure RowAt(K:ai)(H:Hp)(v:V)(r:Int×List (Int×Int)):Prop where
 ex:∃a b qs,v=.ref a/\SqT K H a [.int r.1,.ref b]/\SqT K H b qs/\StepsAt K H qs r.2
variable {H':Hp}
theorem StepsAt.mono{qs:List V}(e:Same H H')(h:StepsAt K H qs ps):StepsAt K H' qs ps:=⟨h.1,fun i hi=>by
 obtain⟨c,e1,e2⟩:=h.2 i hi;exact⟨c,e1,e.sqT e2⟩⟩
theorem RowAt.mono{r:Int×List (Int×Int)}(e:Same H H')(h:RowAt K H v r):RowAt K H' v r:=by
 obtain⟨a,b,qs,e1,e2,e3,e4⟩:=h.ex;exact⟨a,b,qs,e1,e.sqT e2,e.sqT e3,e4.mono e⟩
def jhm(r:Int×List (Int×Int)):Prop:=kg r.2/\r.2.length<=600
def stN(base:Int)(ps:List (Int×Int)):Int×List (Int×Int):=ps.foldl (fun st q=>if q.2=st.1 then st else (q.2,st.2++[q])) (base,[])
theorem q8(base:Int)(ps:List (Int×Int))(q:Int×Int):stN base (ps++[q])=if q.2=(stN base ps).1 then stN base ps else (q.2,(stN base ps).2++[q]):=by unfold stN;rw[uf];rfl
theorem jc3{base:Int}(h:i < ps.length):stN base (ps.take (i+1))=if ps[i].2=(stN base (ps.take i)).1 then stN base (ps.take i) else (ps[i].2,(stN base (ps.take i)).2++[ps[i]]):=by
 rw[cq,aC h];exact q8 _ _ _
theorem JV(base:Int)(ps:List (Int×Int)):(stN base ps).2.length<=ps.length:=by
 have key:∀(ps:List (Int×Int)) (st:Int×List (Int×Int)),(ps.foldl (fun st q=>if q.2=st.1 then st else (q.2,st.2++[q])) st).2.length<=st.2.length+ps.length:=by
  intro ps;induction ps with
  | nil=>intro st;exact ay _
  | cons q r ih=>
   intro st;rw[ue];refine aZ (ih _) ?_;split
   .simp
   .simp;omega
 have:=key ps (base,[]);simpa[stN]using this
def jdc(base:Int)(ps:List (Int×Int)):D:=.tup [.int base,.tup (ps.map pD)]
def JL(b:Int)(L:List (Int×Int)):Int:=((L.getLast?).map (·.2)).getD b
theorem Kw(b:Int)(L:List (Int×Int))(x:Int×Int):JL b (L++[x])=x.2:=by
 unfold JL;rw[List.getLast?_concat];rfl
theorem za{P:List (Int×Int)->Prop}(h0:P [])(h1:∀L x,P L->P (L++[x]))(L:List (Int×Int)):P L:=by
 have key:∀M:List (Int×Int),P M.reverse:=by
  intro M;induction M with
  | nil=>exact h0
  | cons x r ih=>rw[xS];exact h1 _ _ ih
 have:=key L.reverse;rwa [Pq]at this
theorem jex(b:Int)(L:List (Int×Int)):(stN b L).1=JL b L:=by
 refine za (P:=fun L=>(stN b L).1=JL b L) rfl (fun L x ih=>?_) L;rw[Kw,q8];split
 .next h=>exact h.symm
 .rfl
theorem jfZ(b:Int)(L:List (Int×Int)):(stN b L).2.Sublist L:=by
 refine za (P:=fun L=>(stN b L).2.Sublist L) (PU _) (fun L x ih=>?_) L;rw[q8];split
 .exact ih.trans (List.sublist_append_left _ _)
 .exact ih.append (PU _)
variable {L:List (Int×Int)}
theorem JH{x:Int×Int}(h:kg (L++[x])):kg L/\∀y∈L,y.1 < x.1:=by
 obtain⟨h1,_,h3⟩:=lm.mp h;exact⟨h1,fun y hy=>h3 y hy x (by simp)⟩
theorem jbq(b:Int)(L:List (Int×Int))(h:kg L)(p:Int):jz b (stN b L).2 p=jz b L p:=by
 refine za (P:=fun L=>kg L->jz b (stN b L).2 p=jz b L p) (fun _=>rfl) (fun L x ih h=>?_) L h;obtain⟨h1,h2⟩:=JH h;rw[q8,zO];split
 .next e=>
  rw[ih h1];split
  .next hp=>
   rw[zA fun q hq=>by have:=h2 q hq;omega];rw[jex]at e;exact e.symm
  .rfl
 .show jz b ((stN b L).2++[x]) p=_
  rw[zO,ih h1]
def Kt:Int->List (Int×Int)->Prop
 | _,[]=>True
 | b,q :: r=>q.2≠b/\Kt q.2 r
theorem Ks:∀{L:List (Int×Int)} {b:Int} {x:Int×Int},Kt b L->x.2≠JL b L->Kt b (L++[x])
 | [],b,x,_,h=>⟨h,trivial⟩
 | q :: r,b,x,h,hx=>by
  refine⟨h.1,Ks h.2 ?_⟩;intro e;apply hx;rw[e];unfold JL
  cases r with
  | nil=>rfl
  | cons q' r'=>
   rw[Pz]
   cases e':(q' :: r').getLast? with
   | none=>simp at e'
   | some z=>rfl
theorem jdT(b:Int)(L:List (Int×Int)):JL b (stN b L).2=(stN b L).1:=by
 refine za (P:=fun L=>JL b (stN b L).2=(stN b L).1) rfl (fun L x ih=>?_) L;rw[q8];split
 .exact ih
 .exact Kw _ _ _
theorem jdK(b:Int)(L:List (Int×Int)):Kt b (stN b L).2:=by
 refine za (P:=fun L=>Kt b (stN b L).2) trivial (fun L x ih=>?_) L;rw[q8];split
 .exact ih
 .next h=>
  refine Ks ih ?_;rw[jdT];exact h
structure Canon(b:Int)(L:List (Int×Int)):Prop where
 up:kg L
 no:Kt b L
theorem jab(b:Int)(h:kg L):Canon b (stN b L).2:=⟨h.sublist (jfZ b L),jdK b L⟩
theorem kj(b:Int)(q:Int×Int)(r:List (Int×Int))(p:Int):jz b (q :: r) p=jz (if q.1<=p then q.2 else b) r p:=rfl
theorem qJ{q:Int×Int}{r:List (Int×Int)}(h:kg (q :: r)):kg r/\∀y∈r,q.1 < y.1:=⟨(xT.mp h).2,(xT.mp h).1⟩
theorem jac:∀{L M:List (Int×Int)} {b:Int},Canon b L->Canon b M->(∀p,jz b L p=jz b M p)->L=M
 | [],[],_,_,_,_=>rfl
 | [],y :: M,b,_,hM,h=>by
  have e:=h y.1;rw[Yt,kj,Qg (dz _),ki fun q hq=>by have:=(qJ hM.up).2 q hq;omega]at e;exact absurd e.symm hM.no.1
 | x :: L,[],b,hL,_,h=>by
  have e:=h x.1;rw[Yt,kj,Qg (dz _),ki fun q hq=>by have:=(qJ hL.up).2 q hq;omega]at e;exact absurd e hL.no.1
 | x :: L,y :: M,b,hL,hM,h=>by
  have rL:=qJ hL.up;have rM:=qJ hM.up;have nL:∀{c:Int} (p:Int),p<=x.1->jz c L p=c:=fun p hp=>ki fun q hq=>by have:=rL.2 q hq;omega
  have nM:∀{c:Int} (p:Int),p<=y.1->jz c M p=c:=fun p hp=>ki fun q hq=>by have:=rM.2 q hq;omega
  rcases P2 x.1 y.1 with c | c | c
  .have e:=h x.1
   rw[kj,kj,Qg (dz _),Qf (by omega),nL _ (dz _),nM _ (by omega)]at e;exact absurd e hL.no.1
  .have e:=h x.1
   rw[kj,kj,Qg (dz _),Qg (by omega),nL _ (dz _),nM _ (by omega)]at e;have Mc:x=y:=Prod.ext c e;subst Mc;have:=jac (L:=L) (M:=M) (b:=x.2) ⟨rL.1,hL.no.2⟩ ⟨rM.1,hM.no.2⟩ fun p=>by
    by_cases hp:x.1<=p
    .have e:=h p
     rw[kj,kj,Qg hp]at e;exact e
    .rw[nL p (by omega),nM p (by omega)]
   rw[this]
  .have e:=h y.1
   rw[kj,kj,Qg (dz _),Qf (by omega),nM _ (dz _),nL _ (by omega)]at e;exact absurd e.symm hM.no.1
theorem Kz(b:Int)(L:List (Int×Int))(h:kg L)(p:Int):((∀y∈L,¬y.1<=p)/\jz b L p=b)\/∃x∈L,x.1<=p/\(∀y∈L,y.1<=p->y.1<=x.1)/\jz b L p=x.2:=by
 refine za (P:=fun L=>kg L->((∀y∈L,¬y.1<=p)/\jz b L p=b)\/∃x∈L,x.1<=p/\(∀y∈L,y.1<=p->y.1<=x.1)/\jz b L p=x.2) (fun _=>.inl ⟨fun y hy=>(by cases hy),rfl⟩) (fun L x ih h=>?_) L h;obtain⟨h1,h2⟩:=JH h;rw[zO];by_cases hp:x.1<=p
 .rw[Qg hp]
  refine .inr ⟨x,by simp,hp,fun y hy _=>?_,rfl⟩;rcases cZ.mp hy with hy | hy
  .have:=h2 y hy;omega
  .rw[bu.mp hy];exact dz _
 .rw[Qf hp]
  rcases ih h1 with⟨a,e⟩ | ⟨z,hz,a1,a2,e⟩
  .refine .inl ⟨fun y hy=>?_,e⟩
   rcases cZ.mp hy with hy | hy
   .exact a y hy
   .rw[bu.mp hy];exact hp
  .refine .inr ⟨z,iJ _ hz,a1,fun y hy uL=>?_,e⟩
   rcases cZ.mp hy with hy | hy
   .exact a2 y hy uL
   .rw[bu.mp hy]at uL;exact absurd uL hp
theorem K5(h:kg L){x y:Int×Int}(hx:x∈L)(hy:y∈L)(e:x.1=y.1):x=y:=by
 obtain⟨i,hi,rfl⟩:=di.mp hx;obtain⟨j,hj,rfl⟩:=di.mp hy;have pw:=ll.mp h;rcases EN i j with c | c | c
 .have:=pw i j hi hj c;omega
 .subst c;rfl
 .have:=pw j i hj hi c;omega
theorem held_like(h:kg L){q:Int}(hpq:p<=q)(no:∀y∈L,¬(p < y.1/\y.1<=q)):jz b L q=jz b L p:=by
 rcases Kz b L h q with⟨a,e⟩ | ⟨z,hz,a1,a2,e⟩
 .rw[e,ki fun y hy=>by have:=a y hy;omega]
 .rcases Kz b L h p with⟨a,_⟩ | ⟨z',lJ,b1,b2,e'⟩
  .exact absurd ⟨by have:=a z hz;omega,a1⟩ (no z hz)
  .rw[e,e']
   have Gy:z.1<=p:=by have:=no z hz;omega
   have c1:=b2 z hz Gy;have c2:=a2 z' lJ (by omega);rw[K5 h hz lJ (by omega)]
def wrN(b:Int)(ps:List (Int×Int))(c1 c2:Nat)(p v:Int):List (Int×Int):=ps.take c1++[(p,v),(p+1,jz b ps (p+1))]++ps.drop c2
theorem Jg{c:Nat}(h:Cut ps p c):(∀y∈ps.take c,y.1<=p)/\∀y∈ps.drop c,p < y.1:=by
 obtain⟨h1,h2,h3⟩:=h;refine⟨fun q hq=>?_,fun q hq=>?_⟩
 .obtain⟨i,hi,rfl⟩:=di.mp hq
  rw[a_]at hi;rw[rE];exact h2 i (by omega) (by omega)
 .obtain⟨i,hi,rfl⟩:=di.mp hq
  rw[gA]at hi;rw[xW];exact h3 (c+i) (by omega) (by omega)
variable {c1 c2:Nat}
theorem jfT{v:Int}(h1:Cut ps (p - 1) c1)(h2:Cut ps (p+1) c2):(wrN b ps c1 c2 p v).length<=ps.length+2:=by
 have:c1<=c2:=by
  rcases eJ c2 c1 with c | c
  .have:=h1.1
   have a:=h1.2.1 c2 (by omega) c;have b:=h2.2.2 c2 (by omega) (ay _);omega
  .exact c
 have:=h1.1;have:=h2.1;unfold wrN;simp only[aP,a_,gA,bi,lv];omega
theorem jgQ{v:Int}(h:kg ps)(h1:Cut ps (p - 1) c1)(h2:Cut ps (p+1) c2):kg (wrN b ps c1 c2 p v):=by
 have t1:=(Jg h1).1;have t2:=(Jg h2).2;unfold wrN;refine lm.mpr ⟨lm.mpr ⟨h.sublist (ER _ _),?_,fun x hx y hy=>?_⟩,h.sublist (PP _ _),fun x hx y hy=>?_⟩
 .refine xT.mpr ⟨fun y hy=>?_,Ps _ _⟩
  rw[bu.mp hy];show p < p+1;omega
 .have:=t1 x hx
  rcases bg.mp hy with rfl | hy
  .show x.1 < p;omega
  .rw[bu.mp hy];show x.1 < p+1;omega
 .have:=t2 y hy
  rcases cZ.mp hx with hx | hx
  .have:=t1 x hx;omega
  .rcases bg.mp hx with rfl | hx
   .show p < y.1;omega
   .rw[bu.mp hx];show p+1 < y.1;omega
theorem jeu{v:Int}(h1:Cut ps (p - 1) c1)(h2:Cut ps (p+1) c2)(q:Int):jz b (wrN b ps c1 c2 p v) q=if q=p then v else jz b ps q:=by
 have t1:=Jg h1;have t2:=Jg h2;have a1:∀z,jz b ps z=jz (jz b (ps.take c1) z) (ps.drop c1) z:=fun z=>by rw[<- qx,mH]
 have a2:∀z,jz b ps z=jz (jz b (ps.take c2) z) (ps.drop c2) z:=fun z=>by rw[<- qx,mH]
 have e:jz b (wrN b ps c1 c2 p v) q=jz (if p+1<=q then jz b ps (p+1) else if p<=q then v else jz b (ps.take c1) q) (ps.drop c2) q:=by
  unfold wrN;rw[qx,qx];rfl
 rw[e];rcases P2 q p with c | c | c
 .rw[Qf (by omega),Qf (by omega),Qf (by omega),ki (fun y hy=>by have:=t2.2 y hy;omega),a1 q,ki (ps:=ps.drop c1) (fun y hy=>by have:=t1.2 y hy;omega)]
 .rw[Qf (by omega),Qg (by omega),Qg c,ki (fun y hy=>by have:=t2.2 y hy;omega)]
 .rw[Qg (by omega),Qf (by omega),a2 q,a2 (p+1),ki (p:=p+1) (ps:=ps.drop c2) (fun y hy=>by have:=t2.2 y hy;omega),zA (p:=p+1) (ps:=ps.take c2) t2.1,zA (p:=q) (ps:=ps.take c2) fun y hy=>by have:=t2.1 y hy;omega]
def lk(ps:List (Int×Int))(p:Int):Option Int:=(ps.find? fun q=>decide (q.1=p)).map (·.2)
structure EndsOk(ps pl:List (Int×Int))(ms:List Int):Prop where
 up:ms.Pairwise (· < ·)
 mem:∀m,m∈ms↔(∃q∈ps,q.1=m)\/∃q∈pl,q.1=m\/q.1+1=m
inductive spUpTo(K:ai)(vs:List V)(H:Hp)(Q:VK)(E:XK):Prop
 | mk (b:aa) (p:Int) (qs:List V) (ps:List (Int×Int)) (_:vs=[.ref b,.int p]) (_:SqT K H b qs) (_:StepsAt K H qs ps) (_:kg ps) (_:ps.length<=600) (_:∀c:Nat,Cut ps p c->Q (.int c) H)
inductive spEntry(K:ai)(vs:List V)(H:Hp)(Q:VK)(E:XK):Prop
 | mk (v:V) (p:Int) (r:Int×List (Int×Int)) (_:vs=[v,.int p]) (_:RowAt K H v r) (_:jhm r) (_:Q (.int (jz r.1 r.2 p)) H)
inductive spStairs(K:ai)(vs:List V)(H:Hp)(Q:VK)(E:XK):Prop
 | mk (base:Int) (p:aa) (qs:List V) (ps:List (Int×Int)) (_:vs=[.int base,.ref p]) (_:SqL K H p qs) (_:PairsL K H qs ps) (_:kg ps) (_:ps.length<=1000) (_:∀r H',Same H H'->Held H' (jdc base (stN base ps).2) r->Q r H')
inductive spWritten(K:ai)(vs:List V)(H:Hp)(Q:VK)(E:XK):Prop
 | mk (v:V) (p x b:Int) (ps:List (Int×Int)) (_:vs=[v,.int p,.int x]) (_:RowAt K H v (b,ps)) (_:kg ps) (_:ps.length<=400) (_:∀eZ r H',Same H H'->Canon b eZ->(∀q,jz b eZ q=if q=p then x else jz b ps q)->eZ.length<=ps.length+2->Held H' (jdc b eZ) r->Q r H')
theorem jeD(h:Held H (jdc b ps) v):∃a c qs,v=.ref a/\H a=some (.tup [.int b,.ref c])/\H c=some (.tup qs)/\HeldL H (ps.map pD) qs:=by
 obtain⟨a,xs,rfl,ha,h1⟩:=jD h;obtain⟨v1,r1,rfl,e1,h2⟩:=jg h1;obtain⟨v2,r2,rfl,e2,h3⟩:=jg h2
 cases jP h3
 cases ku e1
 obtain⟨c,qs,rfl,hb,h4⟩:=jD e2;exact⟨a,c,qs,rfl,ha,hb,h4⟩
theorem jgg{q:Int×Int}(h:Held H (pD q) v):∃a,v=.ref a/\H a=some (.tup [.int q.1,.int q.2]):=by
 obtain⟨a,xs,rfl,ha,h1⟩:=jD h;obtain⟨v1,r1,rfl,e1,h2⟩:=jg h1;obtain⟨v2,r2,rfl,e2,h3⟩:=jg h2
 cases jP h3
 cases ku e1
 cases ku e2
 exact⟨a,rfl,ha⟩
theorem qf{qs:List V}(hq:HeldL H (ps.map pD) qs):StepsAt K H qs ps:=by
 have hl:=hq.length;rw[am]at hl;refine⟨hl.symm,fun i hi=>?_⟩;obtain⟨v,e1,e2⟩:=hq.get (j:=i) (d:=pD ps[i]) (by rw[bA,aC hi];rfl);obtain⟨c,rfl,hc⟩:=jgg e2;exact⟨c,e1,SqT.of hc⟩
theorem yc(h:Held H (jdc b ps) v):RowAt K H v (b,ps):=by
 obtain⟨a,c,qs,rfl,ha,hb,hq⟩:=jeD h;exact⟨a,c,qs,rfl,SqT.of ha,SqT.of hb,qf hq⟩
theorem Yi{qs rY:List V}{eZ:List (Int×Int)}(h:PairsL K H qs ps)(h':PairsL K H rY eZ):PairsL K H (qs++rY) (ps++eZ):=by
 refine⟨by rw[aP,aP,h.1,h'.1],fun i hi=>?_⟩;rw[aP]at hi;by_cases c:i < ps.length
 .obtain⟨a,e1,e2⟩:=h.2 i c
  refine⟨a,?_,?_⟩
  .rw[EZ (by rw[h.1];exact c)];exact e1
  .rw[List.getElem_append_left c];exact e2
 .obtain⟨a,e1,e2⟩:=h'.2 (i - ps.length) (by omega)
  refine⟨a,?_,?_⟩
  .rw[rF (by rw[h.1];omega),h.1];exact e1
  .rw[List.getElem_append_right (by omega)];exact e2
theorem jax{qs:List V}(h:PairsL K H qs ps)(n:Nat):PairsL K H (qs.take n) (ps.take n):=by
 refine⟨by rw[a_,a_,h.1],fun i hi=>?_⟩;rw[a_]at hi;obtain⟨a,e1,e2⟩:=h.2 i (by omega);exact⟨a,by rw[PD,Qg (by omega)];exact e1,by rw[rE];exact e2⟩
theorem jay{qs:List V}(h:PairsL K H qs ps)(n:Nat):PairsL K H (qs.drop n) (ps.drop n):=by
 refine⟨by rw[gA,gA,h.1],fun i hi=>?_⟩;rw[gA]at hi;obtain⟨a,e1,e2⟩:=h.2 (n+i) (by omega);exact⟨a,by rw[List.getElem?_drop];exact e1,by rw[xW];exact e2⟩
theorem jbX{a b:aa}{x y x' y':Int}(h1:H a=some (.tup [.int x,.int y]))(h2:H b=some (.tup [.int x',.int y'])):PairsL K H [.ref a,.ref b] [(x,y),(x',y')]:=by
 refine⟨rfl,fun i hi=>?_⟩;match i,hi with
 | 0,_=>exact⟨a,rfl,SqT.of h1⟩
 | 1,_=>exact⟨b,rfl,SqT.of h2⟩
variable {G:Hp}{ys:List V}
theorem jbW{l:aa}{o:HO}{qs:List V}(hl:G l=some (.lst ys))(h:PairsL K G qs ps):PairsL K (upd G l o) qs ps:=⟨h.1,fun i hi=>by
 obtain⟨c,e1,e2⟩:=h.2 i hi;refine⟨c,e1,?_⟩;rcases e2 with (e2 | ⟨u,e2⟩) | e2
 .exact .inl (.inl (by rw[jl (j6 e2 hl (by intro z;cases z))];exact e2))
 .exact .inl (.inr ⟨u,by rw[jl (j6 e2 hl (by intro z;cases z))];exact e2⟩)
 .exact .inr e2⟩
abbrev jB:=Int×List (Int×Int)×List (Int×Int)
def jY(q:jB)(p:Int):Int:=q.2.2.foldl (fun f z=>if z.1=p then z.2 else f) (jz q.1 q.2.1 p)
theorem yO(b:Int)(ps ws:List (Int×Int))(p v z:Int):jY (b,ps,ws++[(p,v)]) z=if z=p then v else jY (b,ps,ws) z:=by
 unfold jY;dsimp only;rw[uf];show (if p=z then v else _)=_;by_cases h:p=z
 .rw[Qg h,Qg h.symm]
 .rw[Qf h,Qf (fun t=>h t.symm)]
def jR(L:List (Str×jB))(r:Str):jB:=(lkA L r).getD (0,[],[])
def RowIs(K:ai)(H:Hp)(q:jB)(v:V):Prop:=∃R,RowAt K H v (q.1,R)/\Canon q.1 R/\R.length<=40+2 * q.2.2.length/\∀z,jz q.1 R z=jY q z
theorem jbL{qs:List V}(t:TKF H H')(h:StepsAt K H qs ps):StepsAt K H' qs ps:=⟨h.1,fun i hi=>by
 obtain⟨c,e1,e2⟩:=h.2 i hi;exact⟨c,e1,t.sqT e2⟩⟩
theorem jeC{r:Int×List (Int×Int)}(t:TKF H H')(h:RowAt K H v r):RowAt K H' v r:=by
 obtain⟨a,b,qs,e1,e2,e3,e4⟩:=h.ex;exact⟨a,b,qs,e1,t.sqT e2,t.sqT e3,jbL t e4⟩
variable {q:jB}
theorem RowIs.tk(t:TKF H H')(h:RowIs K H q v):RowIs K H' q v:=by
 obtain⟨R,h1,h2⟩:=h;exact⟨R,jeC t h1,h2⟩
def RV(K:ai)(H:Hp)(n:Nat):List (Key×V)->List (Str×jB)->Prop
 | [],[]=>True
 | p :: r,q :: t=>(p.1=Sum.inr q.1/\RowIs K H q.2 p.2/\q.2.2.2.length<=n)/\RV K H n r t
 | _,_=>False
theorem RV.tk{K:ai}{H H':Hp}{n:Nat}(t:TKF H H'):∀{ao:List (Key×V)} {L:List (Str×jB)},RV K H n ao L->RV K H' n ao L
 | [],[],_=>trivial
 | _ :: _,_ :: _,⟨⟨h1,h2,h3⟩,h4⟩=>⟨⟨h1,h2.tk t,h3⟩,RV.tk t h4⟩
theorem RV.up{K:ai}{H:Hp}{n m:Nat}(hm:n<=m):∀{ao:List (Key×V)} {L:List (Str×jB)},RV K H n ao L->RV K H m ao L
 | [],[],_=>trivial
 | _ :: _,_ :: _,⟨⟨h1,h2,h3⟩,h4⟩=>⟨⟨h1,h2,aZ h3 hm⟩,RV.up hm h4⟩
theorem RV.len{K:ai}{H:Hp}{n:Nat}:∀{ao:List (Key×V)} {L:List (Str×jB)},RV K H n ao L->ao.length=L.length
 | [],[],_=>rfl
 | _ :: _,_ :: _,⟨_,h4⟩=>by rw[bi,bi,RV.len h4]
theorem RV.val{K:ai}{H:Hp}{n:Nat}(r:Str):∀{ao:List (Key×V)} {L:List (Str×jB)},RV K H n ao L->(kK ao (Sum.inr r)=none/\lkA L r=none)\/∃v q,kK ao (Sum.inr r)=some v/\lkA L r=some q/\RowIs K H q v/\q.2.2.length<=n
 | [],[],_=>.inl ⟨rfl,rfl⟩
 | p :: ao,q :: L,⟨⟨h1,h2,h3⟩,h4⟩=>by
  by_cases h:q.1=r
  .refine .inr ⟨p.2,q.2,kI (by rw[h1,h]),?_,h2,h3⟩
   unfold lkA;rw[g9,Qd h];rfl
  .have e1:kK (p :: ao) (Sum.inr r)=kK ao (Sum.inr r):=kJ (by rw[h1];exact fun z=>h (ix z))
   have e2:lkA (q :: L) r=lkA L r:=by
    unfold lkA;rw[g9,Qe h]
   rw[e1,e2];exact RV.val r h4
theorem RV.any{K:ai}{H:Hp}{n:Nat}(r:Str):∀{ao:List (Key×V)} {L:List (Str×jB)},RV K H n ao L->(ao.any fun kv=>decide (kv.1=(Sum.inr r:Key)))=L.any fun q=>decide (q.1=r)
 | [],[],_=>rfl
 | p :: ao,q :: L,⟨⟨h1,_,_⟩,h4⟩=>by rw[n_,n_,RV.any r h4,h1,J2]
theorem RV.snoc{K:ai}{H:Hp}{n:Nat}{r:Str}{v:V}{q:jB}(hq:RowIs K H q v)(hn:q.2.2.length<=n):∀{ao:List (Key×V)} {L:List (Str×jB)},RV K H n ao L->RV K H n (ao++[(Sum.inr r,v)]) (L++[(r,q)])
 | [],[],_=>⟨⟨rfl,hq,hn⟩,trivial⟩
 | _ :: _,_ :: _,⟨h1,h4⟩=>⟨h1,RV.snoc hq hn h4⟩
theorem RV.repl{K:ai}{H:Hp}{n:Nat}{r:Str}{v:V}{q:jB}(hq:RowIs K H q v)(hn:q.2.2.length<=n):∀{ao:List (Key×V)} {L:List (Str×jB)},RV K H n ao L->RV K H n (ao.map fun kv=>if kv.1=(Sum.inr r:Key) then (kv.1,v) else kv) (L.map fun z=>if z.1=r then (z.1,q) else z)
 | [],[],_=>trivial
 | p :: ao,z :: L,⟨⟨h1,h2,h3⟩,h4⟩=>by
  refine⟨?_,RV.repl hq hn h4⟩;dsimp only;by_cases h:z.1=r
  .rw[Qg h,Qg (by rw[h1,h])]
   exact⟨h1,hq,hn⟩
  .rw[Qf h,Qf (by rw[h1];exact fun t=>h (ix t))]
   exact⟨h1,h2,h3⟩
variable {r:Str}
theorem RV.put{ao:List (Key×V)}{L:List (Str×jB)}(h:RV K H n ao L)(hq:RowIs K H q v)(hn:q.2.2.length<=n):RV K H n (kW ao (Sum.inr r) v) (kM L r q):=by
 unfold kW kM;rw[h.any r];split
 .exact h.repl hq hn
 .exact h.snoc hq hn
inductive Tm where
 | is (x:Str) | at_ (r x:Str) (d:Int)
def plD(x:Str)(d:Int):D:=.tup [.str x,.int d]
def Tm.toD:Tm->D
 | .is x=>.tup [.str "is",.str x]
 | .at_ r x d=>.tup [.str "at",.str r,plD x d]
def Tm.val(N:List (Str×Int))(L:List (Str×jB)):Tm->Int
 | .is x=>kr N x
 | .at_ r x d=>jY (jR L r) (kr N x+d)
variable {x:Str}{d:Int}
theorem Jw(h:Held H (plD x d) v):∃a,v=.ref a/\H a=some (.tup [.str x,.int d]):=by
 obtain⟨a,xs,rfl,ha,h1⟩:=jD h;obtain⟨v1,r1,rfl,e1,h2⟩:=jg h1;obtain⟨v2,r2,rfl,e2,h3⟩:=jg h2
 cases jP h3
 cases jE e1
 cases ku e2
 exact⟨a,rfl,ha⟩
theorem jek(h:Held H (Tm.at_ r x d).toD v):∃a b,v=.ref a/\H a=some (.tup [.str "at",.str r,.ref b])/\H b=some (.tup [.str x,.int d]):=by
 obtain⟨a,xs,rfl,ha,h1⟩:=jD h;obtain⟨v1,r1,rfl,e1,h2⟩:=jg h1;obtain⟨v2,r2,rfl,e2,h3⟩:=jg h2;obtain⟨v3,r3,rfl,e3,h4⟩:=jg h3
 cases jP h4
 cases jE e1
 cases jE e2
 obtain⟨b,rfl,hb⟩:=Jw e3;exact⟨a,b,rfl,ha,hb⟩
inductive Rw where
 | set (x:Str) (t:Tm) (c:Int) | put (r x:Str) (d:Int) (t:Tm) (c:Int) | any (x:Str) | lose (r:Str)
def Rw.toD:Rw->D
 | .set x t c=>.tup [.str "set",.str x,t.toD,.int c]
 | .put r x d t c=>.tup [.str "put",.str r,plD x d,t.toD,.int c]
 | .any x=>.tup [.str "any",.str x]
 | .lose r=>.tup [.str "lose",.str r]
variable {c:Int}
theorem jbb{t:Tm}(h:Held H (Rw.set x t c).toD v):∃a u,v=.ref a/\H a=some (.tup [.str "set",.str x,u,.int c])/\Held H t.toD u:=by
 obtain⟨a,xs,rfl,ha,h1⟩:=jD h;obtain⟨v1,r1,rfl,e1,h2⟩:=jg h1;obtain⟨v2,r2,rfl,e2,h3⟩:=jg h2;obtain⟨v3,r3,rfl,e3,h4⟩:=jg h3;obtain⟨v4,r4,rfl,e4,h5⟩:=jg h4
 cases jP h5
 cases jE e1
 cases jE e2
 cases ku e4
 exact⟨a,v3,rfl,ha,e3⟩
theorem jbg{t:Tm}(h:Held H (Rw.put r x d t c).toD v):∃a b u,v=.ref a/\H a=some (.tup [.str "put",.str r,.ref b,u,.int c])/\H b=some (.tup [.str x,.int d])/\Held H t.toD u:=by
 obtain⟨a,xs,rfl,ha,h1⟩:=jD h;obtain⟨v1,r1,rfl,e1,h2⟩:=jg h1;obtain⟨v2,r2,rfl,e2,h3⟩:=jg h2;obtain⟨v3,r3,rfl,e3,h4⟩:=jg h3;obtain⟨v4,r4,rfl,e4,h5⟩:=jg h4;obtain⟨v5,r5,rfl,e5,h6⟩:=jg h5
 cases jP h6
 cases jE e1
 cases jE e2
 cases ku e5
 obtain⟨b,rfl,hb⟩:=Jw e3;exact⟨a,b,v4,rfl,ha,hb,e4⟩
inductive spNumber_at(vs:List V)(H:Hp)(Q:VK)(E:XK):Prop
 | mk (x:Str) (m:aa) (N:List (Str×Int)) (_:vs=[.str x,.ref m]) (_:H m=some (.dK (nKV N))) (_:Q (.int (kr N x)) H)
inductive spPlace_at(vs:List V)(H:Hp)(Q:VK)(E:XK):Prop
 | mk (a:aa) (x:Str) (d:Int) (m:aa) (N:List (Str×Int)) (_:vs=[.ref a,.ref m]) (_:H a=some (.tup [.str x,.int d])) (_:H m=some (.dK (nKV N))) (_:Q (.int (kr N x+d)) H)
inductive spRow_at(K:ai)(vs:List V)(H:Hp)(Q:VK)(E:XK):Prop
 | mk (r:Str) (n:aa) (k:Nat) (ao:List (Key×V)) (L:List (Str×jB)) (_:vs=[.str r,.ref n]) (_:H n=some (.dK ao)) (_:RV K H k ao L) (_:∀v R,RowAt K H v ((jR L r).1,R)->Canon (jR L r).1 R->R.length<=40+2 * (jR L r).2.2.length->(jR L r).2.2.length<=k->(∀z,jz (jR L r).1 R z=jY (jR L r) z)->Q v H)
inductive spTerm_at(K:ai)(vs:List V)(H:Hp)(Q:VK)(E:XK):Prop
 | mk (v:V) (t:Tm) (m n:aa) (k:Nat) (N:List (Str×Int)) (ao:List (Key×V)) (L:List (Str×jB)) (_:vs=[v,.ref m,.ref n]) (_:Held H t.toD v) (_:H m=some (.dK (nKV N))) (_:H n=some (.dK ao)) (_:RV K H k ao L) (_:k<=100) (_:Q (.int (t.val N L)) H)
structure Bare(K:ai)(mg:Str->Option ac):Prop where
 ex:∃ba eb:aa,mg "BARE_ROW" = some (.ref ba)/\(∀H,SqT K H ba [.int 0,.ref eb])/\∀H,SqT K H eb []
theorem jei{a b:aa}(h1:SqT K H a [.int 0,.ref b])(h2:SqT K H b []):RowAt K H (.ref a) (0,[]):=⟨a,b,[],rfl,h1,h2,rfl,fun i h=>absurd h (by simp)⟩
inductive Cl where
 | least (a b:Tm) (c:Int)
 | each (tx:Str) (td:Int) (ux:Str) (ud:Int) (r way kd x:Str) (c:Int)
 | rise (tx:Str) (td:Int) (ux:Str) (ud:Int) (r:Str)
def Cl.toD:Cl->D
 | .least a b c=>.tup [.str "least",a.toD,b.toD,.int c]
 | .each tx td ux ud r way kd x c=>.tup [.str "each",plD tx td,plD ux ud,.str r,.str way,.tup [.str kd,.str x],.int c]
 | .rise tx td ux ud r=>.tup [.str "rise",plD tx td,plD ux ud,.str r]
def bnd(way:Str)(v b:Int):Bool:=if way = ">=" then decide (b<=v) else decide (v<=b)
def K2(N:List (Str×Int))(L:List (Str×jB))(kd x:Str)(z:Int):Int:=if kd = "row" then jY (jR L x) z else kr N x
def Cl.Tru(N:List (Str×Int))(L:List (Str×jB)):Cl->Prop
 | .least a b c=>b.val N L+c<=a.val N L
 | .each tx td ux ud r way kd x c=>∀k,kr N tx+td<=k->k<=kr N ux+ud->bnd way (jY (jR L r) k) (K2 N L kd x k+c)=true
 | .rise tx td ux ud r=>∀k l,kr N tx+td<=k->k < l->l<=kr N ux+ud->jY (jR L r) k<=jY (jR L r) l
theorem J1{a b:Tm}(h:Held H (Cl.least a b c).toD v):∃p u w,v=.ref p/\H p=some (.tup [.str "least",u,w,.int c])/\Held H a.toD u/\Held H b.toD w:=by
 obtain⟨p,xs,rfl,ha,h1⟩:=jD h;obtain⟨v1,r1,rfl,e1,h2⟩:=jg h1;obtain⟨v2,r2,rfl,e2,h3⟩:=jg h2;obtain⟨v3,r3,rfl,e3,h4⟩:=jg h3;obtain⟨v4,r4,rfl,e4,h5⟩:=jg h4
 cases jP h5
 cases jE e1
 cases ku e4
 exact⟨p,v2,v3,rfl,ha,e2,e3⟩
theorem KF{tx ux way kd:Str}{td ud:Int}(h:Held H (Cl.each tx td ux ud r way kd x c).toD v):∃a b e o,v=.ref a/\H a=some (.tup [.str "each",.ref b,.ref e,.str r,.str way,.ref o,.int c])/\H b=some (.tup [.str tx,.int td])/\H e=some (.tup [.str ux,.int ud])/\H o=some (.tup [.str kd,.str x]):=by
 obtain⟨a,xs,rfl,ha,h1⟩:=jD h;obtain⟨v1,r1,rfl,e1,h2⟩:=jg h1;obtain⟨v2,r2,rfl,e2,h3⟩:=jg h2;obtain⟨v3,r3,rfl,e3,h4⟩:=jg h3;obtain⟨v4,r4,rfl,e4,h5⟩:=jg h4;obtain⟨v5,r5,rfl,e5,h6⟩:=jg h5;obtain⟨v6,r6,rfl,e6,h7⟩:=jg h6;obtain⟨v7,r7,rfl,e7,h8⟩:=jg h7
 cases jP h8
 cases jE e1
 cases jE e4
 cases jE e5
 cases ku e7
 obtain⟨b,rfl,hb⟩:=Jw e2;obtain⟨e,rfl,he⟩:=Jw e3;obtain⟨o,rfl,ho⟩:=jaO e6;exact⟨a,b,e,o,rfl,ha,hb,he,ho⟩
theorem YS{tx ux:Str}{td ud:Int}(h:Held H (Cl.rise tx td ux ud r).toD v):∃a b c,v=.ref a/\H a=some (.tup [.str "rise",.ref b,.ref c,.str r])/\H b=some (.tup [.str tx,.int td])/\H c=some (.tup [.str ux,.int ud]):=by
 obtain⟨a,xs,rfl,ha,h1⟩:=jD h;obtain⟨v1,r1,rfl,e1,h2⟩:=jg h1;obtain⟨v2,r2,rfl,e2,h3⟩:=jg h2;obtain⟨v3,r3,rfl,e3,h4⟩:=jg h3;obtain⟨v4,r4,rfl,e4,h5⟩:=jg h4
 cases jP h5
 cases jE e1
 cases jE e4
 obtain⟨b,rfl,hb⟩:=Jw e2;obtain⟨c,rfl,hc⟩:=Jw e3;exact⟨a,b,c,rfl,ha,hb,hc⟩
def Jl(t u:Int)(ps:List (Int×Int))(ns:List Int):Prop:=ns.Pairwise (· < ·)/\∀x,x∈ns↔(x=t\/x∈ps.map (·.1))/\t<=x/\x<=u
theorem jbm:∀{l:List Int},l≠[]->∃m∈l,∀x∈l,x<=m
 | [],h=>absurd rfl h
 | [a],_=>⟨a,bQ,fun x hx=>by rw[bu.mp hx];exact dz _⟩
 | a :: b :: l,_=>by
  obtain⟨m,h1,h2⟩:=jbm (l:=b :: l) (by simp);rcases Int.le_total a m with c | c
  .exact⟨m,bK _ h1,fun x hx=>by
    rcases bg.mp hx with rfl | hx
    .exact c
    .exact h2 x hx⟩
  .exact⟨a,bQ,fun x hx=>by
    rcases bg.mp hx with rfl | hx
    .exact dz _
    .exact P6 (h2 x hx) c⟩
variable {ns:List Int}
theorem Yn{t k:Int}(ht:t∈ns)(hk:t<=k):∃m∈ns,m<=k/\t<=m/\∀x∈ns,x<=k->x<=m:=by
 obtain⟨m,h1,h2⟩:=jbm (l:=ns.filter fun x=>decide (x<=k)) (by
  intro e;have:t∈ns.filter fun x=>decide (x<=k):=fI.mpr ⟨ht,Qd hk⟩
  rw[e]at this
  cases this)
 obtain⟨h3,h4⟩:=fI.mp h1;exact⟨m,h3,Qc h4,h2 t (fI.mpr ⟨ht,Qd hk⟩),fun x hx GG=>h2 x (fI.mpr ⟨hx,Qd GG⟩)⟩
variable {u:Int}
theorem Jv{t k:Int}(h:Jl t u ps ns)(h1:t<=k)(h2:k<=u):∃m∈ns,m<=k/\t<=m/\(∀x∈ns,x<=k->x<=m)/\∀y∈ps,¬(m < y.1/\y.1<=k):=by
 obtain⟨m,hm,a1,a2,a3⟩:=Yn ((h.2 t).mpr ⟨.inl rfl,dz _,by omega⟩) h1;refine⟨m,hm,a1,a2,a3,fun y hy c=>?_⟩;have:=a3 y.1 ((h.2 y.1).mpr ⟨.inr (bf.mpr ⟨y,hy,rfl⟩),by omega,by omega⟩) c.2;omega
def KD(way:Str)(c:Int)(f g:Int->Int)(ns:List Int):Bool:=ns.all fun k=>bnd way (f k) (g k+c)
theorem jd9{t:Int}{way:Str}{f g:Int->Int}(h:Jl t u ps ns)(hf:∀m k,m<=k->(∀y∈ps,¬(m < y.1/\y.1<=k))->f k=f m)(hg:∀m k,m<=k->(∀y∈ps,¬(m < y.1/\y.1<=k))->g k=g m):
  KD way c f g ns=true↔∀k,t<=k->k<=u->bnd way (f k) (g k+c)=true:=by
 unfold KD
 rw[lA]
 constructor
 .intro a k h1 h2
  obtain⟨m,hm,b1,_,_,b2⟩:=Jv h h1 h2
  rw[hf m k b1 b2,hg m k b1 b2]
  exact a m hm
 .intro a k hk
  obtain⟨_,h1,h2⟩:=(h.2 k).mp hk
  exact a k h1 h2
def YR(f:Int->Int)(ns:List Int):Bool:=decide ((ns.map f).Pairwise (·<=·))
theorem jbh{R:Int->Int->Prop}{l:List Int}(h:l.Pairwise R)(up:l.Pairwise (· < ·)){a:Int}(ha:a∈l)(hb:b∈l)(eR:a < b):R a b:=by
 obtain⟨i,hi,rfl⟩:=di.mp ha;obtain⟨j,hj,rfl⟩:=di.mp hb;rcases EN i j with c | c | c
 .exact ll.mp h i j hi hj c
 .subst c;omega
 .have:=ll.mp up j i hj hi c
  omega
theorem jdd{t:Int}{f:Int->Int}(h:Jl t u ps ns)(hf:∀m k,m<=k->(∀y∈ps,¬(m < y.1/\y.1<=k))->f k=f m):
  YR f ns=true↔∀k l,t<=k->k < l->l<=u->f k<=f l:=by
 unfold YR
 rw[decide_eq_true_iff,rD]
 constructor
 .intro a k l h1 h2 h3
  obtain⟨m,hm,b1,b2,b3,b4⟩:=Jv h h1 (by omega)
  obtain⟨n,hn,c1,c2,c3,c4⟩:=Jv h (show t<=l by omega) h3
  rw[hf m k b1 b4,hf n l c1 c4]
  have lR:=c3 m hm (by omega)
  rcases P4 lR with c | c
  .exact jbh a h.1 hm hn c
  .rw[c];exact dz _
 .intro a
  refine E9 (R:=(· < ·)) (fun {x y} hx hy uN=>?_) h.1
  obtain⟨_,h1,h2⟩:=(h.2 x).mp hx
  obtain⟨_,h3,h4⟩:=(h.2 y).mp hy
  exact a x y h1 uN h4
abbrev zS(rs:List (Int×List (Int×Int))):List (Int×Int):=rs.flatMap (·.2)
def RowsIn(K:ai)(H:Hp)(hs:List V)(rs:List (Int×List (Int×Int))):Prop:=∀i (hi:i < rs.length),∃v,hs[i]?=some v/\RowAt K H v rs[i]
variable {rs:List (Int×List (Int×Int))}
theorem RowsIn.mono{hs:List V}(e:Same H H')(h:RowsIn K H hs rs):RowsIn K H' hs rs:=fun i hi=>by
 obtain⟨v,e1,e2⟩:=h i hi;exact⟨v,e1,e2.mono e⟩
theorem y6{l:aa}{zs:List V}(h:G l=some (.lst ys)){c:aa}{xs:List V}(z:SqT K G c xs):SqT K (upd G l (.lst zs)) c xs:=by
 rcases z with (z | ⟨o,z⟩) | z
 .exact .inl (.inl (by rw[jl (j6 z h (by intro z;cases z))];exact z))
 .exact .inl (.inr ⟨o,by rw[jl (j6 z h (by intro z;cases z))];exact z⟩)
 .exact .inr z
theorem RowsIn.upd{l:aa}{zs:List V}{hs:List V}(e:G l=some (.lst ys))(h:RowsIn K G hs rs):RowsIn K (L2.upd G l (.lst zs)) hs rs:=fun i hi=>by
 obtain⟨v,e1,e2⟩:=h i hi;obtain⟨a,b,qs,e3,e4,e5,e6,e7⟩:=e2.ex;refine⟨v,e1,a,b,qs,e3,y6 e e4,y6 e e5,e6,fun j hj=>?_⟩;obtain⟨c,f1,f2⟩:=e7 j hj;exact⟨c,f1,y6 e f2⟩
theorem jcA(hi:i < rs.length):zS (rs.take (i+1))=zS (rs.take i)++rs[i].2:=by
 unfold zS;rw[cq,aC hi,xY];simp
theorem jfv(i:Nat):(zS (rs.take i)).length<=(zS rs).length:=by
 have e:zS rs=zS (rs.take i)++zS (rs.drop i):=by
  unfold zS;rw[<- xY,mH]
 rw[e,aP];omega
def kA(ps pl:List (Int×Int)):List Int:=ps.map (·.1)++pl.flatMap fun q=>[q.1,q.1+1]
theorem yl{pl:List (Int×Int)}{x:Int}:x∈kA ps pl↔(∃z∈ps,z.1=x)\/∃z∈pl,z.1=x\/z.1+1=x:=by
 unfold kA;rw[cZ,bf,ub];refine or_congr Iff.rfl ⟨fun⟨z,h1,h2⟩=>⟨z,h1,?_⟩,fun⟨z,h1,h2⟩=>⟨z,h1,?_⟩⟩
 .rcases bg.mp h2 with h | h
  .exact .inl h.symm
  .exact .inr (bu.mp h).symm
 .rcases h2 with h | h
  .rw[<- h];exact bQ
  .rw[<- h];exact bK _ bQ
theorem jbe:∀{R:List (Int×Int)} {b:Int},kg R->Kt b R->∀y∈R,jz b R (y.1 - 1)≠jz b R y.1
 | [],_,_,_,y,hy=>by cases hy
 | x :: r,b,up,no,y,hy=>by
  obtain⟨h1,h2⟩:=qJ up;rw[kj,kj];rcases bg.mp hy with rfl | hy
  .rw[Qf (by omega),Qg (dz _),ki (fun q hq c=>by have:=h2 q hq;omega),ki (fun q hq c=>by have:=h2 q hq;omega)]
   exact fun z=>no.1 z.symm
  .have:=h2 y hy
   rw[Qg (by omega),Qg (by omega)];exact jbe h1 no.2 y hy
theorem yN{p:Int}:∀{ps:List (Int×Int)} {b:Int},(∀z∈ps,z.1≠p)->jz b ps (p - 1)=jz b ps p
 | [],_,_=>rfl
 | x :: r,b,h=>by
  rw[kj,kj];have h1:=h x bQ;by_cases c:x.1<=p
  .rw[Qg c,Qg (by omega)]
   exact yN fun z hz=>h z (bK _ hz)
  .rw[Qf c,Qf (by omega)]
   exact yN fun z hz=>h z (bK _ hz)
theorem Zm{p:Int}:∀{ws:List (Int×Int)} {a b:Int},a=b->(∀z∈ws,z.1≠p/\z.1+1≠p)->ws.foldl (fun f z=>if z.1=p - 1 then z.2 else f) a=ws.foldl (fun f z=>if z.1=p then z.2 else f) b
 | [],_,_,e,_=>e
 | x :: r,a,b,e,h=>by
  have h1:=h x bQ;rw[ue,ue,Qf (by omega),Qf (by omega)];exact Zm e fun z hz=>h z (bK _ hz)
theorem yU{R:List (Int×Int)}(c:Canon q.1 R)(h:∀z,jz q.1 R z=jY q z){y:Int×Int}(hy:y∈R):y.1∈kA q.2.1 q.2.2:=by
 refine Classical.byContradiction fun n=>jbe c.up c.no y hy ?_
 rw[h,h];refine Zm (yN fun z hz e=>n (yl.mpr (.inl ⟨z,hz,e⟩))) fun z hz=>⟨fun e=>n (yl.mpr (.inr ⟨z,hz,.inl e⟩)),fun e=>n (yl.mpr (.inr ⟨z,hz,.inr e⟩))⟩
theorem jdM:∀{l S:List Int},l.Nodup->(∀x∈l,x∈S)->l.length<=S.length
 | [],_,_,_=>bE _
 | x :: l,S,nd,h=>by
  have h1:=gz.mp nd;have hx:=h x bQ;have:=jdM (S:=S.erase x) h1.2 fun y hy=>(List.mem_erase_of_ne (fun e=>h1.1 (by rw[<- e];exact hy))).mpr (h y (bK _ hy))
  rw[List.length_erase_of_mem hx]at this;have:=List.length_pos_of_mem hx;rw[bi];omega
def Fit(L:List (Str×jB)):Prop:=∀r r',∃S:List Int,S.length<=62/\∀x,x∈kA (jR L r).2.1 (jR L r).2.2\/x∈kA (jR L r').2.1 (jR L r').2.2->x∈S
theorem jfR{t:Int}{l S:List Int}(h:S.length<=62)(hs:∀x∈l,x∈S):(dedup (t :: l)).length<=63:=by
 obtain⟨d1,_,d3⟩:=zg (t :: l);refine aZ (jdM (S:=t :: S) d1 fun x hx=>?_) (by rw[bi];omega);rcases bg.mp ((d3 x).mp hx) with h | h
 .rw[h];exact bQ
 .exact bK _ (hs x h)
inductive spPlaces(K:ai)(vs:List V)(H:Hp)(Q:VK)(E:XK):Prop
 | mk (t u:Int) (h:aa) (hs:List V) (rs:List (Int×List (Int×Int))) (_:vs=[.int t,.int u,.ref h]) (_:H h=some (.lst hs)) (_:hs.length=rs.length) (_:RowsIn K H hs rs) (_:(zS rs).length<=600) (_:(∃S:List Int,S.length<=62/\∀y∈zS rs,y.1∈S)) (_:∀l ns H',Same H H'->H' l=some (.lst (ns.map V.int))->Jl t u (zS rs) ns->ns.length<=63->Q (.ref l) H')
theorem yg(h:ns.Pairwise (·<=·))(n:ns.Nodup):ns.Pairwise (· < ·):=(h.and n).imp fun h=>by
 have:=h.1;have:=h.2;omega
inductive spBounded(vs:List V)(H:Hp)(Q:VK)(E:XK):Prop
 | mk (v b:Int) (way:Str) (_:vs=[.int v,.str way,.int b]) (_:Q (.bl (bnd way v b)) H)
inductive spCompared(K:ai)(vs:List V)(H:Hp)(Q:VK)(E:XK):Prop
 | mk (o m n:aa) (kd x:Str) (i:Nat) (N:List (Str×Int)) (ao:List (Key×V)) (L:List (Str×jB)) (_:vs=[.ref o,.ref m,.ref n]) (_:H o=some (.tup [.str kd,.str x])) (_:H m=some (.dK (nKV N))) (_:H n=some (.dK ao)) (_:RV K H i ao L) (_:i<=100) (_:∀v b R H',Same H H'->RowAt K H' v (b,R)->Canon b R->R.length<=240->(∀y∈R,y.1∈kA (jR L x).2.1 (jR L x).2.2)->(∀z,jz b R z=K2 N L kd x z)->Q v H')
inductive spHoldsP(ok:Cl->Prop)(K:ai)(vs:List V)(H:Hp)(Q:VK)(E:XK):Prop
 | mk (v:V) (C:Cl) (m n:aa) (i:Nat) (N:List (Str×Int)) (ao:List (Key×V)) (L:List (Str×jB)) (_:vs=[v,.ref m,.ref n]) (_:Held H C.toD v) (_:ok C) (_:H m=some (.dK (nKV N))) (_:H n=some (.dK ao)) (_:RV K H i ao L) (_:i<=100) (_:Fit L) (_:∀b H',Same H H'->(b=true↔C.Tru N L)->Q (.bl b) H')
def jhf:Cl->Prop | .least ..=>True | _=>False
def jhg:Cl->Prop | .each ..=>True | _=>False
def jhe:Cl->Prop | .rise ..=>True | _=>False
def top(i:Nat):au:=PySem.Challenge.pw_outlineward_k71_procedures_gone_through.main.body.getD i (.Pass ⟨0,0,0,0⟩)
abbrev YL:au:=top 1
abbrev jat:au:=top 2
abbrev Kg:au:=top 3
abbrev zI:au:=top 4
variable {f:aa}{fd:aH}
section
variable {P:av}
theorem jdB(F:Fun K "steps_up_to" "steps_up_to" zI f fd)(B:Free0 mg):FnOk P w K mg base CX0 1 f fd ["steps","p"] (spUpTo K):=by
 have sc:FnScope ["steps","p","low","high","middle"] ["steps","p"] (jn zI):=fQ;refine F.ok sc (fun vs H Q E h=>?_) (fun az A outer s H vs Q E hr h=>?_)
 .obtain⟨b,p,qs,ps,rfl,_⟩:=h
  rfl
 obtain⟨b,p,qs,ps,rfl,hb,hq,hR,hl,q⟩:=h;refine⟨_,(jm (jH (i:=2) sc.nd rfl oQ je)
   (jm (jH (i:=3) sc.nd rfl oQ (qP kl (by rfl) B.len_ zi (jk (pv 0) ji)))
   (jm (ZC dS (jW Kr (pv 2) (pv 3) (ju _)) (jm (jH (i:=4) sc.nd rfl oQ (jr jS (jr jU (pv 2) (pv 3)) je))
   (js (kB (jW zV (jx jq (jx jq (pv 0) (pv 4) (fun _ _=>rfl)) je (fun _ _=>rfl)) (pv 1) (ju _)) (js (jH (i:=2) sc.nd rfl oQ (jr jU (pv 4) je))) (js (jH (i:=3) sc.nd rfl oQ (pv 4)))))))
   (js (jN (pv 2)))))),?_⟩
 refine⟨_,rfl,b,_,rfl,.inr hb,?_⟩;have bd:=hq.1;refine jcQ (fun σ H1=>∃(lo hi:Nat) (v:Option V),σ=[some (.ref b),some (.int p),some (.int lo),some (.int hi),v]/\H1=H/\lo<=hi/\hi<=ps.length/\(∀i (h:i < ps.length),i < lo->ps[i].1<=p)/\∀i (h:i < ps.length),hi<=i->p < ps[i].1)
  (fun σ _=>match σ with | [_,_,some (.int lo),some (.int hi),_]=>(hi - lo).toNat | _=>0) ?_ ?_ ?_
 .exact⟨0,ps.length,none,by rw[bd];rfl,rfl,bE _,ay _,fun i _ h=>by omega,fun i h h'=>by omega⟩
 .rintro σ H1 ⟨lo,hi,v,rfl,rfl,h1,h2,h3,h4⟩
  refine⟨_,rfl,_,rfl,_,_,rfl,rfl,_,rfl,?_⟩;refine j7 (fun c=>?_) (fun c=>?_)
  .have c':lo < hi:=by
    have:=Qc c;omega
   have hm:(((lo:Int)+(hi:Int)) / 2)=(((lo+hi) / 2:Nat):Int):=by omega
   refine⟨_,rfl,_,rfl,_,_,rfl,rfl,_,_,rfl,rfl,⟨by decide,by decide⟩,?_⟩;dsimp only;rw[hm];have vd:(lo+hi) / 2 < ps.length:=by omega
   generalize hg:(lo+hi) / 2=cK at *;obtain⟨c1,e1,e2⟩:=hq.2 cK vd;refine⟨_,rfl,_,rfl,b,_,_,_,rfl,rfl,hb,qG e1,c1,_,_,_,rfl,rfl,e2,rfl,_,rfl,_,_,rfl,rfl,_,rfl,?_⟩;refine j7 (fun d=>?_) (fun d=>?_)
   .have d':=Qc d
    refine⟨_,rfl,_,_,rfl,rfl,⟨cK+1,hi,_,rfl,rfl,by omega,h2,fun i cM aG=>?_,h4⟩,?_⟩
    .exact P6 (Yh hR cM vd (by omega)) d'
    .show ((hi:Int) - ((cK:Int)+1)).toNat < ((hi:Int) - (lo:Int)).toNat
     omega
   .have d':p < ps[cK].1:=by
     have:¬ps[cK].1<=p:=fun z=>d (Qd z)
     omega
    refine⟨_,rfl,⟨lo,cK,_,rfl,rfl,by omega,by omega,h3,fun i cM aG=>?_⟩,?_⟩
    .exact Int.lt_of_lt_of_le d' (Yh hR vd cM aG)
    .show ((cK:Int) - (lo:Int)).toNat < ((hi:Int) - (lo:Int)).toNat
     omega
  .have c':¬lo < hi:=fun z=>c (Qd (by omega))
   refine⟨_,rfl,q lo ⟨by omega,h3,fun i h h'=>h4 i h (by omega)⟩⟩
 .intro σ H1 Q1 Q2 hm h
  obtain⟨v1,e1,v2,e2,i,j,e3,e4,k,e5,h⟩:=h;exact⟨v1,e1,v2,e2,i,j,e3,e4,k,e5,hm _ _ h⟩
theorem jdG(F:Fun K "entry" "entry" jat f fd)(mn:Fn P w K mg base 1 "steps_up_to" ["steps","p"] (spUpTo K)):FnOk P w K mg base CX0 2 f fd ["row","p"] (spEntry K):=by
 have sc:FnScope ["row","p","base","steps","count"] ["row","p"] (jn jat):=fQ;refine F.ok sc (fun vs H Q E h=>?_) (fun az A outer s H vs Q E hr h=>?_)
 .obtain⟨v,p,r,rfl,_⟩:=h
  rfl
 obtain⟨v,p,r,rfl,hv,⟨hR,hl⟩,q⟩:=h;obtain⟨a,b,qs,rfl,ha,hb,hq⟩:=hv.ex;refine⟨_,(jm (yK (pv 0) (qA rfl (jI (jA (i:=2) sc.nd rfl oQ) (jI (jA (i:=3) sc.nd rfl oQ) kE))))
   (jm (jH (i:=4) sc.nd rfl oQ (jV mn hr (jk (pv 3) (jk (pv 1) ji))))
   (jm (kB (jW j5 (pv 4) je (ju _)) (js (jN (pv 2))) j4)
   (js (jN (jx jq (jx jq (pv 3) (jr kO (pv 4) je) (fun _ _=>rfl)) je (fun _ _=>rfl))))))),?_⟩
 refine⟨_,rfl,a,_,rfl,ha,rfl,_,_,rfl,_,_,rfl,rfl,?_⟩;refine⟨_,rfl,_,rfl,b,p,qs,r.2,rfl,hb,hq,hR,hl,fun c hc=>?_⟩;rw[jd1 hc]at q;refine⟨_,rfl,rfl,_,rfl,j7 (fun d=>?_) (fun d=>?_)⟩
 .have d':c=0:=by
   have:=Qc d;injection this with this;omega
  rw[Qg d']at q;exact⟨_,rfl,q⟩
 .have d':¬c=0:=fun z=>d (Qd (by rw[z];rfl))
  rw[Qf d']at q;have aG:c - 1 < r.2.length:=by have:=hc.1;omega
  obtain⟨c1,e1,e2⟩:=hq.2 (c - 1) aG;have ei:((c:Int) - 1)=((c - 1:Nat):Int):=by omega
  rw[eK,aC aG]at q;refine⟨_,rfl,_,rfl,_,_,rfl,rfl,b,_,_,_,rfl,rfl,hb,(by rw[ei];exact qG e1),c1,_,_,_,rfl,rfl,e2,rfl,?_⟩;exact q
theorem jbY(F:Fun K "stairs" "stairs" YL f fd)(B:Free0 mg):FnOk P w K mg base CX0 1 f fd ["base","pairs"] (spStairs K):=by
 have sc:FnScope ["base","pairs","steps","ahead","place","value"] ["base","pairs"] (jn YL):=fQ;refine F.ok sc (fun vs H Q E h=>?_) (fun az A outer s H vs Q E hr h=>?_)
 .obtain⟨b,p,qs,ps,rfl,_⟩:=h
  rfl
 obtain⟨b,p,iM,cJ,rfl,hp,hq,hR,wb,q⟩:=h;refine⟨_,(jm (jH (i:=2) sc.nd rfl oQ (ko ji))
   (jm (jH (i:=3) sc.nd rfl oQ (pv 0))
   (jm (zd dS rfl (qe (qP yV (by rfl) B.sorted_ qW (jk (pv 1) ji))) (qA rfl (jI (jA (i:=4) sc.nd rfl oQ) (jI (jA (i:=5) sc.nd rfl oQ) kE))) (js (kB (jW jfL (pv 5) (pv 3) (ju _)) (jm (qD (ye eU mD mC kR (pv 2) (jk (j0 (jk (pv 4) (jk (pv 5) ji))) ji)))
   (js (jH (i:=3) sc.nd rfl oQ (pv 5)))) j4)))
   (js (jN (j0 (jk (pv 0) (jk (zw qF (by rfl) B.tuple_ ym (jk (pv 2) ji)) ji)))))))),?_⟩
 refine⟨sm rfl,fun l hl=>?_⟩;have s1:=jb hl (.lst []);have e1:upd H l (.lst []) l=some (.lst []):=ja;generalize upd H l (.lst [])=H1 at *;refine⟨_,rfl,?_⟩;refine⟨_,rfl,p,iM,cJ,rfl,s1.seq hp,hq.mono s1,hR,wb,fun l2 aQ=>?_⟩;have gL:=hq.mono s1;have s2:=jb aQ (.lst iM);have e2:upd H1 l2 (.lst iM) l2=some (.lst iM):=ja;have FV:l2≠l:=(jo e1 aQ).symm;have sC:=gL.mono s2;generalize upd H1 l2 (.lst iM)=H2 at *;have Iz:H2 l=some (.lst []):=s2 _ _ e1;have bc:=s1.trans s2;have bd:=sC.1;refine⟨l2,rfl,⟨_,SqL.of e2⟩,yj (xs:=iM) (fun i σ G=>∃u v xs,σ=[some (.int b),some (.ref p),some (.ref l),some (.int (stN b (cJ.take i)).1),u,v]/\Same H G/\PairsL K G iM cJ/\G l2=some (.lst iM)/\G l=some (.lst xs)/\HeldL G ((stN b (cJ.take i)).2.map pD) xs) ⟨none,none,[],rfl,bc,sC,e2,Iz,jp⟩ ?_ ?_ ?_⟩
 .rintro i σ G _ ⟨u,v,xs,rfl,sG,o7,pO,bZ,hx⟩
  exact SqL.of pO
 .rintro i x σ G hx ⟨u,v,xs,rfl,sG,o7,pO,bZ,aY⟩
  have hi:i < cJ.length:=by
   rw[<- bd];exact (aV.mp hx).1
  obtain⟨c,f1,f2⟩:=o7.2 i hi;rw[hx]at f1
  cases f1
  have cj:=jc3 (base:=b) hi;have fT:(stN b (cJ.take i)).2.length<=i:=by
   have:=JV b (cJ.take i);rw[a_]at this;omega
  generalize stN b (cJ.take i)=ST at *;obtain⟨ah,st⟩:=ST;dsimp only at *;refine⟨c,_,rfl,f2,rfl,_,_,rfl,_,_,rfl,rfl,?_⟩;refine⟨_,rfl,_,rfl,rfl,_,rfl,?_⟩;by_cases hva:cJ[i].2=ah
  .rw[Qg hva]at cj
   rw[hva,Qd rfl];refine kT ?_;exact⟨some (.int cJ[i].1),some (.int ah),xs,by rw[cj,<- hva];rfl,sG,o7,pO,bZ,by rw[cj];exact aY⟩
  .rw[Qf hva]at cj
   rw[Qe (fun z=>hva (by injection z))];refine kL ?_;refine⟨_,rfl,.inl ⟨rfl,_,SqL.of bZ⟩,_,rfl,_,rfl,sm rfl,fun t ht=>?_⟩;have s3:=jb ht (.tup [V.int cJ[i].1,V.int cJ[i].2]);have e3:upd G t (.tup [V.int cJ[i].1,V.int cJ[i].2]) t=some (.tup [V.int cJ[i].1,V.int cJ[i].2]):=ja;have Hq:=o7.mono s3;generalize upd G t (.tup [V.int cJ[i].1,V.int cJ[i].2])=G1 at *;have oR:=aY.length;rw[am]at oR;refine⟨l,_,_,rfl,rfl,s3 _ _ bZ,jw (by omega),?_⟩;have tk:TK G1 (upd G1 l (.lst (xs++[.ref t]))):=TK.upd (s3 _ _ bZ) (by intro xs z;cases z);refine⟨_,rfl,some (.int cJ[i].1),some (.int cJ[i].2),xs++[.ref t],by rw[cj];rfl,?_,?_,?_,ja,?_⟩
   .intro c o e
    rw[jl (jo e hl)];exact s3 _ _ (sG _ _ e)
   .exact jbW (s3 _ _ bZ) Hq
   .rw[jl FV]
    exact s3 _ _ pO
   .rw[cj,aX]
    exact qg (tk.heldL (aY.mono s3)) (tk.held (jv e3 (jc jT (jc jT jp))))
 .rintro σ G ⟨u,v,xs,rfl,sG,o7,pO,bZ,aY⟩
  rw[bd,ce]at aY;refine⟨_,rfl,_,rfl,l,_,rfl,.inl ⟨SqL.of bZ,fun t ht=>?_⟩⟩;have s3:=jb ht (.tup xs);have e3:upd G t (.tup xs) t=some (.tup xs):=ja;generalize upd G t (.tup xs)=G1 at *;refine⟨sm rfl,fun r fU=>?_⟩;have s4:=jb fU (.tup [V.int b,V.ref t]);exact q _ _ (sG.trans (s3.trans s4)) (jv ja (jc jT (jc (jv (s4 _ _ e3) (aY.mono (s3.trans s4))) jp)))
theorem jaB(F:Fun K "written" "written" Kg f fd)(B:Free0 mg)(mn:Fn P w K mg base 1 "steps_up_to" ["steps","p"] (spUpTo K))(eT:Fn P w K mg base 2 "entry" ["row","p"] (spEntry K))(nH:Fn P w K mg base 1 "stairs" ["base","pairs"] (spStairs K)):FnOk P w K mg base CX0 3 f fd ["row","p","v"] (spWritten K):=by
 have sc:FnScope ["row","p","v","base","steps","ahead","behind"] ["row","p","v"] (jn Kg):=fQ;refine F.ok sc (fun vs H Q E h=>?_) (fun az A outer s H vs Q E hr h=>?_)
 .obtain⟨v,p,x,b,ps,rfl,_⟩:=h
  rfl
 obtain⟨v,p,x,b,ps,rfl,hv,hR,hl,q⟩:=h;have db:=hv;obtain⟨a,c,qs,rfl,ha,hc,hS⟩:=hv.ex;dsimp only at ha hS;have A_:qs.length=ps.length:=hS.1;refine⟨_,(jm (yK (pv 0) (qA rfl (jI (jA (i:=3) sc.nd rfl oQ) (jI (jA (i:=4) sc.nd rfl oQ) kE))))
   (jm (jH (i:=5) sc.nd rfl oQ (zw qy (by rfl) B.list_ Jj (jk (qt jba (pv 4) qT (qS (jV mn hr (jk (pv 4) (jk (jr kO (pv 1) je) ji))))) ji)))
   (jm (jH (i:=6) sc.nd rfl oQ (zw qy (by rfl) B.list_ Jj (jk (qt jba (pv 4) (qS (jV mn hr (jk (pv 4) (jk (jr jU (pv 1) je) ji)))) qT) ji)))
   (js (jN (jV nH hr (jk (pv 3) (jk (jr JI (jr JI (pv 5) (ko (jk (j0 (jk (pv 1) (jk (pv 2) ji))) (jk (j0 (jk (jr jU (pv 1) je) (jk (jV eT hr (jk (pv 0) (jk (jr jU (pv 1) je) ji))) ji))) ji)))) (pv 6)) ji)))))))),?_⟩
 refine⟨_,rfl,a,_,rfl,ha,rfl,_,_,rfl,_,_,rfl,rfl,?_⟩;refine⟨_,rfl,_,rfl,_,rfl,_,_,rfl,rfl,c,p - 1,qs,ps,rfl,hc,hS,hR,by omega,fun c1 lZ=>?_⟩;refine⟨_,rfl,c,qs,rfl,hc,fun t1 H1 s1 cL=>?_⟩;have e1:kN qs none (some (c1:Int))=qs.take c1:=by
  unfold kN;rw[HT.sIx_none,HT.sIx_nat,E5,xN,xO (by rw[A_];exact lZ.1)]
 rw[e1]at cL;refine⟨t1,_,rfl,.inr cL,fun l1 aT=>?_⟩;have s2:=jb aT (.lst (qs.take c1));have e2:upd H1 l1 (.lst (qs.take c1)) l1=some (.lst (qs.take c1)):=ja;generalize upd H1 l1 (.lst (qs.take c1))=H2 at *;have bL:=s1.trans s2;refine⟨_,rfl,_,rfl,_,rfl,_,_,rfl,rfl,c,p+1,qs,ps,rfl,bL.sqT hc,hS.mono bL,hR,by omega,fun c2 f_=>?_⟩;refine⟨_,rfl,c,qs,rfl,bL.sqT hc,fun t3 H3 s3 sv=>?_⟩;have e3:kN qs (some (c2:Int)) none=qs.drop c2:=by
  unfold kN;rw[HT.sIx_none,HT.sIx_nat,xO (by rw[A_];exact f_.1),iH (by rw[gA];omega)]
 rw[e3]at sv;refine⟨t3,_,rfl,.inr sv,fun l4 du=>?_⟩;have s4:=jb du (.lst (qs.drop c2));have e4:upd H3 l4 (.lst (qs.drop c2)) l4=some (.lst (qs.drop c2)):=ja;generalize upd H3 l4 (.lst (qs.drop c2))=H4 at *;have dZ:=s3.trans s4;have oz:=bL.trans dZ;refine⟨_,rfl,_,rfl,_,rfl,_,rfl,sm rfl,fun t5 fR=>?_⟩;have s5:=jb fR (.tup [V.int p,V.int x]);have e5:upd H4 t5 (.tup [V.int p,V.int x]) t5=some (.tup [V.int p,V.int x]):=ja;generalize upd H4 t5 (.tup [V.int p,V.int x])=H5 at *;have rX:=oz.trans s5;refine⟨_,rfl,_,_,rfl,rfl,_,rfl,_,rfl,_,_,rfl,rfl,.ref a,p+1,(b,ps),rfl,db.mono rX,⟨hR,by show ps.length<=600;omega⟩,?_⟩;refine⟨sm rfl,fun t6 uY=>?_⟩;have s6:=jb uY (.tup [V.int (p+1),V.int (jz b ps (p+1))]);have e6:upd H5 t6 (.tup [V.int (p+1),V.int (jz b ps (p+1))]) t6=some (.tup [V.int (p+1),V.int (jz b ps (p+1))]):=ja;generalize upd H5 t6 (.tup [V.int (p+1),V.int (jz b ps (p+1))])=H6 at *;refine⟨sm rfl,fun l7 Ix=>?_⟩;have s7:=jb Ix (.lst [V.ref t5,V.ref t6]);have e7:upd H6 l7 (.lst [V.ref t5,V.ref t6]) l7=some (.lst [V.ref t5,V.ref t6]):=ja;generalize upd H6 l7 (.lst [V.ref t5,V.ref t6])=H7 at *;have uv:=s5.trans (s6.trans s7);have FB:=oz.trans uv;have hc1l:=lZ.1;have hc2l:=f_.1;refine⟨l1,l7,_,_,rfl,rfl,SqL.of (uv _ _ (dZ _ _ e2)),SqL.of e7,Kd (by rw[a_];simp only[bi,lv];omega),fun l8 pk=>?_⟩;have s8:=jb pk (.lst (qs.take c1++[V.ref t5,V.ref t6]));have e8:upd H7 l8 (.lst (qs.take c1++[V.ref t5,V.ref t6])) l8=some (.lst (qs.take c1++[V.ref t5,V.ref t6])):=ja;generalize upd H7 l8 (.lst (qs.take c1++[V.ref t5,V.ref t6]))=H8 at *;have Fz:=uv.trans s8;refine⟨_,rfl,l8,l4,_,_,rfl,rfl,SqL.of e8,SqL.of (Fz _ _ e4),Kd (by rw[aP,a_,gA];simp only[bi,lv];omega),fun l9 vo=>?_⟩;have s9:=jb vo (.lst (qs.take c1++[V.ref t5,V.ref t6]++qs.drop c2));have e9:upd H8 l9 (.lst (qs.take c1++[V.ref t5,V.ref t6]++qs.drop c2)) l9=some (.lst (qs.take c1++[V.ref t5,V.ref t6]++qs.drop c2)):=ja;generalize upd H8 l9 (.lst (qs.take c1++[V.ref t5,V.ref t6]++qs.drop c2))=H9 at *;have uu:=s8.trans s9;have uw:=FB.trans uu;have fe:=jgQ (b:=b) (v:=x) hR lZ f_;have sJ:=jfT (b:=b) (v:=x) lZ f_;have hP:PairsL K H9 (qs.take c1++[V.ref t5,V.ref t6]++qs.drop c2) (wrN b ps c1 c2 p x):=Yi (Yi (jax (hS.mono uw) c1) (jbX ((s6.trans (s7.trans uu)) _ _ e5) ((s7.trans uu) _ _ e6))) (jay (hS.mono uw) c2);refine⟨b,l9,_,_,rfl,SqL.of e9,hP,fe,by omega,fun r H' sH fU=>?_⟩;refine q _ r H' (uw.trans sH) (jab b fe) (fun z=>?_) ?_ fU
 .rw[jbq b _ fe,jeu lZ f_]
 .exact aZ (JV b _) sJ
end
abbrev Js:au:=top 7
abbrev Kh:au:=top 8
abbrev yJ:au:=top 10
abbrev YM:au:=top 11
section
variable {P:av}
theorem YW(F:Fun K "number_at" "number_at" yJ f fd):FnOk P w K mg base CX0 1 f fd ["x","numbers"] spNumber_at:=by
 have sc:FnScope ["x","numbers"] ["x","numbers"] (jn yJ):=fQ;refine F.ok sc (fun vs H Q E h=>?_) (fun az A outer s H vs Q E hr h=>?_)
 .obtain⟨x,m,N,rfl,_⟩:=h
  rfl
 obtain⟨x,m,N,rfl,hm,q⟩:=h;have hu:=qO hr;refine⟨_,(jm (kB (jW j5 (pv 0) kc (ju _)) (js (jN je)) j4)
   (js (jN (qM hu (pv 1) (pv 0) je ⟨rfl,rfl,rfl,rfl⟩)))),?_⟩
 unfold kr at q;refine⟨_,rfl,rfl,_,rfl,j7 (fun c=>?_) (fun c=>?_)⟩
 .have c':x = "":=by
   have:=Qc c;injection this
  rw[Qg c']at q;exact q
 .rw[Qf (fun e=>c (Qd (Qi V.str e)))]at q
  refine⟨_,rfl,m,rfl,.inl ⟨_,.inl hm⟩,_,rfl,_,DGet.k (k:=Sum.inr x) hm,?_⟩;rw[JY]
  cases e:lkA N x with
  | none=>rw[e]at q;exact q
  | some z=>rw[e]at q;exact q
theorem ZG(F:Fun K "place_at" "place_at" Js f fd)(fC:Fn P w K mg base 1 "number_at" ["x","numbers"] spNumber_at):FnOk P w K mg base CX0 2 f fd ["place","numbers"] spPlace_at:=by
 have sc:FnScope ["place","numbers","x","d"] ["place","numbers"] (jn Js):=fQ;refine F.ok sc (fun vs H Q E h=>?_) (fun az A outer s H vs Q E hr h=>?_)
 .obtain⟨a,x,d,m,N,rfl,_⟩:=h
  rfl
 obtain⟨a,x,d,m,N,rfl,ha,hm,q⟩:=h;refine⟨_,(jm (yK (pv 0) (qA rfl (jI (jA (i:=2) sc.nd rfl oQ) (jI (jA (i:=3) sc.nd rfl oQ) kE))))
   (js (jN (jr jU (jV fC hr (jk (pv 2) (jk (pv 1) ji))) (pv 3))))),?_⟩
 refine⟨_,rfl,a,_,rfl,SqT.of ha,rfl,_,_,rfl,_,_,rfl,rfl,?_⟩;refine⟨_,rfl,_,rfl,x,m,N,rfl,hm,_,rfl,_,_,rfl,rfl,q⟩
theorem jbZ(F:Fun K "row_at" "row_at" YM f fd)(R:Bare K mg):FnOk P w K mg base CX0 1 f fd ["r","rows"] (spRow_at K):=by
 have sc:FnScope ["r","rows"] ["r","rows"] (jn YM):=fQ;refine F.ok sc (fun vs H Q E h=>?_) (fun az A outer s H vs Q E hr h=>?_)
 .obtain⟨r,n,k,ao,L,rfl,_⟩:=h
  rfl
 obtain⟨r,n,k,ao,L,rfl,hn,hV,q⟩:=h;obtain⟨ba,eb,Ln,nA,dD⟩:=R.ex;have hu:=qO hr;refine⟨_,(js (jN (qM hu (pv 1) (pv 0) (jeP (v:=.ref ba) (by rfl) Ln rfl) ⟨rfl,rfl,rfl,rfl⟩))),?_⟩;refine⟨_,rfl,n,rfl,.inl ⟨ao,.inl hn⟩,_,rfl,_,DGet.k (k:=Sum.inr r) hn,?_⟩;unfold jR at q;rcases hV.val r with⟨e1,e2⟩ | ⟨v,lq,e1,e2,h1,h2⟩
 .rw[e1]
  rw[e2]at q;exact q _ [] (jei (nA H) (dD H)) ⟨List.Pairwise.nil,trivial⟩ (bE _) (bE _) fun z=>rfl
 .rw[e1]
  rw[e2]at q;obtain⟨R,g1,g2,g3,g4⟩:=h1;exact q _ R g1 g2 g3 h2 g4
theorem jaC(F:Fun K "term_at" "term_at" Kh f fd)(fC:Fn P w K mg base 1 "number_at" ["x","numbers"] spNumber_at)(eB:Fn P w K mg base 2 "place_at" ["place","numbers"] spPlace_at)
  (fA:Fn P w K mg base 1 "row_at" ["r","rows"] (spRow_at K)) (eT:Fn P w K mg base 2 "entry" ["row","p"] (spEntry K)):FnOk P w K mg base CX0 3 f fd ["term","numbers","rows"] (spTerm_at K):=by
 have sc:FnScope ["term","numbers","rows"] ["term","numbers","rows"] (jn Kh):=fQ
 refine F.ok sc (fun vs H Q E h=>?_) (fun az A outer s H vs Q E hr h=>?_)
 .obtain⟨v,t,m,n,k,N,ao,L,rfl,_⟩:=h
  rfl
 obtain⟨v,t,m,n,k,N,ao,L,rfl,hv,hm,hn,hV,hk,q⟩:=h
 refine⟨_,(jm (kB (jW j5 (jx jq (pv 0) je (fun _ _=>rfl)) kc (ju _)) (js (jN (jV fC hr (jk (jx jq (pv 0) je (fun _ _=>rfl)) (jk (pv 1) ji))))) j4)
   (js (jN (jV eT hr (jk (jV fA hr (jk (jx jq (pv 0) je (fun _ _=>rfl)) (jk (pv 2) ji))) (jk (jV eB hr (jk (jx jq (pv 0) je (fun _ _=>rfl)) (jk (pv 1) ji))) ji)))))),?_⟩
 cases t with
 | is x=>
  obtain⟨a,rfl,ha⟩:=jaO hv
  refine⟨_,rfl,a,_,_,_,rfl,rfl,SqT.of ha,rfl,rfl,_,rfl,?_⟩
  rw[Qd rfl]
  refine kL ?_
  exact⟨_,rfl,a,_,_,_,rfl,rfl,SqT.of ha,rfl,_,rfl,x,m,N,rfl,hm,q⟩
 | at_ r x d=>
  obtain⟨a,b,rfl,ha,hb⟩:=jek hv
  refine⟨_,rfl,a,_,_,_,rfl,rfl,SqT.of ha,rfl,rfl,_,rfl,?_⟩
  rw[Qe (by decide)]
  refine kT ?_
  refine⟨_,rfl,a,_,_,_,rfl,rfl,SqT.of ha,rfl,_,rfl,r,n,k,ao,L,rfl,hn,hV,fun u R g1 g2 g3 g4 g5=>?_⟩
  refine⟨_,rfl,a,_,_,_,rfl,rfl,SqT.of ha,rfl,_,rfl,b,x,d,m,N,rfl,hb,hm,?_⟩
  refine⟨u,_,((jR L r).1,R),rfl,g1,⟨g2.up,by show R.length<=600;omega⟩,?_⟩
  dsimp only
  rw[g5]
  exact q
end
abbrev qI:au:=top 17
abbrev zJ:au:=top 12
abbrev yb:au:=top 13
abbrev zj:au:=top 16
abbrev Kl:au:=top 14
abbrev zr:au:=top 15
abbrev YO:au:=top 9
section
variable {P:av}
theorem jb1(F:Fun K "run_places" "run_places" qI f fd)(B:Free0 mg):FnOk P w K mg base CX0 1 f fd ["t","u","held_rows"] (spPlaces K):=by
 have sc:FnScope ["t","u","held_rows","places","base","steps"] ["t","u","held_rows"] (jn qI):=fQ;refine F.ok sc (fun vs H Q E h=>?_) (fun az A outer s H vs Q E hr h=>?_)
 .obtain⟨t,u,h,hs,rs,rfl,_⟩:=h
  rfl
 obtain⟨t,u,h,hs,rs,rfl,hh,sI,hv,h200,⟨S,cy,bT⟩,q⟩:=h;refine⟨_,(jm (jH (i:=3) sc.nd rfl oQ (ko (jk (pv 0) ji)))
   (jm (zd dS rfl (qe (pv 2)) (qA rfl (jI (jA (i:=4) sc.nd rfl oQ) (jI (jA (i:=5) sc.nd rfl oQ) kE))) (js (qD (ye eU tW tV zx (pv 3) (jk (qu ["place","value"] [] rfl (kz (sc:=jn qI) (N:=["t","u","held_rows","places","base","steps"]) rfl rfl (by decide +kernel)) (zM (pv 5)) (fun s H ex=>⟨(Jc (K:=K) (n:=2) rfl (jI (jA (i:=0) (show bG (["place","value"]:List Str) by decide +kernel) rfl oQ) (jI (jA (i:=1) (show bG (["place","value"]:List Str) by decide +kernel) rfl oQ) kE))),qR,(pv 0)⟩)) ji)))))
   (js (jN (qu ["place"] [0,1] rfl (kz (sc:=jn qI) (N:=["t","u","held_rows","places","base","steps"]) rfl rfl (by decide +kernel)) (qe (qP (qC (P:=P) (w:=w) rfl) (by rfl) B.sorted_ qW (jk (zw (zh (P:=P) (w:=w) rfl) (by rfl) B.set_ ja0 (jk (pv 3) ji)) ji))) (fun s H ex=>⟨(jA (i:=0) (show bG (["place","t","u"]:List Str) by decide +kernel) rfl oQ),(yw (Jb zV zV (pv 1) (pv 0) (pv 2))),(pv 0)⟩)))))),?_⟩
 refine⟨_,rfl,sm rfl,fun l hl=>?_⟩;have s1:=jb hl (.lst [V.int t]);have e1:upd H l (.lst [V.int t]) l=some (.lst [V.int t]):=ja;have dq:=hv.mono s1;generalize upd H l (.lst [V.int t])=H1 at *;have lV:=s1 _ _ hh;refine⟨_,rfl,h,rfl,⟨_,SqL.of lV⟩,yj (xs:=hs) (fun i σ G=>∃u1 u2,σ=[some (.int t),some (.int u),some (.ref h),some (.ref l),u1,u2]/\Same H G/\RowsIn K G hs rs/\
  G l=some (.lst ((t :: (zS (rs.take i)).map (·.1)).map V.int))) ⟨none,none,rfl,s1,dq,e1⟩ ?_ ?_ ?_⟩
 .rintro i σ G _ ⟨u1,u2,rfl,sG,_⟩
  exact SqL.of (sG _ _ hh)
 .rintro i x σ G hx ⟨u1,u2,rfl,sG,vW,bZ⟩
  have hi:i < rs.length:=by
   have:=(aV.mp hx).1;omega
  obtain⟨v,e2,e3⟩:=vW i hi;rw[hx]at e2
  cases e2
  have tq:=jcA hi;have fV:=jfv (rs:=rs) (i+1);rw[tq,aP]at fV;generalize rs[i]=r at *;obtain⟨a,b,qs,rfl,ha,hb,hq⟩:=e3.ex;refine⟨a,_,rfl,ha,rfl,_,_,rfl,_,_,rfl,rfl,?_⟩;refine⟨_,rfl,.inl ⟨rfl,_,SqL.of bZ⟩,_,rfl,b,rfl,⟨_,hb⟩,fun p hp=>?_⟩;have bd:=hq.1;have s2:=jb hp (.lst []);refine zC (xs:=qs) (fun i σ' G'=>∃u3 u4,σ'=[u3,u4]/\Same G G'/\G' p=some (.lst ((r.2.take i).map fun q=>V.int q.1))) ⟨none,none,rfl,s2,ja⟩ ?_ ?_ ?_
  .rintro i σ' G' _ ⟨u3,u4,rfl,aw,_⟩
   exact aw.sqT hb
  .rintro i x σ' G' hx ⟨u3,u4,rfl,aw,ax⟩
   have hi:i < r.2.length:=by
    rw[<- bd];exact (aV.mp hx).1
   obtain⟨c,f1,f2⟩:=hq.2 i hi;rw[hx]at f1
   cases f1
   refine⟨c,_,rfl,aw.sqT f2,rfl,_,_,rfl,_,_,rfl,rfl,?_⟩;unfold yH;refine kL ?_;refine⟨_,rfl,_,ax,?_,_,_,rfl,?_,?_⟩
   .rw[am,a_]
    exact jw (by omega)
   .intro c o e
    rw[jl (jo e hp)];exact aw _ _ e
   .rw[ja,cq,aC hi,aX]
    rfl
  .rintro σ' G' ⟨u3,u4,rfl,aw,ax⟩
   rw[bd,ce]at ax;have dC:=aw _ _ bZ;refine⟨l,p,_,_,rfl,rfl,dC,ax,?_,?_⟩
   .rw[am,am,bi,am]
    exact cQ (jw (by omega))
   refine⟨_,_,rfl,?_,(vW.mono aw).upd dC,?_⟩
   .intro c o e
    rw[jl (jo e hl)];exact aw _ _ (sG _ _ e)
   .rw[ja,tq]
    simp[Function.comp_def]
 .rintro σ G ⟨u1,u2,rfl,sG,vW,bZ⟩
  rw[sI,ce]at bZ;have ir:(dedup (t :: (zS rs).map (·.1))).length<=63:=jfR cy fun x hx=>by
   obtain⟨y,hy,rfl⟩:=bf.mp hx;exact bT y hy
  clear bT;generalize zS rs=AP at *;refine⟨_,rfl,l,_,rfl,SqL.of bZ,?_,fun v hv=>?_⟩
  .rw[bi,am]
   omega
  have s2:=jb hv (K1 P w v (dedup (t :: AP.map (·.1))));obtain⟨d1,d2,d3⟩:=zg (t :: AP.map (·.1));refine⟨v,_,rfl,ja,by omega,fun l2 ns aQ dN fS=>?_⟩;have s3:=jb aQ (.lst (ns.map V.int));have e3:upd (upd G v (K1 P w v (dedup (t :: AP.map (·.1))))) l2 (.lst (ns.map V.int)) l2=some (.lst (ns.map V.int)):=ja;have fO:=s2.trans s3;generalize upd (upd G v (K1 P w v (dedup (t :: AP.map (·.1))))) l2 (.lst (ns.map V.int))=G3 at *;have nc:ns.length<=63:=by rw[dN.length_eq];exact ir
  have aG:=yg fS ((dN.nodup_iff).mpr d1);refine⟨l2,rfl,⟨_,SqL.of e3⟩,fun p hp=>?_⟩;have s4:=jb hp (.lst []);refine qh (xs:=ns.map V.int) (fun i σ' G'=>∃u3,σ'=[u3,some (.int t),some (.int u)]/\Same G3 G'/\G' p=some (.lst (((ns.take i).filter fun x=>decide (t<=x/\x<=u)).map V.int))) ⟨none,rfl,s4,ja⟩ ?_ ?_ ?_
  .rintro i σ' G' _ ⟨u3,rfl,aw,_⟩
   exact SqL.of (aw _ _ e3)
  .rintro i x σ' G' hx ⟨u3,rfl,aw,ax⟩
   have hi:i < ns.length:=by
    have:=(aV.mp hx).1;rw[am]at this;exact this
   rw[bA,aC hi]at hx
   cases hx
   have et:(ns.take (i+1)).filter (fun x=>decide (t<=x/\x<=u))=(ns.take i).filter (fun x=>decide (t<=x/\x<=u))++(if t<=ns[i]/\ns[i]<=u then [ns[i]] else []):=by
    rw[cq,aC hi,PM];congr 1;show PN _ [ns[i]]=_;rw[E3];split
    .next h1=>rw[Qg (Qc h1)];rfl
    .next h1=>rw[Qf (fun z=>h1 (Qd z))];rfl
   unfold kU;refine⟨_,rfl,_,rfl,_,_,rfl,rfl,_,rfl,?_⟩;by_cases c1:t<=ns[i]
   .rw[Qd c1]
    refine kL ?_;refine⟨_,rfl,_,_,rfl,rfl,_,rfl,?_⟩;by_cases c2:ns[i]<=u
    .rw[Qd c2]
     refine kL ?_;rw[Qg ⟨c1,c2⟩]at et;refine⟨_,rfl,_,ax,?_,_,rfl,?_,?_⟩
     .rw[am]
      have:((ns.take i).filter fun x=>decide (t<=x/\x<=u)).length<=(ns.take i).length:=g6 _ _;rw[a_]at this;exact jw (by omega)
     .intro c o e
      rw[jl (jo e hp)];exact aw _ _ e
     .rw[ja,et,aX]
      rfl
    .rw[Qe c2]
     refine kT ?_;rw[Qf (fun z=>c2 z.2),dj]at et;exact⟨_,rfl,aw,by rw[et];exact ax⟩
   .rw[Qe c1]
    refine kT ?_;refine⟨_,rfl,kT ?_⟩;rw[Qf (fun z=>c1 z.1),dj]at et;exact⟨_,rfl,aw,by rw[et];exact ax⟩
  .rintro σ' G' ⟨u3,rfl,aw,ax⟩
   rw[am,ce]at ax;refine q p _ G' (sG.trans (fO.trans aw)) ax ⟨aG.sublist PL,fun x=>?_⟩ (aZ (g6 _ _) nc);rw[fI,decide_eq_true_iff,dN.mem_iff,d3,bg]
theorem jaF(F:Fun K "bounded" "bounded" Kl f fd):FnOk P w K mg base CX0 1 f fd ["value","way","bound"] spBounded:=by
 have sc:FnScope ["value","way","bound"] ["value","way","bound"] (jn Kl):=fQ;refine F.ok sc (fun vs H Q E h=>?_) (fun az A outer s H vs Q E hr h=>?_)
 .obtain⟨v,b,way,rfl,_⟩:=h
  rfl
 obtain⟨v,b,way,rfl,q⟩:=h;refine⟨_,(jm (kB (jW j5 (pv 1) kc (ju _)) (js (jN (k0 jbk (pv 0) (pv 2) (ju _)))) j4)
   (js (jN (k0 zV (pv 0) (pv 2) (ju _))))),?_⟩
 refine⟨_,rfl,rfl,_,rfl,?_⟩;unfold bnd at q;refine j7 (fun c=>?_) (fun c=>?_)
 .have c':way = ">=":=by
   have:=Qc c;injection this
  rw[Qg c']at q;exact⟨_,rfl,_,rfl,_,_,rfl,rfl,q⟩
 .have c':¬way = ">=":=fun e=>c (Qd (Qi V.str e))
  rw[Qf c']at q;exact⟨_,rfl,_,rfl,_,_,rfl,rfl,q⟩
theorem ZI(F:Fun K "compared_row" "compared_row" zr f fd)(fA:Fn P w K mg base 1 "row_at" ["r","rows"] (spRow_at K))(fC:Fn P w K mg base 1 "number_at" ["x","numbers"] spNumber_at):FnOk P w K mg base CX0 2 f fd ["b","numbers","rows"] (spCompared K):=by
 have sc:FnScope ["b","numbers","rows"] ["b","numbers","rows"] (jn zr):=fQ;refine F.ok sc (fun vs H Q E h=>?_) (fun az A outer s H vs Q E hr h=>?_)
 .obtain⟨o,m,n,kd,x,i,N,ao,L,rfl,_⟩:=h
  rfl
 obtain⟨o,m,n,kd,x,i,N,ao,L,rfl,ho,hm,hn,hV,hi,q⟩:=h;refine⟨_,(jm (kB (jW j5 (jx jq (pv 0) je (fun _ _=>rfl)) kc (ju _)) (js (jN (jV fA hr (jk (jx jq (pv 0) je (fun _ _=>rfl)) (jk (pv 2) ji))))) j4)
   (js (jN (j0 (jk (jV fC hr (jk (jx jq (pv 0) je (fun _ _=>rfl)) (jk (pv 1) ji))) (jk (j0 ji) ji)))))),?_⟩
 refine⟨_,rfl,o,_,_,_,rfl,rfl,SqT.of ho,rfl,rfl,_,rfl,?_⟩;refine j7 (fun c=>?_) (fun c=>?_)
 .have c':kd = "row":=by
   have:=Qc c;injection this
  refine⟨_,rfl,o,_,_,_,rfl,rfl,SqT.of ho,rfl,_,rfl,x,n,i,ao,L,rfl,hn,hV,fun v R h1 h2 h3 h4 h5=>?_⟩;exact q v _ R H (Same.refl _) h1 h2 (by omega) (fun y hy=>yU h2 h5 hy) fun z=>by unfold K2;rw[Qg c',h5]
 .have c':¬kd = "row":=fun e=>c (Qd (Qi V.str e))
  refine⟨_,rfl,o,_,_,_,rfl,rfl,SqT.of ho,rfl,_,rfl,x,m,N,rfl,hm,sm rfl,fun t ht=>?_⟩;have s1:=jb ht (.tup []);have e1:upd H t (.tup []) t=some (.tup []):=ja;generalize upd H t (.tup [])=H1 at *;refine⟨sm rfl,fun p hp=>?_⟩;have s2:=jb hp (.tup [V.int (kr N x),V.ref t]);exact q _ _ [] _ (s1.trans s2) ⟨p,t,[],rfl,SqT.of ja,SqT.of (s2 _ _ e1),rfl,fun i hi=>absurd hi (t0 _)⟩ ⟨List.Pairwise.nil,trivial⟩ (bE _) (fun y hy=>by cases hy) fun z=>by unfold K2;rw[Qf c'];rfl
theorem jdE(F:Fun K "least_holds" "least_holds" zJ f fd)(mj:Fn P w K mg base 3 "term_at" ["term","numbers","rows"] (spTerm_at K)):FnOk P w K mg base CX0 4 f fd ["claim","numbers","rows"] (spHoldsP jhf K):=by
 have sc:FnScope ["claim","numbers","rows","a","b","c"] ["claim","numbers","rows"] (jn zJ):=fQ;refine F.ok sc (fun vs H Q E h=>?_) (fun az A outer s H vs Q E hr h=>?_)
 .obtain⟨v,C,m,n,i,N,ao,L,rfl,_⟩:=h
  rfl
 obtain⟨v,C,m,n,i,N,ao,L,rfl,hv,ok,hm,hn,hV,hi,hF,q⟩:=h
 cases C with
 | each=>exact ok.elim
 | rise=>exact ok.elim
 | least ta tb c=>
 obtain⟨a,u,z,rfl,ha,ff,hz⟩:=J1 hv;refine⟨_,(jm (yK (qt zn (pv 0) (qS je) qT) (qA rfl (jI (jA (i:=3) sc.nd rfl oQ) (jI (jA (i:=4) sc.nd rfl oQ) (jI (jA (i:=5) sc.nd rfl oQ) kE)))))
   (js (jN (k0 jbk (jV mj hr (jk (pv 3) (jk (pv 1) (jk (pv 2) ji)))) (jr jU (jV mj hr (jk (pv 4) (jk (pv 1) (jk (pv 2) ji)))) (pv 5)) (ju _))))),?_⟩
 refine⟨_,rfl,_,rfl,a,_,rfl,SqT.of ha,(fun h=>absurd h.1 (by show ¬(HT.sIx 4 0 (some 1)=0);decide)),fun p hp=>?_⟩;have s1:=jb hp (.tup (kN [V.str "least",u,z,V.int c] (some 1) none));refine⟨p,_,rfl,SqT.of ja,rfl,_,_,rfl,_,_,rfl,_,_,rfl,rfl,?_⟩;generalize upd H p (.tup (kN [V.str "least",u,z,V.int c] (some 1) none))=H1 at *;refine⟨_,rfl,_,rfl,_,rfl,u,ta,m,n,i,N,ao,L,rfl,ff.mono s1,s1 _ _ hm,s1 _ _ hn,hV.tk (TKF.same s1),hi,?_⟩;refine⟨_,rfl,_,rfl,_,rfl,z,tb,m,n,i,N,ao,L,rfl,hz.mono s1,s1 _ _ hm,s1 _ _ hn,hV.tk (TKF.same s1),hi,?_⟩;exact⟨_,rfl,_,_,rfl,rfl,_,_,rfl,rfl,q _ _ s1 decide_eq_true_iff⟩
theorem je7(F:Fun K "each_holds" "each_holds" yb f fd)(fA:Fn P w K mg base 1 "row_at" ["r","rows"] (spRow_at K))(wN:Fn P w K mg base 2 "compared_row" ["b","numbers","rows"] (spCompared K))(nI:Fn P w K mg base 1 "run_places" ["t","u","held_rows"] (spPlaces K))
  (eB:Fn P w K mg base 2 "place_at" ["place","numbers"] spPlace_at) (wQ:Fn P w K mg base 1 "bounded" ["value","way","bound"] spBounded) (eT:Fn P w K mg base 2 "entry" ["row","p"] (spEntry K)):FnOk P w K mg base CX0 4 f fd ["claim","numbers","rows"] (spHoldsP jhg K):=by
 have sc:FnScope ["claim","numbers","rows","t","u","r","way","b","c","row","other","k"] ["claim","numbers","rows"] (jn yb):=fQ
 refine F.ok sc (fun vs H Q E h=>?_) (fun az A outer s H vs Q E hr h=>?_)
 .obtain⟨v,C,m,n,i,N,ao,L,rfl,_⟩:=h
  rfl
 obtain⟨v,C,m,n,i,N,ao,L,rfl,hv,ok,hm,hn,hV,hi,hF,q⟩:=h
 cases C with
 | least=>exact ok.elim
 | rise=>exact ok.elim
 | each tx td ux ud r way kd x c=>
 obtain⟨a,b,e,o,rfl,ha,hb,he,ho⟩:=KF hv
 refine⟨_,(jm (yK (qt zn (pv 0) (qS je) qT) (qA rfl (jI (jA (i:=3) sc.nd rfl oQ) (jI (jA (i:=4) sc.nd rfl oQ) (jI (jA (i:=5) sc.nd rfl oQ) (jI (jA (i:=6) sc.nd rfl oQ) (jI (jA (i:=7) sc.nd rfl oQ) (jI (jA (i:=8) sc.nd rfl oQ) kE))))))))
   (jm (jH (i:=9) sc.nd rfl oQ (jV fA hr (jk (pv 5) (jk (pv 2) ji))))
   (jm (jH (i:=10) sc.nd rfl oQ (jV wN hr (jk (pv 7) (jk (pv 1) (jk (pv 2) ji)))))
   (jm (zd dS rfl (qe (jV nI hr (jk (jV eB hr (jk (pv 3) (jk (pv 1) ji))) (jk (jV eB hr (jk (pv 4) (jk (pv 1) ji))) (jk (ko (jk (pv 9) (jk (pv 10) ji))) ji))))) (jA (i:=11) sc.nd rfl oQ) (js (kB (jdl (jdk (jV wQ hr (jk (jV eT hr (jk (pv 9) (jk (pv 11) ji))) (jk (pv 6) (jk (jr jU (jV eT hr (jk (pv 10) (jk (pv 11) ji))) (pv 8)) ji)))))) (js (jN jfJ)) j4)))
   (js (jN jfJ)))))),?_⟩
 refine⟨_,rfl,_,rfl,a,_,rfl,SqT.of ha,(fun h=>absurd h.1 (by show ¬(HT.sIx 7 0 (some 1)=0);decide)),fun p hp=>?_⟩
 have s1:=jb hp (.tup (kN [V.str "each",V.ref b,V.ref e,V.str r,V.str way,V.ref o,V.int c] (some 1) none))
 refine⟨p,_,rfl,SqT.of ja,rfl,_,_,rfl,_,_,rfl,_,_,rfl,_,_,rfl,_,_,rfl,_,_,rfl,rfl,?_⟩
 generalize upd H p (.tup (kN [V.str "each",V.ref b,V.ref e,V.str r,V.str way,V.ref o,V.int c] (some 1) none))=H1 at *
 refine⟨_,rfl,_,rfl,r,n,i,ao,L,rfl,s1 _ _ hn,hV.tk (TKF.same s1),fun v1 R1 dq c1 l1 wl lV=>?_⟩
 refine⟨_,rfl,_,rfl,_,rfl,o,m,n,kd,x,i,N,ao,L,rfl,s1 _ _ ho,s1 _ _ hm,s1 _ _ hn,hV.tk (TKF.same s1),hi,fun v2 b2 R2 H2 s2 dm Mq l2 me lU=>?_⟩
 have gC:=Mq.up
 obtain⟨S,cy,bT⟩:=hF r x
 have mf:=fun y=>yU c1 lV (y:=y)
 have bc:=s1.trans s2
 have GQ:=dq.mono s2
 dsimp only[Cl.Tru]at q
 generalize jR L r=lr at *
 refine⟨_,rfl,_,rfl,b,tx,td,m,N,rfl,bc _ _ hb,bc _ _ hm,?_⟩
 refine⟨_,rfl,_,rfl,e,ux,ud,m,N,rfl,bc _ _ he,bc _ _ hm,?_⟩
 refine⟨_,rfl,_,rfl,sm rfl,fun l hl=>?_⟩
 have s3:=jb hl (.lst [v1,v2])
 have e3:upd H2 l (.lst [v1,v2]) l=some (.lst [v1,v2]):=ja
 have sr:=GQ.mono s3
 have AS:=dm.mono s3
 generalize upd H2 l (.lst [v1,v2])=H3 at *
 have aS:=bc.trans s3
 have eP:zS [(lr.1,R1),(b2,R2)]=R1++R2:=by unfold zS;simp
 refine⟨_,_,l,[v1,v2],[(lr.1,R1),(b2,R2)],rfl,e3,rfl,fun i hi=>?_,(by rw[eP,aP];omega),⟨S,cy,fun y hy=>bT _ (by rw[eP]at hy;exact (cZ.mp hy).imp (mf y) (me y))⟩,fun lp ns H4 s4 Bj bC nc=>?_⟩
 .have:i=0\/i=1:=by simp at hi;omega
  rcases this with rfl | rfl
  .exact⟨v1,rfl,sr⟩
  .exact⟨v2,rfl,AS⟩
 rw[eP]at bC
 have cH:=aS.trans s4
 have eh:=sr.mono s4
 have e_:=AS.mono s4
 have uJ:KD way c (jz lr.1 R1) (jz b2 R2) ns=true↔_:=jd9 (way:=way) (c:=c) bC (fun m k hm bN=>held_like c1.up hm fun y hy=>bN y (iJ _ hy)) (fun m k hm bN=>held_like gC hm fun y hy=>bN y (cE _ hy))
 have fP:KD way c (jz lr.1 R1) (jz b2 R2) ns=true↔∀k,kr N tx+td<=k->k<=kr N ux+ud->bnd way (jY lr k) (K2 N L kd x k+c)=true:=by
  rw[uJ];constructor
  .intro z k k1 k2
   rw[<- lV,<- lU];exact z k k1 k2
  .intro z k k1 k2
   rw[lV,lU];exact z k k1 k2
 refine⟨lp,rfl,⟨_,SqL.of Bj⟩,yj (xs:=ns.map V.int) (fun i σ G=>∃u1,σ=[some (.ref a),some (.ref m),some (.ref n),some (.ref b),some (.ref e),some (.str r),some (.str way),some (.ref o),some (.int c),some v1,some v2,u1]/\Same H4 G/\
  (ns.take i).all (fun k=>bnd way (jz lr.1 R1 k) (jz b2 R2 k+c))=true) ⟨none,rfl,Same.refl _,rfl⟩ ?_ ?_ ?_⟩
 .rintro i σ G _ ⟨u1,rfl,sG,_⟩
  exact SqL.of (sG _ _ Bj)
 .rintro i y σ G hy ⟨u1,rfl,sG,eQ⟩
  have hi:i < ns.length:=by
   have:=(aV.mp hy).1;rw[am]at this;exact this
  rw[bA,aC hi]at hy
  cases hy
  refine⟨_,rfl,_,rfl,v1,ns[i],(lr.1,R1),rfl,eh.mono sG,⟨c1.up,by show R1.length<=600;omega⟩,?_⟩
  refine⟨_,rfl,_,rfl,_,rfl,v2,ns[i],(b2,R2),rfl,e_.mono sG,⟨gC,by show R2.length<=600;omega⟩,_,rfl,_,_,rfl,rfl,?_⟩
  refine⟨_,_,way,rfl,_,rfl,?_⟩
  dsimp only
  have Ct:(ns.take (i+1)).all (fun k=>bnd way (jz lr.1 R1 k) (jz b2 R2 k+c))=bnd way (jz lr.1 R1 ns[i]) (jz b2 R2 ns[i]+c):=by
   rw[cq,aC hi,List.all_append,eQ];simp
  cases hbd:bnd way (jz lr.1 R1 ns[i]) (jz b2 R2 ns[i]+c) with
  | true=>
   rw[hbd]at Ct
   refine kT ?_
   exact⟨_,rfl,sG,Ct⟩
  | false=>
   refine kL ?_
   have ef:KD way c (jz lr.1 R1) (jz b2 R2) ns=false:=by
    unfold KD;rw[List.all_eq_false];exact⟨ns[i],eW hi,by rw[hbd];simp⟩
   rw[ef]at fP
   exact q _ _ (cH.trans sG) fP
 .rintro σ G ⟨u1,rfl,sG,eQ⟩
  rw[am,ce]at eQ
  exact q _ _ (cH.trans sG) (by unfold KD at fP;rw[eQ]at fP;exact fP)
theorem je3(F:Fun K "rise_holds" "rise_holds" zj f fd)(B:Free0 mg)(fA:Fn P w K mg base 1 "row_at" ["r","rows"] (spRow_at K))(nI:Fn P w K mg base 1 "run_places" ["t","u","held_rows"] (spPlaces K))(eB:Fn P w K mg base 2 "place_at" ["place","numbers"] spPlace_at)
  (eT:Fn P w K mg base 2 "entry" ["row","p"] (spEntry K)):FnOk P w K mg base CX0 4 f fd ["claim","numbers","rows"] (spHoldsP jhe K):=by
 have sc:FnScope ["claim","numbers","rows","t","u","r","row","places","values"] ["claim","numbers","rows"] (jn zj):=fQ
 refine F.ok sc (fun vs H Q E h=>?_) (fun az A outer s H vs Q E hr h=>?_)
 .obtain⟨v,C,m,n,i,N,ao,L,rfl,_⟩:=h
  rfl
 obtain⟨v,C,m,n,i,N,ao,L,rfl,hv,ok,hm,hn,hV,hi,hF,q⟩:=h
 cases C with
 | least=>exact ok.elim
 | each=>exact ok.elim
 | rise tx td ux ud r=>
 have hu:=qO hr
 obtain⟨a,b,c,rfl,ha,hb,hc⟩:=YS hv
 refine⟨_,(jm (yK (qt zn (pv 0) (qS je) qT) (qA rfl (jI (jA (i:=3) sc.nd rfl oQ) (jI (jA (i:=4) sc.nd rfl oQ) (jI (jA (i:=5) sc.nd rfl oQ) kE)))))
   (jm (jH (i:=6) sc.nd rfl oQ (jV fA hr (jk (pv 5) (jk (pv 2) ji))))
   (jm (jH (i:=7) sc.nd rfl oQ (jV nI hr (jk (jV eB hr (jk (pv 3) (jk (pv 1) ji))) (jk (jV eB hr (jk (pv 4) (jk (pv 1) ji))) (jk (ko (jk (pv 6) ji)) ji)))))
   (jm (zc (i:=8) sc.nd rfl oQ ["k"] [6] rfl (kz (sc:=jn zj) (N:=["claim","numbers","rows","t","u","r","row","places","values"]) rfl rfl (by decide +kernel)) (qe (pv 7)) (fun s H ex=>⟨(jA (i:=0) (show bG (["k","row"]:List Str) by decide +kernel) rfl oQ),qR,(jV eT hr (jk (pv 1) (jk (pv 0) ji)))⟩))
   (js (jN (k0 (Yj hu) (pv 8) (qP zD (by rfl) B.sorted_ qW (jk (pv 8) ji)) (ju _)))))))),?_⟩
 refine⟨_,rfl,_,rfl,a,_,rfl,SqT.of ha,(fun h=>absurd h.1 (by show ¬(HT.sIx 4 0 (some 1)=0);decide)),fun p hp=>?_⟩
 have s1:=jb hp (.tup (kN [V.str "rise",V.ref b,V.ref c,V.str r] (some 1) none))
 refine⟨p,_,rfl,SqT.of ja,rfl,_,_,rfl,_,_,rfl,_,_,rfl,rfl,?_⟩
 generalize upd H p (.tup (kN [V.str "rise",V.ref b,V.ref c,V.str r] (some 1) none))=H1 at *
 have nA:=s1 _ _ hb
 have lZ:=s1 _ _ hc
 have iZ:=s1 _ _ hm
 refine⟨_,rfl,_,rfl,r,n,i,ao,L,rfl,s1 _ _ hn,hV.tk (TKF.same s1),fun v R hv c1 l1 wl hh=>?_⟩
 obtain⟨S,cy,bT⟩:=hF r r
 have mf:=fun y=>yU c1 hh (y:=y)
 dsimp only[Cl.Tru]at q
 generalize jR L r=lr at *
 refine⟨_,rfl,_,rfl,b,tx,td,m,N,rfl,nA,iZ,?_⟩
 refine⟨_,rfl,_,rfl,c,ux,ud,m,N,rfl,lZ,iZ,?_⟩
 refine⟨_,rfl,sm rfl,fun l hl=>?_⟩
 have s2:=jb hl (.lst [v])
 have e2:upd H1 l (.lst [v]) l=some (.lst [v]):=ja
 have dm:=hv.mono s2
 generalize upd H1 l (.lst [v])=H2 at *
 have eP:zS [(lr.1,R)]=R:=by unfold zS;simp
 refine⟨_,_,l,[v],[(lr.1,R)],rfl,e2,rfl,fun i hi=>?_,(by rw[eP];omega),⟨S,cy,fun y hy=>bT _ (.inl (by rw[eP]at hy;exact mf y hy))⟩,fun l2 ns H3 s3 aQ bC nc=>?_⟩
 .have:i=0:=by simp at hi;omega
  subst this
  exact⟨v,rfl,dm⟩
 rw[eP]at bC
 have aS:=s1.trans (s2.trans s3)
 have h_:=dm.mono s3
 have uJ:=jdd (f:=jz lr.1 R) bC (fun m k hm bN=>held_like c1.up hm bN)
 have fP:YR (jz lr.1 R) ns=true↔∀k l,kr N tx+td<=k->k < l->l<=kr N ux+ud->jY lr k<=jY lr l:=by
  rw[uJ];constructor
  .intro z k l k1 k2 k3
   rw[<- hh,<- hh];exact z k l k1 k2 k3
  .intro z k l k1 k2 k3
   rw[hh,hh];exact z k l k1 k2 k3
 refine⟨_,rfl,l2,rfl,⟨_,SqL.of aQ⟩,fun p3 o9=>?_⟩
 have s4:=jb o9 (.lst [])
 refine qh (xs:=ns.map V.int) (fun i σ' G'=>∃u3,σ'=[u3,some v]/\Same H3 G'/\G' p3=some (.lst (((ns.take i).map fun k=>jz lr.1 R k).map V.int))) ⟨none,rfl,s4,ja⟩ ?_ ?_ ?_
 .rintro i σ' G' _ ⟨u3,rfl,aw,_⟩
  exact SqL.of (aw _ _ aQ)
 .rintro i x σ' G' hx ⟨u3,rfl,aw,ax⟩
  have hi:i < ns.length:=by
   have:=(aV.mp hx).1;rw[am]at this;exact this
  rw[bA,aC hi]at hx
  cases hx
  unfold kU yH
  refine kL ?_
  refine⟨_,rfl,_,rfl,v,ns[i],(lr.1,R),rfl,h_.mono aw,⟨c1.up,by show R.length<=600;omega⟩,?_⟩
  refine⟨_,ax,?_,_,rfl,?_,?_⟩
  .rw[am,am,a_]
   exact jw (by omega)
  .intro c o e
   rw[jl (jo e o9)]
   exact aw _ _ e
  .rw[ja,cq,aC hi,aX,aX]
   rfl
 .rintro σ' G' ⟨u3,rfl,aw,ax⟩
  rw[am,ce]at ax
  have fb:(ns.map fun k=>jz lr.1 R k).length=ns.length:=am _
  unfold YR at fP
  have GO:ns.map (jz lr.1 R)=(ns.map fun k=>jz lr.1 R k):=rfl
  rw[GO]at fP
  generalize mZ:(ns.map fun k=>jz lr.1 R k)=vs at *
  refine⟨_,rfl,_,rfl,p3,vs,rfl,SqL.of ax,by omega,fun l4 ms du dN fS=>?_⟩
  have s5:=jb du (.lst (ms.map V.int))
  refine⟨p3,l4,vs,ms,rfl,rfl,SqL.of (s5 _ _ ax),SqL.of ja,dN.length_eq.symm,?_⟩
  have eb:decide (vs=ms)=decide (vs.Pairwise (·<=·)):=by
   rw[decide_eq_decide];constructor
   .intro h
    rw[h];exact fS
   .intro h
    exact dN.symm.eq_of_pairwise (fun x y _ _ h1 h2=>P7 h1 h2) h fS
  rw[eb]
  exact q _ _ (aS.trans (aw.trans s5)) fP
theorem jb3(F:Fun K "holds" "holds" YO f fd)(wF:Fn P w K mg base 4 "least_holds" ["claim","numbers","rows"] (spHoldsP jhf K))(wK:Fn P w K mg base 4 "each_holds" ["claim","numbers","rows"] (spHoldsP jhg K))(wA:Fn P w K mg base 4 "rise_holds" ["claim","numbers","rows"] (spHoldsP jhe K)):FnOk P w K mg base CX0 5 f fd ["claim","numbers","rows"] (spHoldsP (fun _=>True) K):=by
 have sc:FnScope ["claim","numbers","rows"] ["claim","numbers","rows"] (jn YO):=fQ;refine F.ok sc (fun vs H Q E h=>?_) (fun az A outer s H vs Q E hr h=>?_)
 .obtain⟨v,C,m,n,i,N,ao,L,rfl,_⟩:=h
  rfl
 obtain⟨v,C,m,n,i,N,ao,L,rfl,hv,_,r1,r2,r3,r4,r5,r6⟩:=h;refine⟨_,(jm (kB (jW j5 (jx jq (pv 0) je (fun _ _=>rfl)) kc (ju _)) (js (jN (jV wF hr (jk (pv 0) (jk (pv 1) (jk (pv 2) ji)))))) j4)
   (jm (kB (jW j5 (jx jq (pv 0) je (fun _ _=>rfl)) kc (ju _)) (js (jN (jV wK hr (jk (pv 0) (jk (pv 1) (jk (pv 2) ji)))))) j4)
   (js (jN (jV wA hr (jk (pv 0) (jk (pv 1) (jk (pv 2) ji)))))))),?_⟩
 cases C with
 | least ta tb c=>
  obtain⟨a,u,z,rfl,ha,_,_⟩:=J1 hv;refine⟨_,rfl,a,_,_,_,rfl,rfl,SqT.of ha,rfl,rfl,_,rfl,?_⟩;rw[Qd rfl];refine kL ?_;exact⟨_,rfl,_,rfl,_,rfl,_,.least ta tb c,m,n,i,N,ao,L,rfl,hv,trivial,r1,r2,r3,r4,r5,r6⟩
 | each tx td ux ud r way kd x c=>
  obtain⟨a,b,e,o,rfl,ha,_⟩:=KF hv;refine⟨_,rfl,a,_,_,_,rfl,rfl,SqT.of ha,rfl,rfl,_,rfl,?_⟩;rw[Qe (by decide)];refine kT ?_;refine⟨_,rfl,a,_,_,_,rfl,rfl,SqT.of ha,rfl,rfl,_,rfl,?_⟩;rw[Qd rfl];refine kL ?_;exact⟨_,rfl,_,rfl,_,rfl,_,.each tx td ux ud r way kd x c,m,n,i,N,ao,L,rfl,hv,trivial,r1,r2,r3,r4,r5,r6⟩
 | rise tx td ux ud r=>
  obtain⟨a,b,c,rfl,ha,_⟩:=YS hv;refine⟨_,rfl,a,_,_,_,rfl,rfl,SqT.of ha,rfl,rfl,_,rfl,?_⟩;rw[Qe (by decide)];refine kT ?_;refine⟨_,rfl,a,_,_,_,rfl,rfl,SqT.of ha,rfl,rfl,_,rfl,?_⟩;rw[Qe (by decide)];refine kT ?_;exact⟨_,rfl,_,rfl,_,rfl,_,.rise tx td ux ud r,m,n,i,N,ao,L,rfl,hv,trivial,r1,r2,r3,r4,r5,r6⟩
end
end LW
namespace L2
open PySem PySem.Spec PyProof.Rows PySem.W
def seq(t:bt)(p:Ef):Nat->Ef
 | 0=>p
 | n+1=>t.advance (seq t p n)
theorem getD_none{owner:Array (Option Nat)}{j:Nat}(h:owner.getD j (some 0)=none):owner[j]?=some none:=by
 by_cases hj:j < owner.size
 .rw[rJ hj]
  simp[mM,hj]at h;rw[h]
 .simp[mM,hj]at h
end L2
namespace PySem
end PySem
namespace L2
open PySem PySem.Spec PyProof.Rows PySem.W
end L2
namespace LW
open PySem L2
inductive spCell(K:ai)(vs:List V)(H:Hp)(Q:VK)(E:XK):Prop
 | mk (a:aa) (ns:List Int) (k:Int) (_:vs=[.ref a,.int k]) (_:SqL K H a (ns.map V.int)) (_:0<=k) (_:k<=1000) (_:∀c:Int,Q (.int c) H)
inductive spWords(vs:List V)(H:Hp)(Q:VK)(E:XK):Prop
 | mk (c:Int) (n:Nat) (_:vs=[.int c,.int n]) (_:n<=14) (_:∀(l:aa) (ws:List Str) (H':Hp),WordsOk ws n->Same H H'->H l=none->H' l=some (.lst (ws.map V.str))->Q (.ref l) H')
theorem Zw{α:Type}(f:Nat->α)(i:Nat):(bm (i+1)).map f=(bm i).map f++[f i]:=by rw[List.range_succ,aX];rfl
structure QA(X:Cx)(es:List ag)(t:TA):Prop where
 h:PA X es t
variable {X:Cx}
theorem jf8:QA X [] jfW:=⟨ji⟩
theorem qp{es:List ag}{t:TA}{z:Str}{j:Nat}{pos:Pos}(h:QA X es t):QA X (.Constant (.str z) j pos :: es) (ja9 (tC (.str z)) t):=⟨jk kc h.h⟩
variable {i:Nat}
theorem jf9{x:Str}{p1 q pos:Pos}{es:List ag}{t:TA}(hN:X.N.Nodup)(hi:X.N[i]?=some x)(hx:Loc X.env.scope x)(h:QA X es t)(hf:X.fn x=true\/X.env.scope.names.lookup x=some .local:=by first | exact .inl rfl | exact .inr rfl | assumption):
  QS X (.Assign [.Name x p1] (.List es q) pos) (jap (jfX t) (kU i)):=⟨jH hN hi hx (ko h.h) rfl hf⟩
def yD(q:jB):D:=.tup [.int q.1,.tup (q.2.1.map pD),.tup (q.2.2.map pD)]
variable {H:Hp}{q:jB}{v:V}
theorem Je(h:Held H (yD q) v):∃a c e qs ws,v=.ref a/\H a=some (.tup [.int q.1,.ref c,.ref e])/\H c=some (.tup qs)/\HeldL H (q.2.1.map pD) qs/\H e=some (.tup ws)/\HeldL H (q.2.2.map pD) ws:=by
 obtain⟨a,xs,rfl,ha,h1⟩:=jD h;obtain⟨v1,r1,rfl,e1,h2⟩:=jg h1;obtain⟨v2,r2,rfl,e2,h3⟩:=jg h2;obtain⟨v3,r3,rfl,e3,h4⟩:=jg h3
 cases jP h4
 cases ku e1
 obtain⟨c,qs,rfl,hc,g1⟩:=jD e2;obtain⟨e,ws,rfl,he,g2⟩:=jD e3;exact⟨a,c,e,qs,ws,rfl,ha,hc,g1,he,g2⟩
inductive spMix(vs:List V)(H:Hp)(Q:VK)(E:XK):Prop
 | mk (s k:Int) (_:vs=[.int s,.int k]) (_:∀c:Int,Q (.int c) H)
inductive spMade(vs:List V)(H:Hp)(Q:VK)(E:XK):Prop
 | mk (s n:Int) (_:vs=[.int s,.int n]) (_:∀(v:V) (b:Int) (ps:List (Int×Int)) (H':Hp),Same H H'->kg ps->ps.length<=3->Held H' (yD (b,ps,[])) v->Q v H')
inductive spHoldsL(K:ai)(vs:List V)(H:Hp)(Q:VK)(E:XK):Prop
 | mk (v:V) (p:Int) (q:jB) (_:vs=[v,.int p]) (_:Held H (yD q) v) (_:Q (.int (jY q p)) H)
theorem yY(x y:Int){i:Int}(h0:0<=i)(h1:i < 2):∃v,atI [V.int x,V.int y] i=some (.int v):=by
 have:i=0\/i=1:=by omega
 rcases this with rfl | rfl
 .exact⟨_,rfl⟩
 .exact⟨_,rfl⟩
variable {b:Int}{ps ws:List (Int×Int)}
theorem jaQ{p:Int}(h:i < ws.length):jY (b,ps,ws.take (i+1)) p=if ws[i].1=p then ws[i].2 else jY (b,ps,ws.take i) p:=by
 rw[cq,aC h];show jY (b,ps,ws.take i++[ws[i]]) p=_;rw[show ws[i]=(ws[i].1,ws[i].2) from rfl,yO];by_cases c:p=ws[i].1
 .rw[Qg c,Qg c.symm]
 .rw[Qf c,Qf (fun z=>c z.symm)]
theorem zy{p:Int}(h:∀z∈ws,z.1≠p):jY (b,ps,ws) p=jz b ps p:=by
 refine za (P:=fun ws=>(∀z∈ws,z.1≠p)->jY (b,ps,ws) p=jz b ps p) (fun _=>rfl) (fun L x ih h=>?_) ws h;rw[show x=(x.1,x.2) from rfl,yO,Qf (fun z=>h x (by simp) z.symm)];exact ih fun z hz=>h z (iJ _ hz)
theorem jcm{ms:List Int}(h:kg ps)(E:EndsOk ps ws ms)(p:Int):jz b (ms.map fun m=>(m,jY (b,ps,ws) m)) p=jY (b,ps,ws) p:=by
 have up:kg (ms.map fun m=>(m,jY (b,ps,ws) m)):=by
  show E_ _ _;rw[rD];exact E.up
 rcases Kz b _ up p with⟨a,e⟩ | ⟨z,hz,a1,a2,e⟩
 .have no:∀m∈ms,¬m<=p:=fun m hm=>a (m,_) (bf.mpr ⟨m,hm,rfl⟩)
  rw[e,zy fun q hq z=>no p ((E.mem p).mpr (.inr ⟨q,hq,.inl z⟩)) (dz _),ki fun q hq=>no q.1 ((E.mem q.1).mpr (.inl ⟨q,hq,rfl⟩))]
 .obtain⟨m,hm,rfl⟩:=bf.mp hz
  have most:∀m'∈ms,m'<=p->m'<=m:=fun m' Im hp=>a2 (m',_) (bf.mpr ⟨m',Im,rfl⟩) hp
  have Ib:m<=p:=a1;rw[e];show jY (b,ps,ws) m=jY (b,ps,ws) p;by_cases hpm:p=m
  .rw[hpm]
  .rw[zy (p:=p) fun q hq z=>by
    have:=most p ((E.mem p).mpr (.inr ⟨q,hq,.inl z⟩)) (dz _);omega,zy (p:=m) fun q hq z=>by
    have:=most (m+1) ((E.mem (m+1)).mpr (.inr ⟨q,hq,.inr (by omega)⟩)) (by omega);omega]
   refine (held_like h Ib fun y hy c=>?_).symm;have:=most y.1 ((E.mem y.1).mpr (.inl ⟨y,hy,rfl⟩)) c.2;omega
theorem zB(ps pl:List (Int×Int)):(kA ps pl).length=ps.length+2 * pl.length:=by
 unfold kA;rw[aP,am];congr 1;induction pl with
 | nil=>rfl
 | cons q r ih=>rw[PJ,aP,ih,bi];simp only[bi,lv];omega
theorem jcl{pl:List (Int×Int)}(h:i < pl.length):kA ps (pl.take (i+1))=kA ps (pl.take i)++[pl[i].1,pl[i].1+1]:=by
 unfold kA;rw[cq,aC h,xY,dI];simp
theorem jfp{pl:List (Int×Int)}{ms:List Int}(hp:ms.Perm (dedup (kA ps pl)))(hs:ms.Pairwise (·<=·)):EndsOk ps pl ms:=by
 obtain⟨d1,d2,d3⟩:=zg (kA ps pl);have nd:ms.Nodup:=hp.nodup_iff.mpr d1;refine⟨?_,fun m=>?_⟩
 .have:=hs.and nd
  exact this.imp fun h=>by have h1:=h.1;have h2:_≠_:=h.2;omega
 .rw[hp.mem_iff,d3]
  unfold kA;rw[cZ,bf,ub];refine or_congr ⟨fun⟨q,h1,h2⟩=>⟨q,h1,h2⟩,fun⟨q,h1,h2⟩=>⟨q,h1,h2⟩⟩ ⟨fun⟨q,h1,h2⟩=>⟨q,h1,?_⟩,fun⟨q,h1,h2⟩=>⟨q,h1,?_⟩⟩
  .rcases bg.mp h2 with h | h
   .exact .inl h.symm
   .exact .inr (bu.mp h).symm
  .rcases h2 with h | h
   .rw[<- h];exact bQ
   .rw[<- h];exact bK _ (bu.mpr rfl)
inductive spStairsL(K:ai)(vs:List V)(H:Hp)(Q:VK)(E:XK):Prop
 | mk (v:V) (q:jB) (_:vs=[v]) (_:Held H (yD q) v) (_:kg q.2.1) (_:q.2.1.length<=3) (_:q.2.2.length<=30) (_:∀u R H',Same H H'->Held H' (jdc q.1 R) u->Canon q.1 R->R.length<=40+2 * q.2.2.length->(∀z,jz q.1 R z=jY q z)->Q u H')
theorem Yu(a b c d:Str){i:Int}(h0:0<=i)(h1:i < 4):∃z,atI [V.str a,V.str b,V.str c,V.str d] i=some (.str z):=by
 have:i=0\/i=1\/i=2\/i=3:=by omega
 rcases this with rfl | rfl | rfl | rfl
 .exact⟨_,rfl⟩
 .exact⟨_,rfl⟩
 .exact⟨_,rfl⟩
 .exact⟨_,rfl⟩
abbrev jf3:au:=top 42
abbrev Kk:au:=top 41
abbrev yI:au:=top 43
abbrev jc6:au:=top 44
abbrev jas:au:=top 45
abbrev y7:au:=top 46
variable {f:aa}{fd:aH}
section
variable {P:av}{w:ar}{K:ai}{mg:Str->Option ac}{base:aq}
theorem je9(F:Fun K "_law_cell_at" "_law_cell_at" Kk f fd)(B:Free0 mg):FnOk P w K mg base CX0 1 f fd ["_law_script","_law_k"] (spCell K):=by
 have sc:FnScope ["_law_script","_law_k","_law_number_here"] ["_law_script","_law_k"] (jn Kk):=fQ;refine F.ok sc (fun vs H Q E h=>?_) (fun az A outer s H vs Q E hr h=>?_)
 .obtain⟨a,ns,k,rfl,_⟩:=h
  rfl
 obtain⟨a,ns,k,rfl,hS,h0,h1,q⟩:=h;have hl:(ns.map V.int).length=ns.length:=am _;refine⟨_,(jm (kB (jW Kr (pv 1) (qP kl (by rfl) B.len_ zi (jk (pv 0) ji)) (ju _)) (js (jN (jx jG (pv 0) (pv 1) (fun _ _=>rfl)))) j4)
   (jm (jH (i:=2) sc.nd rfl oQ (jr jU (jr kP je (pv 1)) je))
   (jm (kB (jW jdx (qP kl (by rfl) B.len_ zi (jk (pv 0) ji)) je (ju _)) (js (jH (i:=2) sc.nd rfl oQ (jr jU (jr kP (jr jM (jx jG (pv 0) (jr jM (pv 1) (qP kl (by rfl) B.len_ zi (jk (pv 0) ji))) (fun _ _=>rfl)) je) je) (jr kP (jr kP je (pv 1)) (pv 1))))) j4)
   (js (jN (jr jM (pv 2) je)))))),?_⟩
 refine⟨_,rfl,_,rfl,a,_,rfl,.inl hS,_,_,rfl,rfl,_,rfl,j7 (fun c=>?_) (fun c=>?_)⟩
 .have c':k < (ns.length:Int):=by
   have:=Qc c;rw[hl]at this;exact this
  exact⟨_,rfl,_,rfl,a,_,_,_,rfl,rfl,hS,jej h0 c',q _⟩
 .refine⟨_,rfl,_,_,rfl,rfl,.inl ⟨by decide,by decide⟩,_,_,rfl,rfl,?_⟩
  refine⟨_,rfl,a,_,rfl,.inl hS,_,_,rfl,rfl,_,rfl,j7 (fun d=>?_) (fun d=>?_)⟩
  .have d':0 < ns.length:=by
    have:=Qc d;rw[hl]at this;omega
   have Il:0<=k % (ns.length:Int):=bR _ (by omega);have iZ:k % (ns.length:Int) < (ns.length:Int):=cr _ (by omega);have gN:atI (ns.map V.int) (k % (((ns.map V.int).length:Nat):Int))=some (.int (ns.getD (k % (ns.length:Int)).toNat 0)):=by
    rw[hl];exact jej Il iZ
   refine⟨_,rfl,_,rfl,_,rfl,a,_,rfl,.inl hS,_,_,rfl,rfl,(by rw[hl];omega),a,_,_,_,rfl,rfl,hS,gN,_,_,rfl,rfl,(by show (0:Int) < _;decide),_,_,rfl,rfl,.inr ⟨by decide,by decide⟩,_,rfl,_,_,rfl,rfl,.inl ⟨by decide,by decide⟩,_,rfl,_,_,rfl,rfl,.inr ⟨by omega,by omega⟩,_,_,rfl,rfl,?_⟩;exact⟨_,rfl,_,_,rfl,rfl,(by show (0:Int) < _;decide),q _⟩
  .exact⟨_,rfl,_,_,rfl,rfl,(by show (0:Int) < _;decide),q _⟩
theorem jdA(F:Fun K "_law_words" "_law_words" yI f fd)(B:Free0 mg):FnOk P w K mg base CX0 1 f fd ["_law_cell","_law_many"] spWords:=by
 have sc:FnScope ["_law_cell","_law_many","_law_letters","_law_own","_law_size","_law_spot","_law_words_here","_law_k","_law_base"] ["_law_cell","_law_many"] (jn yI):=fQ;refine F.ok sc (fun vs H Q E h=>?_) (fun az A outer s H vs Q E hr h=>?_)
 .obtain⟨c,n,rfl,_⟩:=h
  rfl
 obtain⟨c,n,rfl,hn,q⟩:=h;refine⟨_,(QSs.h (qK (qs (jH (i:=2) sc.nd rfl oQ kc))
   (qK (jf9 (i:=3) sc.nd rfl oQ (qp (qp (qp (qp (qp (qp (qp (qp (qp (qp (qp (qp (qp (qp jf8)))))))))))))))
   (qK (qs (kB (jW j5 (jr jM (pv 0) je) je (ju _)) (js (jN (qu ["_law_k"] [0,3] rfl (kz (sc:=jn yI) (N:=["_law_cell","_law_many","_law_letters","_law_own","_law_size","_law_spot","_law_words_here","_law_k","_law_base"]) rfl rfl (by decide +kernel)) (qV (by rfl) B.range_ (jk (pv 1) ji)) (fun s H ex=>⟨(jA (i:=0) (show bG (["_law_k","_law_cell","_law_own"]:List Str) by decide +kernel) rfl oQ),qR,(jx (ZT (K:=K)) (pv 2) (jr jM (jr jU (jr jS (pv 1) je) (pv 0)) je) (fun _ _=>rfl))⟩)))) j4))
   (qK (qs (jH (i:=4) sc.nd rfl oQ (jr jM (pv 0) je)))
   (qK (qs (kB (jW j5 (pv 4) je (ju _)) (js (jN (qu ["_law_k"] [0,2] rfl (kz (sc:=jn yI) (N:=["_law_cell","_law_many","_law_letters","_law_own","_law_size","_law_spot","_law_words_here","_law_k","_law_base"]) rfl rfl (by decide +kernel)) (qV (by rfl) B.range_ (jk (pv 1) ji)) (fun s H ex=>⟨(jA (i:=0) (show bG (["_law_k","_law_cell","_law_letters"]:List Str) by decide +kernel) rfl oQ),qR,(jx jaN (pv 2) (jr jM (jr jU (jr jS (pv 1) je) (pv 0)) je) (fun _ _=>rfl))⟩)))) j4))
   (qK (qs (jH (i:=5) sc.nd rfl oQ (jr jM (jr jS (pv 0) je) (pv 4))))
   (qK (qs (jH (i:=6) sc.nd rfl oQ (ko ji)))
   (qK (qs (zd dS rfl (qV (by rfl) B.range_ (jk (pv 1) ji)) (jA (i:=7) sc.nd rfl oQ) (jm (zc (i:=8) sc.nd rfl oQ ["_law_j"] [0,5,7] rfl (kz (sc:=jn yI) (N:=["_law_cell","_law_many","_law_letters","_law_own","_law_size","_law_spot","_law_words_here","_law_k","_law_base"]) rfl rfl (by decide +kernel)) (qV (by rfl) B.range_ (jk (pv 4) ji)) (fun s H ex=>⟨(jA (i:=0) (show bG (["_law_j","_law_cell","_law_spot","_law_k"]:List Str) by decide +kernel) rfl oQ),qR,(jr jU (jr jU (jr jS (pv 1) je) (jr kP (jr kP je (pv 0)) (pv 0))) (jr kP (pv 3) (zw zE (by rfl) B.int_ KO (jk (k0 j5 (pv 0) (pv 2) (ju _)) ji))))⟩))
   (js (qD (ye eU mD mC kR (pv 6) (jk (jr jaA (jx jaN kc (jr jM (jr jS (pv 0) je) je) (fun _ _=>rfl)) (ye PySem.F.plainAttrs_str PySem.F.slot_str_join PySem.F.type_str_join jfc kc (jk (qu ["_law_each"] [2] rfl (kz (sc:=jn yI) (N:=["_law_cell","_law_many","_law_letters","_law_own","_law_size","_law_spot","_law_words_here","_law_k","_law_base"]) rfl rfl (by decide +kernel)) (qe (pv 8)) (fun s H ex=>⟨(jA (i:=0) (show bG (["_law_each","_law_letters"]:List Str) by decide +kernel) rfl oQ),qR,(jx jaN (pv 1) (jr jM (pv 0) je) (fun _ _=>rfl))⟩)) ji))) ji)))))))
   (jeG (qs (jN (pv 6))))))))))))),?_⟩
 refine⟨sm rfl,fun lo Bk=>?_⟩;have s1:=jb Bk (.lst [V.str "row",V.str "is",V.str "at",V.str "set",V.str "put",V.str "know",V.str "lose",V.str "start",V.str "entry",V.str "own",V.str "nought",V.str "pick",V.str "least",V.str "lost"]);have e1:upd H lo (.lst [V.str "row",V.str "is",V.str "at",V.str "set",V.str "put",V.str "know",V.str "lose",V.str "start",V.str "entry",V.str "own",V.str "nought",V.str "pick",V.str "least",V.str "lost"]) lo=some (.lst (Kq.map V.str)):=ja;generalize upd H lo (.lst [V.str "row",V.str "is",V.str "at",V.str "set",V.str "put",V.str "know",V.str "lose",V.str "start",V.str "entry",V.str "own",V.str "nought",V.str "pick",V.str "least",V.str "lost"])=H1 at *;have mT:∀{x y:Int},0 < y->0<=x % y/\x % y < y:=fun h=>⟨bR _ (by omega),cr _ h⟩
 have Bo:qw.length<=aB:=by show 26<=aB;rw[gr];decide
 have Hm:qzS.length<=aB:=by show 2<=aB;rw[gr];decide
 refine⟨_,rfl,_,_,rfl,rfl,(by show (0:Int) < _;decide),rfl,_,rfl,j7 (fun d=>?_) (fun d=>?_)⟩
 .refine⟨_,rfl,(n:Int),rfl,by omega,by omega,fun p hp=>?_⟩
  have s2:=jb hp (.lst []);refine yS (fun i σ' G'=>∃(u:Option V),σ'=[u,some (.int c),some (.ref lo)]/\Same H1 G'/\G' p=some (.lst (((bm i).map (jdw c)).map V.str))) ?_ ?_ ?_
  .exact⟨none,rfl,s2,ja⟩
  .rintro i σ' G' hi ⟨u,rfl,aw,ax⟩
   unfold kU yH;refine kL ?_;have hb:=mT (x:=c / 7+(0+(i:Int))) (y:=14) (by decide);have gN:=kH (xs:=Kq) (i:=(c / 7+(0+(i:Int))) % 14) hb.1 (by show _ < (14:Int);exact hb.2);refine⟨_,rfl,_,rfl,_,_,rfl,rfl,⟨by decide,by decide⟩,_,rfl,_,_,rfl,rfl,_,_,rfl,rfl,(by show (0:Int) < _;decide),lo,_,_,_,rfl,rfl,SqL.of (aw _ _ e1),gN,?_⟩;have IK:i < n:=by simpa using hi
   refine⟨_,ax,jw (by rw[am,am,lu];omega),_,rfl,fun z o e=>?_,?_⟩
   .rw[jl (jo e hp)];exact aw _ _ e
   .rw[ja,Zw,aX];rfl
  .rintro σ' G' ⟨u,rfl,aw,ax⟩
   rw[show ((n:Int)).toNat=n from rfl]at ax;exact q p _ G' (jgh hn) (s1.trans aw) (s1.free hp) ax
 refine⟨_,rfl,_,_,rfl,rfl,(by show (0:Int) < _;decide),?_⟩;have hsz:=mT (x:=c) (y:=8) (by decide);dsimp only;generalize c % 8=size at *;refine⟨_,rfl,rfl,_,rfl,j7 (fun d2=>?_) (fun d2=>?_)⟩
 .refine⟨_,rfl,(n:Int),rfl,by omega,by omega,fun p hp=>?_⟩
  have s2:=jb hp (.lst []);refine yS (fun i σ' G'=>∃(u:Option V),σ'=[u,some (.int c),some (.str qw)]/\Same H1 G'/\G' p=some (.lst (((bm i).map (jgl c)).map V.str))) ?_ ?_ ?_
  .exact⟨none,rfl,s2,ja⟩
  .rintro i σ' G' hi ⟨u,rfl,aw,ax⟩
   unfold kU yH;refine kL ?_;have hb:=mT (x:=c / 8+(0+(i:Int))) (y:=26) (by decide);have ez:=Ym hb.1 hb.2;refine⟨_,rfl,_,rfl,_,_,rfl,rfl,⟨by decide,by decide⟩,_,rfl,_,_,rfl,rfl,_,_,rfl,rfl,(by show (0:Int) < _;decide),qw,_,_,rfl,rfl,Bo,ez,?_⟩;have IK:i < n:=by simpa using hi
   refine⟨_,ax,jw (by rw[am,am,lu];omega),_,rfl,fun z o e=>?_,?_⟩
   .rw[jl (jo e hp)];exact aw _ _ e
   .rw[ja,Zw,aX];rfl
  .rintro σ' G' ⟨u,rfl,aw,ax⟩
   rw[show ((n:Int)).toNat=n from rfl]at ax;exact q p _ G' (jgk (by omega)) (s1.trans aw) (s1.free hp) ax
 have d2':¬size=0:=fun e=>d2 (Qd (Qi V.int e))
 refine⟨_,rfl,_,_,rfl,rfl,⟨by decide,by decide⟩,_,rfl,_,_,rfl,rfl,(by show (0:Int) < size;omega),?_⟩;dsimp only;have dB:=mT (x:=c / 8) (y:=size) (by omega);generalize c / 8 % size=bh at *;refine⟨sm rfl,fun lw pj=>?_⟩;have s2:=jb pj (.lst []);have e2:upd H1 lw (.lst []) lw=some (.lst []):=ja;have vh:H lw=none:=s1.free pj;generalize upd H1 lw (.lst [])=H2 at *;have bL:=s1.trans s2;refine⟨_,rfl,(n:Int),rfl,by omega,by omega,?_⟩;refine JE (n:=n) (fun i σ G=>∃(x7 x8:Option V),σ=[some (.int c),some (.int n),some (.str qw),some (.ref lo),some (.int size),some (.int bh),some (.ref lw),x7,x8]/\Same H G/\G lw=some (.lst (((bm i).map (lgW c size bh)).map V.str))) ?_ ?_ ?_
 .exact⟨none,none,rfl,bL,e2⟩
 .rintro i σ G hi ⟨x7,x8,rfl,sG,pM⟩
  refine⟨_,rfl,size,rfl,by omega,by omega,fun p hp=>?_⟩;have s3:=jb hp (.lst []);have npw:lw≠p:=jo pM hp;refine yS (fun j σ' G'=>∃(u:Option V),σ'=[u,some (.int c),some (.int bh),some (.int (0+(i:Int)))]/\Same G G'/\G' p=some (.lst (((bm j).map (bsW c bh i)).map V.int))) ?_ ?_ ?_
  .exact⟨none,rfl,s3,ja⟩
  .rintro j σ' G' hj ⟨u,rfl,aw,ax⟩
   have hj8:j < size.toNat:=by simpa using hj
   unfold kU yH;refine kL ?_;refine⟨_,rfl,_,_,rfl,rfl,⟨by decide,by decide⟩,_,rfl,_,_,rfl,rfl,.inl ⟨by decide,by decide⟩,_,rfl,_,_,rfl,rfl,.inr ⟨by omega,by omega⟩,_,_,rfl,rfl,_,rfl,_,rfl,_,rfl,rfl,.inr ⟨_,rfl,?_⟩⟩;refine⟨_,_,rfl,rfl,.inr ⟨by split <;> decide,by split <;> decide⟩,_,_,rfl,rfl,?_⟩;refine⟨_,ax,jw (by rw[am,am,lu];omega),_,rfl,fun z o e=>?_,?_⟩
   .rw[jl (jo e hp)];exact aw _ _ e
   .rw[ja,Zw,aX];rfl
  rintro σ' G1 ⟨u,rfl,dY,Ci⟩;have hb:=mT (x:=c / 144) (y:=2) (by decide);have Ho:=jg5 hb.1 hb.2;refine⟨_,rfl,.inl ⟨rfl,_,SqL.of (dY _ _ pM)⟩,?_⟩;refine⟨_,rfl,_,_,rfl,rfl,⟨by decide,by decide⟩,_,_,rfl,rfl,(by show (0:Int) < _;decide),qzS,_,_,rfl,rfl,Hm,Ho,?_⟩;refine⟨rfl,_,rfl,p,rfl,⟨_,SqL.of Ci⟩,fun p2 ii=>?_⟩;have s4:=jb ii (.lst []);refine qh (xs:=((bm size.toNat).map (bsW c bh i)).map V.int) (fun j σ' G'=>∃(u:Option V),σ'=[u,some (.str qw)]/\Same G1 G'/\G' p2=some (.lst ((((bm j).map fun j=>zN (bsW c bh i j % 26)).map fun ch=>(⟨#[ch]⟩:Str)).map V.str))) ?_ ?_ ?_ ?_
  .exact⟨none,rfl,s4,ja⟩
  .rintro j σ' G' _ ⟨u,rfl,aw,_⟩
   exact SqL.of (aw _ _ Ci)
  .rintro j x σ' G' hx ⟨u,rfl,aw,ax⟩
   have hj:j < size.toNat:=by
    have:=(aV.mp hx).1;rw[am,am,lu]at this;exact this
   rw[bA,bA,EY hj]at hx
   cases hx
   unfold kU yH;refine kL ?_;have dD:=mT (x:=bsW c bh i j) (y:=26) (by decide);have ez:=Ym dD.1 dD.2;refine⟨_,rfl,_,rfl,_,_,rfl,rfl,(by show (0:Int) < _;decide),qw,_,_,rfl,rfl,Bo,ez,?_⟩;refine⟨_,ax,jw (by rw[am,am,am,lu];omega),_,rfl,fun z o e=>?_,?_⟩
   .rw[jl (jo e ii)];exact aw _ _ e
   .rw[ja,Zw,aX,aX];rfl
  rintro σ' G2 ⟨u,rfl,An,vY⟩;rw[am,am,lu]at vY;have eh:∀y∈((bm size.toNat).map fun j=>zN (bsW c bh i j % 26)).map fun ch=>(⟨#[ch]⟩:Str),y.length=1:=fun y hy=>by
   obtain⟨ch,_,rfl⟩:=bf.mp hy;rfl
  have fT:((((bm size.toNat).map fun j=>zN (bsW c bh i j % 26)).map fun ch=>(⟨#[ch]⟩:Str)).map (·.length)).sum=size.toNat:=by
   rw[ln];rw[show ((fun x:Str=>x.length) ∘ fun ch=>(⟨#[ch]⟩:Str))=fun _=>1 from rfl];generalize hL:(bm size.toNat).map (fun j=>zN (bsW c bh i j % 26))=L;have hl:L.length=size.toNat:=by rw[<- hL];simp
   rw[<- hl];clear hL hl vY;induction L with
   | nil=>rfl
   | cons y r ih=>rw[bW,List.sum_cons,ih,bi];omega
  refine⟨"",p2,_,rfl,rfl,SqL.of vY,(by rw[fT];show size.toNat+_ * 0<=_;omega),?_⟩;have Bv:(mB "" (((bm size.toNat).map fun j=>zN (bsW c bh i j % 26)).map fun ch=>(⟨#[ch]⟩:Str))).length<=7:=by
   show (mB "" _).cps.size<=7;rw[<- fL,ZS];simp;omega
  refine⟨_,_,rfl,rfl,?_,?_⟩
  .have:∀qc,(⟨#[qc]⟩:Str).length=1:=fun _=>rfl
   rw[this];exact aZ (by omega:1+(mB "" _).length<=1000) (Kd (ay _))
  have LL:=An _ _ (dY _ _ pM);refine⟨lw,_,_,rfl,rfl,LL,jw (by rw[am,am,lu];omega),?_⟩;refine⟨some (.int (0+(i:Int))),some (.ref p),rfl,fun z o e=>?_,?_⟩
  .rw[jl (jo e vh)];exact An _ _ (dY _ _ (sG _ _ e))
  .rw[ja,Zw,aX];rfl
 .rintro σ G ⟨x7,x8,rfl,sG,pM⟩
  exact⟨_,rfl,q lw _ G (jhd (by omega) dB.1 dB.2 (by omega)) sG vh pM⟩
theorem jgo(F:Fun K "_law_mix" "_law_mix" jf3 f fd):FnOk P w K mg base CX0 1 f fd ["_law_seed","_law_k"] spMix:=by
 have sc:FnScope ["_law_seed","_law_k"] ["_law_seed","_law_k"] (jn jf3):=fQ;refine F.ok sc (fun vs H Q E h=>?_) (fun az A outer s H vs Q E hr h=>?_)
 .obtain⟨s,k,rfl,_⟩:=h
  rfl
 obtain⟨s,k,rfl,q⟩:=h;refine⟨_,(js (jN (jr jM (jr jU (jr jU (jr kP (pv 0) je) (jr kP (pv 1) je)) je) je))),?_⟩;exact⟨_,rfl,_,_,rfl,rfl,.inr ⟨by decide,by decide⟩,_,rfl,_,_,rfl,rfl,.inr ⟨by decide,by decide⟩,_,_,rfl,rfl,_,_,rfl,rfl,_,_,rfl,rfl,(by show (0:Int) < _;decide),q _⟩
theorem je4(F:Fun K "_law_made" "_law_made" jc6 f fd)(B:Free0 mg)(cP:Fn P w K mg base 1 "_law_mix" ["_law_seed","_law_k"] spMix):FnOk P w K mg base CX0 2 f fd ["_law_seed","_law_near"] spMade:=by
 have sc:FnScope ["_law_seed","_law_near","_law_steps","_law_last","_law_base","_law_place_here","_law_k","_law_value"] ["_law_seed","_law_near"] (jn jc6):=fQ;refine F.ok sc (fun vs H Q E h=>?_) (fun az A outer s H vs Q E hr h=>?_)
 .obtain⟨s,n,rfl,_⟩:=h
  rfl
 obtain⟨sd,nr,rfl,q⟩:=h;refine⟨_,(jm (jH (i:=2) sc.nd rfl oQ (ko ji))
   (jm (jH (i:=3) sc.nd rfl oQ (jr kO (jr jM (jr kP (pv 1) je) (jr ze je je)) (jr kP je (jr ze je je))))
   (jm (jH (i:=4) sc.nd rfl oQ (pv 3))
   (jm (jH (i:=5) sc.nd rfl oQ (jr kO (jx jG (ko (jk (pv 1) (jk (jr kO (pv 1) (jr ze je je)) ji))) (jr jM (jr jS (pv 0) je) je) (fun _ _=>rfl)) (jr jM (jr jS (pv 0) je) je)))
   (jm (zd dS rfl (qV (by rfl) B.range_ (jk (jr jM (pv 0) je) ji)) (jA (i:=6) sc.nd rfl oQ) (jm (jH (i:=0) sc.nd rfl oQ (jV cP hr (jk (pv 0) (jk (pv 6) ji))))
   (jm (jH (i:=7) sc.nd rfl oQ (jx jG (ko (jk (jr jU (jr jU (pv 3) je) (jr jM (pv 0) je)) (jk (jr kO (jr kO (pv 3) je) (jr jM (pv 0) je)) ji))) (jr jM (jr jS (pv 0) je) je) (fun _ _=>rfl)))
   (jm (qD (ye eU mD mC kR (pv 2) (jk (j0 (jk (pv 5) (jk (pv 7) ji))) ji)))
   (jm (jH (i:=3) sc.nd rfl oQ (pv 7))
   (js (jH (i:=5) sc.nd rfl oQ (jr jU (jr jU (jr jU (pv 5) je) (jr jM (jr jS (pv 0) je) je)) (jr kP (jr ze je je) (zw zE (by rfl) B.int_ KO (jk (k0 j5 (jr jM (jr jS (pv 0) je) je) je (ju _)) ji)))))))))))
   (js (jN (j0 (jk (pv 4) (jk (zw qF (by rfl) B.tuple_ ym (jk (pv 2) ji)) (jk (j0 ji) ji))))))))))),?_⟩
 refine⟨sm rfl,fun l hl=>?_⟩;have s1:=jb hl (.lst []);have e1:upd H l (.lst []) l=some (.lst []):=ja;generalize upd H l (.lst [])=H1 at *;refine⟨_,rfl,_,_,rfl,rfl,.inr ⟨by decide,by decide⟩,_,_,rfl,rfl,⟨by decide,by decide,by decide⟩,_,_,rfl,rfl,(by show (0:Int) < _;decide),_,_,rfl,rfl,⟨by decide,by decide,by decide⟩,_,_,rfl,rfl,.inl ⟨by decide,by decide⟩,_,_,rfl,rfl,?_⟩;dsimp only;generalize nr * 1000003 % 10 ^ aL 17 - 5 * 10 ^ aL 16=b0 at *;refine⟨_,rfl,?_⟩;refine⟨_,rfl,_,rfl,_,_,rfl,rfl,⟨by decide,by decide,by decide⟩,_,_,rfl,rfl,sm rfl,fun l2 aQ=>?_⟩;dsimp only;have s2:=jb aQ (.lst [V.int nr,V.int (nr - 10 ^ aL 17)]);have e2:upd H1 l2 (.lst [V.int nr,V.int (nr - 10 ^ aL 17)]) l2=some (.lst [V.int nr,V.int (nr - 10 ^ aL 17)]):=ja;generalize upd H1 l2 (.lst [V.int nr,V.int (nr - 10 ^ aL 17)])=H2 at *;obtain⟨p0,o_⟩:=yY nr (nr - 10 ^ aL 17) (i:=sd / 3 % 2) (bR _ (by decide)) (cr _ (by decide));refine⟨_,rfl,_,_,rfl,rfl,⟨by decide,by decide⟩,_,_,rfl,rfl,(by show (0:Int) < _;decide),l2,_,_,_,rfl,rfl,SqL.of e2,o_,_,rfl,_,_,rfl,rfl,⟨by decide,by decide⟩,_,_,rfl,rfl,(by show (0:Int) < _;decide),_,_,rfl,rfl,?_⟩;dsimp only;generalize p0 - sd / 6 % 4=pl0 at *;refine⟨_,rfl,_,_,rfl,rfl,(by show (0:Int) < _;decide),?_⟩;obtain⟨cnt,BP⟩:∃cnt,cnt=sd % 4:=⟨_,rfl⟩
 have c0:0<=cnt:=by rw[BP];exact bR _ (by decide)
 have c1:cnt<=3:=by
  have:=cr sd (b:=4) (by decide);omega
 have gp:H2 l=some (.lst []):=s2 _ _ e1;have Fx:=s1.trans s2;refine⟨cnt,by rw[BP],by omega,by omega,?_⟩;refine JE (n:=cnt.toNat) (fun i σ G=>∃(u6 u7:Option V) (rV last pl:Int) (ps:List (Int×Int)) (xs:List V),σ=[some (.int rV),some (.int nr),some (.ref l),some (.int last),some (.int b0),some (.int pl),u6,u7]/\Same H G/\G l=some (.lst xs)/\HeldL G (ps.map pD) xs/\kg ps/\(∀z∈ps,z.1 < pl)/\ps.length=i) ?_ ?_ ?_
 .exact⟨none,none,sd,b0,pl0,[],[],rfl,Fx,gp,jp,List.Pairwise.nil,fun z hz=>(by cases hz),rfl⟩
 .rintro i σ G hi ⟨u6,u7,rV,last,pl,ps,xs,rfl,sG,bZ,aY,fe,aG,bC⟩
  refine⟨_,rfl,_,rfl,rV,_,rfl,fun bF=>?_⟩;refine⟨_,rfl,_,_,rfl,rfl,_,rfl,_,_,rfl,rfl,(by show (0:Int) < _;decide),_,_,rfl,rfl,_,rfl,_,_,rfl,rfl,_,rfl,_,_,rfl,rfl,(by show (0:Int) < _;decide),_,_,rfl,rfl,sm rfl,fun l4 du=>?_⟩;have s4:=jb du (.lst [V.int (last+1+bF % 3),V.int (last - 1 - bF % 3)]);have e4:upd G l4 (.lst [V.int (last+1+bF % 3),V.int (last - 1 - bF % 3)]) l4=some (.lst [V.int (last+1+bF % 3),V.int (last - 1 - bF % 3)]):=ja;obtain⟨val,oW⟩:=yY (last+1+bF % 3) (last - 1 - bF % 3) (i:=bF / 3 % 2) (bR _ (by decide)) (cr _ (by decide));refine⟨_,rfl,_,_,rfl,rfl,⟨by decide,by decide⟩,_,_,rfl,rfl,(by show (0:Int) < _;decide),l4,_,_,_,rfl,rfl,SqL.of e4,oW,?_⟩;have Ch:=s4 _ _ bZ;have GF:=aY.mono s4;have Fy:=sG.trans s4;refine⟨_,rfl,.inl ⟨rfl,_,SqL.of Ch⟩,_,rfl,_,rfl,sm rfl,fun t ht=>?_⟩;have s5:=jb ht (.tup [V.int pl,V.int val]);have e5:upd (upd G l4 (.lst [V.int (last+1+bF % 3),V.int (last - 1 - bF % 3)])) t (.tup [V.int pl,V.int val]) t=some (.tup [V.int pl,V.int val]):=ja;have Cg:=s5 _ _ Ch;have GD:=GF.mono s5;have mO:=Fy.trans s5;have oR:=aY.length;rw[am]at oR;refine⟨l,_,_,rfl,rfl,Cg,jw (by omega),?_⟩;have e6:upd (upd (upd G l4 (.lst [V.int (last+1+bF % 3),V.int (last - 1 - bF % 3)])) t (.tup [V.int pl,V.int val])) l (.lst (xs++[.ref t])) l=some (.lst (xs++[.ref t])):=ja;have tk:TK (upd (upd G l4 (.lst [V.int (last+1+bF % 3),V.int (last - 1 - bF % 3)])) t (.tup [V.int pl,V.int val])) (upd (upd (upd G l4 (.lst [V.int (last+1+bF % 3),V.int (last - 1 - bF % 3)])) t (.tup [V.int pl,V.int val])) l (.lst (xs++[.ref t]))):=TK.upd Cg (by intro xs z;cases z);have uP:=qg (tk.heldL GD) (tk.held (jv e5 (jc jT (jc jT jp))));have s6:Same H (upd (upd (upd G l4 (.lst [V.int (last+1+bF % 3),V.int (last - 1 - bF % 3)])) t (.tup [V.int pl,V.int val])) l (.lst (xs++[.ref t]))):=fun c o e=>by rw[jl (jo e hl)];exact mO _ _ e
  refine⟨_,rfl,?_⟩;have done:∀(y:Int) (u7:Option V),0<=y->∃(u6 Fk:Option V) (Fu Gf At:Int) (eZ:List (Int×Int)) (ui:List V),[some (.int bF),some (.int nr),some (.ref l),some (.int val),some (.int b0),some (.int (pl+1+bF / 6 % 3+10 ^ aL 17 * y)),u7,some (.int val)]=[some (.int Fu),some (.int nr),some (.ref l),some (.int Gf),some (.int b0),some (.int At),u6,Fk]/\Same H (upd (upd (upd G l4 (.lst [V.int (last+1+bF % 3),V.int (last - 1 - bF % 3)])) t (.tup [V.int pl,V.int val])) l (.lst (xs++[.ref t])))/\(upd (upd (upd G l4 (.lst [V.int (last+1+bF % 3),V.int (last - 1 - bF % 3)])) t (.tup [V.int pl,V.int val])) l (.lst (xs++[.ref t]))) l=some (.lst ui)/\HeldL (upd (upd (upd G l4 (.lst [V.int (last+1+bF % 3),V.int (last - 1 - bF % 3)])) t (.tup [V.int pl,V.int val])) l (.lst (xs++[.ref t]))) (eZ.map pD) ui/\kg eZ/\(∀z∈eZ,z.1 < At)/\eZ.length=i+1:=by
   intro y u7 hy;have m0:=bR (bF / 6) (b:=3) (by decide);have hb:pl < pl+1+bF / 6 % 3+10 ^ aL 17 * y:=by
    have:(10:Int) ^ aL 17=100000000000000000:=by decide
    rw[this];omega
   refine⟨u7,some (.int val),bF,val,_,ps++[(pl,val)],xs++[.ref t],rfl,s6,e6,by rw[aX];exact uP,lm.mpr ⟨fe,Ps _ _,fun x hx y hy=>by rw[bu.mp hy];exact aG x hx⟩,fun z hz=>?_,by rw[aP,bC];rfl⟩;rcases cZ.mp hz with hz | hz
   .exact P3 (aG z hz) hb
   .rw[bu.mp hz];exact hb
  refine⟨_,rfl,_,_,rfl,rfl,_,rfl,_,_,rfl,rfl,⟨by decide,by decide⟩,_,_,rfl,rfl,(by show (0:Int) < _;decide),_,_,rfl,rfl,_,_,rfl,rfl,⟨by decide,by decide,by decide⟩,_,rfl,_,_,rfl,rfl,⟨by decide,by decide⟩,_,_,rfl,rfl,(by show (0:Int) < _;decide),rfl,.inr ⟨_,rfl,?_⟩⟩;refine⟨_,_,rfl,rfl,.inr ⟨by split <;> decide,by split <;> decide⟩,_,_,rfl,rfl,?_⟩;exact done _ _ (by split <;> decide)
 .rintro σ G ⟨u6,u7,rV,last,pl,ps,xs,rfl,sG,bZ,aY,fe,aG,bC⟩
  refine⟨_,rfl,_,rfl,l,_,rfl,.inl ⟨SqL.of bZ,fun t ht=>?_⟩⟩;have s3:=jb ht (.tup xs);have e3:upd G t (.tup xs) t=some (.tup xs):=ja;generalize upd G t (.tup xs)=G1 at *;refine⟨sm rfl,fun z hz=>?_⟩;have s4:=jb hz (.tup []);have e4:upd G1 z (.tup []) z=some (.tup []):=ja;generalize upd G1 z (.tup [])=G2 at *;refine⟨sm rfl,fun r fU=>?_⟩;have s5:=jb fU (.tup [V.int b0,V.ref t,V.ref z]);have mQ:=s4.trans s5;refine q _ b0 ps _ (sG.trans (s3.trans mQ)) fe (by omega) (jv ja (jc jT (jc (jv (mQ _ _ e3) (aY.mono (s3.trans mQ))) (jc (jv (s5 _ _ e4) jp) jp))))
theorem jb4(F:Fun K "_law_holds" "_law_holds" jas f fd):FnOk P w K mg base CX0 1 f fd ["_law_row","_law_place_here"] (spHoldsL K):=by
 have sc:FnScope ["_law_row","_law_place_here","_law_value","_law_at","_law_number_here"] ["_law_row","_law_place_here"] (jn jas):=fQ;refine F.ok sc (fun vs H Q E h=>?_) (fun az A outer s H vs Q E hr h=>?_)
 .obtain⟨v,p,q,rfl,_⟩:=h
  rfl
 obtain⟨v,p,⟨b,ps,ws⟩,rfl,hv,q⟩:=h;obtain⟨a,c,e,qs,us,rfl,ha,hc,iT,he,em⟩:=Je hv;dsimp only at ha iT em;have hq:=qf (K:=K) iT;have hw:=qf (K:=K) em;refine⟨_,(jm (jH (i:=2) sc.nd rfl oQ (jx jq (pv 0) je (fun _ _=>rfl)))
   (jm (zd dS rfl (zM (jx jq (pv 0) je (fun _ _=>rfl))) (qA rfl (jI (jA (i:=3) sc.nd rfl oQ) (jI (jA (i:=4) sc.nd rfl oQ) kE))) (js (kB (jW zV (pv 3) (pv 1) (ju _)) (js (jH (i:=2) sc.nd rfl oQ (pv 4))) j4)))
   (jm (zd dS rfl (zM (jx jq (pv 0) je (fun _ _=>rfl))) (qA rfl (jI (jA (i:=3) sc.nd rfl oQ) (jI (jA (i:=4) sc.nd rfl oQ) kE))) (js (kB (jW j5 (pv 3) (pv 1) (ju _)) (js (jH (i:=2) sc.nd rfl oQ (pv 4))) j4)))
   (js (jN (pv 2)))))),?_⟩
 refine⟨_,rfl,a,_,_,_,rfl,rfl,SqT.of ha,rfl,?_⟩;refine⟨_,rfl,a,_,_,_,rfl,rfl,SqT.of ha,rfl,c,rfl,⟨_,SqT.of hc⟩,?_⟩;refine Zb (xs:=qs) (fun i σ G=>∃u v,σ=[some (.ref a),some (.int p),some (.int (jz b (ps.take i) p)),u,v]/\H=G) ?_ ?_ ?_ ?_
 .exact⟨none,none,rfl,rfl⟩
 .rintro i σ G _ ⟨u,v,rfl,rfl⟩
  exact SqT.of hc
 .rintro i x σ G hx ⟨u,v,rfl,rfl⟩
  have hi:i < ps.length:=by
   rw[<- hq.1];exact (aV.mp hx).1
  obtain⟨c',e1,e2⟩:=hq.2 i hi;rw[hx]at e1
  cases e1
  have es:jz b (ps.take (i+1)) p=if ps[i].1<=p then ps[i].2 else jz b (ps.take i) p:=by
   rw[cq,aC hi];exact zO _ _ _ _
  refine⟨c',_,rfl,e2,rfl,_,_,rfl,_,_,rfl,rfl,?_⟩;refine⟨_,rfl,_,rfl,_,_,rfl,rfl,_,rfl,j7 (fun d=>?_) (fun d=>?_)⟩
  .have d':=Qc d
   rw[Qg d']at es;exact⟨_,rfl,some (.int ps[i].1),some (.int ps[i].2),by rw[es];rfl,rfl⟩
  .have d':¬ps[i].1<=p:=fun z=>d (Qd z)
   rw[Qf d']at es;exact⟨some (.int ps[i].1),some (.int ps[i].2),by rw[es];rfl,rfl⟩
 rintro σ G ⟨u,v,rfl,rfl⟩;rw[hq.1,ce];refine⟨_,rfl,a,_,_,_,rfl,rfl,SqT.of ha,rfl,e,rfl,⟨_,SqT.of he⟩,?_⟩;refine Zb (xs:=us) (fun i σ G=>∃u v,σ=[some (.ref a),some (.int p),some (.int (jY (b,ps,ws.take i) p)),u,v]/\H=G) ?_ ?_ ?_ ?_
 .exact⟨u,v,rfl,rfl⟩
 .rintro i σ G _ ⟨u,v,rfl,rfl⟩
  exact SqT.of he
 .rintro i x σ G hx ⟨u,v,rfl,rfl⟩
  have hi:i < ws.length:=by
   rw[<- hw.1];exact (aV.mp hx).1
  obtain⟨c',e1,e2⟩:=hw.2 i hi;rw[hx]at e1
  cases e1
  have es:=jaQ (b:=b) (ps:=ps) (p:=p) hi;refine⟨c',_,rfl,e2,rfl,_,_,rfl,_,_,rfl,rfl,?_⟩;refine⟨_,rfl,_,rfl,rfl,_,rfl,j7 (fun d=>?_) (fun d=>?_)⟩
  .have d':ws[i].1=p:=by
    have:=Qc d;injection this
   rw[Qg d']at es;exact⟨_,rfl,some (.int ws[i].1),some (.int ws[i].2),by rw[es];rfl,rfl⟩
  .have d':¬ws[i].1=p:=fun z=>d (Qd (Qi V.int z))
   rw[Qf d']at es;exact⟨some (.int ws[i].1),some (.int ws[i].2),by rw[es];rfl,rfl⟩
 .rintro σ G ⟨u,v,rfl,rfl⟩
  rw[hw.1,ce];exact⟨_,rfl,q⟩
theorem jaD(F:Fun K "_law_stairs" "_law_stairs" y7 f fd)(B:Free0 mg)(fD:Fn P w K mg base 1 "_law_holds" ["_law_row","_law_place_here"] (spHoldsL K)):FnOk P w K mg base CX0 2 f fd ["_law_row"] (spStairsL K):=by
 have sc:FnScope ["_law_row","_law_places","_law_at","_law_number_here","_law_last","_law_steps","_law_place_here","_law_value"] ["_law_row"] (jn y7):=fQ;refine F.ok sc (fun vs H Q E h=>?_) (fun az A outer s H vs Q E hr h=>?_)
 .obtain⟨v,q,rfl,_⟩:=h
  rfl
 obtain⟨v,⟨b,ps,ws⟩,rfl,hv,fe,hl,oU,q⟩:=h;dsimp only at fe hl oU q;have uT:=hv;obtain⟨a,c,e,qs,us,rfl,ha,hc,iT,he,em⟩:=Je hv;dsimp only at ha iT em;have hq:=qf (K:=K) iT;have hw:=qf (K:=K) em;have bd:=hq.1;refine⟨_,(jm (zc (i:=1) sc.nd rfl oQ ["_law_at","_law_number_here"] [] rfl (kz (sc:=jn y7) (N:=["_law_row","_law_places","_law_at","_law_number_here","_law_last","_law_steps","_law_place_here","_law_value"]) rfl rfl (by decide +kernel)) (zM (jx jq (pv 0) je (fun _ _=>rfl))) (fun s H ex=>⟨(Jc (K:=K) (n:=2) rfl (jI (jA (i:=0) (show bG (["_law_at","_law_number_here"]:List Str) by decide +kernel) rfl oQ) (jI (jA (i:=1) (show bG (["_law_at","_law_number_here"]:List Str) by decide +kernel) rfl oQ) kE))),qR,(pv 0)⟩))
   (jm (zd dS rfl (zM (jx jq (pv 0) je (fun _ _=>rfl))) (qA rfl (jI (jA (i:=2) sc.nd rfl oQ) (jI (jA (i:=3) sc.nd rfl oQ) kE))) (js (qD (ye eU tW tV zx (pv 1) (jk (ko (jk (pv 2) (jk (jr jU (pv 2) je) ji))) ji)))))
   (jm (jH (i:=4) sc.nd rfl oQ (jx jq (pv 0) je (fun _ _=>rfl)))
   (jm (jH (i:=5) sc.nd rfl oQ (ko ji))
   (jm (zd dS rfl (qe (qP (qC (P:=P) (w:=w) rfl) (by rfl) B.sorted_ qW (jk (zw (zh (P:=P) (w:=w) rfl) (by rfl) B.set_ ja0 (jk (pv 1) ji)) ji))) (jA (i:=6) sc.nd rfl oQ) (jm (jH (i:=7) sc.nd rfl oQ (jV fD hr (jk (pv 0) (jk (pv 6) ji))))
   (js (kB (jW jfL (pv 7) (pv 4) (ju _)) (jm (qD (ye eU mD mC kR (pv 5) (jk (j0 (jk (pv 6) (jk (pv 7) ji))) ji)))
   (js (jH (i:=4) sc.nd rfl oQ (pv 7)))) j4))))
   (js (jN (j0 (jk (jx jq (pv 0) je (fun _ _=>rfl)) (jk (zw qF (by rfl) B.tuple_ ym (jk (pv 5) ji)) ji)))))))))),?_⟩
 refine⟨_,rfl,a,_,_,_,rfl,rfl,SqT.of ha,rfl,c,rfl,⟨_,SqT.of hc⟩,fun p hp=>?_⟩;have s2:=jb hp (.lst []);refine zC (xs:=qs) (fun i σ' G'=>∃u3 u4,σ'=[u3,u4]/\Same H G'/\G' p=some (.lst ((ps.take i).map fun q=>V.int q.1))) ⟨none,none,rfl,s2,ja⟩ ?_ ?_ ?_
 .rintro i σ' G' _ ⟨u3,u4,rfl,aw,_⟩
  exact SqT.of (aw _ _ hc)
 .rintro i x σ' G' hx ⟨u3,u4,rfl,aw,ax⟩
  have hi:i < ps.length:=by
   rw[<- bd];exact (aV.mp hx).1
  obtain⟨c',f1,f2⟩:=hq.2 i hi;rw[hx]at f1
  cases f1
  refine⟨c',_,rfl,aw.sqT f2,rfl,_,_,rfl,_,_,rfl,rfl,?_⟩;unfold yH;refine kL ?_;refine⟨_,rfl,_,ax,?_,_,_,rfl,?_,?_⟩
  .rw[am,a_]
   exact jw (by omega)
  .intro z o e
   rw[jl (jo e hp)];exact aw _ _ e
  .rw[ja,cq,aC hi,aX]
   rfl
 rintro σ' H1 ⟨u3,u4,rfl,s1,ax⟩;rw[bd,ce]at ax;have e1:H1 p=some (.lst ((kA ps (ws.take 0)).map V.int)):=by
  rw[ax];unfold kA;rw[Po,List.flatMap_nil,dj,ln];rfl
 clear ax s2;refine⟨_,rfl,a,_,_,_,rfl,rfl,SqT.of (s1 _ _ ha),rfl,e,rfl,⟨_,SqT.of (s1 _ _ he)⟩,?_⟩;refine Zb (xs:=us) (fun i σ G=>∃x2 x3,σ=[some (.ref a),some (.ref p),x2,x3,none,none,none,none]/\Same H G/\G p=some (.lst ((kA ps (ws.take i)).map V.int))) ?_ ?_ ?_ ?_
 .exact⟨none,none,rfl,s1,e1⟩
 .rintro i σ G _ ⟨x2,x3,rfl,sG,_⟩
  exact SqT.of (sG _ _ he)
 .rintro i x σ G hx ⟨x2,x3,rfl,sG,ax⟩
  have hi:i < ws.length:=by
   rw[<- hw.1];exact (aV.mp hx).1
  obtain⟨c',f1,f2⟩:=hw.2 i hi;rw[hx]at f1
  cases f1
  refine⟨c',_,rfl,sG.sqT f2,rfl,_,_,rfl,_,_,rfl,rfl,?_⟩;refine⟨_,rfl,.inl ⟨rfl,_,SqL.of ax⟩,_,rfl,_,rfl,_,_,rfl,rfl,sm rfl,fun l1 aT=>?_⟩;dsimp only;have t1:=jb aT (.lst [V.int ws[i].1,V.int (ws[i].1+1)]);have f1:upd G l1 (.lst [V.int ws[i].1,V.int (ws[i].1+1)]) l1=some (.lst [V.int ws[i].1,V.int (ws[i].1+1)]):=ja;generalize upd G l1 (.lst [V.int ws[i].1,V.int (ws[i].1+1)])=G1 at *;refine⟨p,l1,_,_,rfl,rfl,t1 _ _ ax,f1,Kd (by rw[am,zB,a_];simp only[bi,lv];omega),?_⟩;refine⟨_,_,rfl,fun z o e=>?_,?_⟩
  .rw[jl (jo e hp)]
   exact t1 _ _ (sG _ _ e)
  .rw[ja,jcl hi,aX]
   rfl
 rintro σ H3 ⟨x2,x3,rfl,s3,e3⟩;rw[hw.1,ce]at e3;refine⟨_,rfl,a,_,_,_,rfl,rfl,SqT.of (s3 _ _ ha),rfl,?_⟩;refine⟨sm rfl,fun ls Bi=>?_⟩;have t4:=jb Bi (.lst []);have e4:upd H3 ls (.lst []) ls=some (.lst []):=ja;generalize upd H3 ls (.lst [])=H4 at *;have s4:=s3.trans t4;have hel0:(kA ps ws).length < 64:=by rw[zB];omega
 have fX:(kA ps ws).length<=1000:=by omega
 refine⟨_,rfl,p,_,rfl,SqL.of (t4 _ _ e3),fX,fun v mZ=>?_⟩;obtain⟨d1,d2,d3⟩:=zg (kA ps ws);refine⟨v,_,rfl,ja,by omega,fun l5 ms Bs dN fS=>?_⟩;have t5:=(jb mZ (K1 P w v (dedup (kA ps ws)))).trans (jb Bs (.lst (ms.map V.int)));have e5:upd (upd H4 v (K1 P w v (dedup (kA ps ws)))) l5 (.lst (ms.map V.int)) l5=some (.lst (ms.map V.int)):=ja;have n5:l5≠ls:=(jo ((jb mZ (K1 P w v (dedup (kA ps ws)))) _ _ e4) Bs).symm;generalize upd (upd H4 v (K1 P w v (dedup (kA ps ws)))) l5 (.lst (ms.map V.int))=H5 at *;have s5:=s4.trans t5;have Mn:=t5 _ _ e4;have E:=jfp dN fS;have pe:ms.length<=ps.length+2 * ws.length:=by rw[dN.length_eq];rw[zB]at d2;exact d2
 have Iq:H ls=none:=s3.free Bi;refine⟨l5,rfl,⟨_,SqL.of e5⟩,?_⟩;refine yj (xs:=ms.map V.int) (fun i σ G=>∃x6 x7 xs,σ=[some (.ref a),some (.ref p),x2,x3,some (.int (stN b ((ms.take i).map fun x=>(x,jY (b,ps,ws) x))).1),some (.ref ls),x6,x7]/\Same H G/\G l5=some (.lst (ms.map V.int))/\G ls=some (.lst xs)/\HeldL G ((stN b ((ms.take i).map fun x=>(x,jY (b,ps,ws) x))).2.map pD) xs) ?_ ?_ ?_ ?_
 .exact⟨none,none,[],rfl,s5,e5,Mn,jp⟩
 .rintro i σ G _ ⟨x6,x7,xs,rfl,sG,pN,l_,hx⟩
  exact SqL.of pN
 .rintro i x σ G hx ⟨x6,x7,xs,rfl,sG,pN,l_,aY⟩
  have hi:i < ms.length:=by
   have:=(aV.mp hx).1;rw[am]at this;exact this
  rw[bA,aC hi]at hx
  cases hx
  have cj:stN b ((ms.take (i+1)).map fun x=>(x,jY (b,ps,ws) x))=if jY (b,ps,ws) ms[i]=(stN b ((ms.take i).map fun x=>(x,jY (b,ps,ws) x))).1 then stN b ((ms.take i).map fun x=>(x,jY (b,ps,ws) x)) else (jY (b,ps,ws) ms[i],(stN b ((ms.take i).map fun x=>(x,jY (b,ps,ws) x))).2++[(ms[i],jY (b,ps,ws) ms[i])]):=by
   rw[cq,aC hi,aX];exact q8 _ _ _
  have fT:(stN b ((ms.take i).map fun x=>(x,jY (b,ps,ws) x))).2.length<=i:=by
   have:=JV b ((ms.take i).map fun x=>(x,jY (b,ps,ws) x));rw[am,a_]at this;omega
  rw[cj];generalize stN b ((ms.take i).map fun x=>(x,jY (b,ps,ws) x))=ST at *;obtain⟨ah,st⟩:=ST;dsimp only at fT aY cj;unfold kU;refine⟨_,rfl,_,rfl,.ref a,ms[i],(b,ps,ws),rfl,uT.mono sG,?_⟩;generalize jY (b,ps,ws) ms[i]=hp' at *;generalize ms[i]=mi at *;refine⟨_,rfl,_,rfl,rfl,_,rfl,?_⟩;by_cases hva:hp'=ah
  .rw[hva,Qd rfl]
   refine kT ?_;refine⟨some (.int mi),some (.int ah),xs,?_,sG,pN,l_,?_⟩
   .rw[Qg rfl];rfl
   .rw[Qg rfl];exact aY
  .rw[Qe (fun z=>hva (by injection z))]
   refine kL ?_;refine⟨_,rfl,.inl ⟨rfl,_,SqL.of l_⟩,_,rfl,_,rfl,sm rfl,fun t ht=>?_⟩;have u3:=jb ht (.tup [V.int mi,V.int hp']);have g3:upd G t (.tup [V.int mi,V.int hp']) t=some (.tup [V.int mi,V.int hp']):=ja;generalize upd G t (.tup [V.int mi,V.int hp'])=G1 at *;have oR:=aY.length;rw[am]at oR;refine⟨ls,_,_,rfl,rfl,u3 _ _ l_,jw (by omega),?_⟩;have tk:TK G1 (upd G1 ls (.lst (xs++[.ref t]))):=TK.upd (u3 _ _ l_) (by intro xs z;cases z);refine⟨_,rfl,some (.int mi),some (.int hp'),xs++[.ref t],?_,?_,?_,ja,?_⟩
   .rw[Qf hva];rfl
   .intro c o e
    rw[jl (jo e Iq)];exact u3 _ _ (sG _ _ e)
   .rw[jl n5]
    exact u3 _ _ pN
   .rw[Qf hva,aX]
    exact qg (tk.heldL (aY.mono u3)) (tk.held (jv g3 (jc jT (jc jT jp))))
 .rintro σ G ⟨x6,x7,xs,rfl,sG,pN,l_,aY⟩
  rw[am,ce]at aY;refine⟨_,rfl,a,_,_,_,rfl,rfl,SqT.of (sG _ _ ha),rfl,_,rfl,ls,_,rfl,.inl ⟨SqL.of l_,fun t ht=>?_⟩⟩;have u3:=jb ht (.tup xs);have g3:upd G t (.tup xs) t=some (.tup xs):=ja;generalize upd G t (.tup xs)=G1 at *;refine⟨sm rfl,fun r fU=>?_⟩;have u4:=jb fU (.tup [V.int b,V.ref t]);have gC:kg (ms.map fun x=>(x,jY (b,ps,ws) x)):=by
   show E_ _ _;rw[rD];exact E.up
  refine q _ _ _ (sG.trans (u3.trans u4)) (jv ja (jc jT (jc (jv (u4 _ _ g3) (aY.mono (u3.trans u4))) jp))) (jab b gC) ?_ fun z=>?_
  .have:=JV b (ms.map fun x=>(x,jY (b,ps,ws) x))
   rw[am]at this;omega
  .rw[jbq b _ gC,jcm fe E]
end
abbrev jar:au:=top 47
abbrev jc4:au:=top 48
abbrev YN:au:=top 49
abbrev jaq:au:=top 50
inductive spPlace(vs:List V)(H:Hp)(Q:VK)(E:XK):Prop
 | mk (s n:Int) (l:aa) (ws:List Str) (_:vs=[.int s,.ref l,.int n]) (_:H l=some (.lst (ws.map V.str))) (_:ws.length=7) (_:-(10 ^ 18) < n) (_:n < 10 ^ 18) (_:∀(a:aa) (x:Str) (d:Int) (H':Hp),Same H H'->H' a=some (.tup [.str x,.int d])->Q (.ref a) H')
inductive spTerm(vs:List V)(H:Hp)(Q:VK)(E:XK):Prop
 | mk (s n:Int) (l:aa) (ws:List Str) (_:vs=[.int s,.ref l,.int n]) (_:H l=some (.lst (ws.map V.str))) (_:ws.length=7) (_:-(10 ^ 18) < n) (_:n < 10 ^ 18) (_:∀(u:V) (t:Tm) (H':Hp),Same H H'->Held H' t.toD u->Q u H')
def RP(F:jB->V->Prop):List (Key×V)->List (Str×jB)->Prop
 | [],[]=>True
 | p :: r,q :: t=>(p.1=Sum.inr q.1/\F q.2 p.2)/\RP F r t
 | _,_=>False
theorem RP.imp{F G:jB->V->Prop}(f:∀q v,F q v->G q v):∀{ao:List (Key×V)} {L:List (Str×jB)},RP F ao L->RP G ao L
 | [],[],_=>trivial
 | _ :: _,_ :: _,⟨⟨h1,h2⟩,h4⟩=>⟨⟨h1,f _ _ h2⟩,RP.imp f h4⟩
theorem RP.len{F:jB->V->Prop}:∀{ao:List (Key×V)} {L:List (Str×jB)},RP F ao L->ao.length=L.length
 | [],[],_=>rfl
 | _ :: _,_ :: _,⟨_,h4⟩=>by rw[bi,bi,RP.len h4]
theorem RP.val{F:jB->V->Prop}(r:Str):∀{ao:List (Key×V)} {L:List (Str×jB)},RP F ao L->(kK ao (Sum.inr r)=none/\lkA L r=none)\/∃v q,kK ao (Sum.inr r)=some v/\lkA L r=some q/\F q v
 | [],[],_=>.inl ⟨rfl,rfl⟩
 | p :: ao,q :: L,⟨⟨h1,h2⟩,h4⟩=>by
  by_cases h:q.1=r
  .refine .inr ⟨p.2,q.2,kI (by rw[h1,h]),?_,h2⟩
   unfold lkA;rw[g9,Qd h];rfl
  .have e1:kK (p :: ao) (Sum.inr r)=kK ao (Sum.inr r):=kJ (by rw[h1];exact fun z=>h (ix z))
   have e2:lkA (q :: L) r=lkA L r:=by
    unfold lkA;rw[g9,Qe h]
   rw[e1,e2];exact RP.val r h4
theorem RP.any{F:jB->V->Prop}(r:Str):∀{ao:List (Key×V)} {L:List (Str×jB)},RP F ao L->(ao.any fun kv=>decide (kv.1=(Sum.inr r:Key)))=L.any fun q=>decide (q.1=r)
 | [],[],_=>rfl
 | p :: ao,q :: L,⟨⟨h1,_⟩,h4⟩=>by rw[n_,n_,RP.any r h4,h1,J2]
theorem RP.snoc{F:jB->V->Prop}{r:Str}{v:V}{q:jB}(hq:F q v):∀{ao:List (Key×V)} {L:List (Str×jB)},RP F ao L->RP F (ao++[(Sum.inr r,v)]) (L++[(r,q)])
 | [],[],_=>⟨⟨rfl,hq⟩,trivial⟩
 | _ :: _,_ :: _,⟨h1,h4⟩=>⟨h1,RP.snoc hq h4⟩
theorem RP.repl{F:jB->V->Prop}{r:Str}{v:V}{q:jB}(hq:F q v):∀{ao:List (Key×V)} {L:List (Str×jB)},RP F ao L->RP F (ao.map fun kv=>if kv.1=(Sum.inr r:Key) then (kv.1,v) else kv) (L.map fun z=>if z.1=r then (z.1,q) else z)
 | [],[],_=>trivial
 | p :: ao,z :: L,⟨⟨h1,h2⟩,h4⟩=>by
  refine⟨?_,RP.repl hq h4⟩;dsimp only;by_cases h:z.1=r
  .rw[Qg h,Qg (by rw[h1,h])]
   exact⟨h1,hq⟩
  .rw[Qf h,Qf (by rw[h1];exact fun t=>h (ix t))]
   exact⟨h1,h2⟩
theorem RP.put{F:jB->V->Prop}{ao:List (Key×V)}{L:List (Str×jB)}(h:RP F ao L){r:Str}(hq:F q v):RP F (kW ao (Sum.inr r) v) (kM L r q):=by
 unfold kW kM;rw[h.any r];split
 .exact h.repl hq
 .exact h.snoc hq
def LF(H:Hp)(n:Nat)(q:jB)(v:V):Prop:=Held H (yD q) v/\kg q.2.1/\q.2.1.length<=3/\q.2.2.length<=n
theorem LF.tk{H':Hp}{n:Nat}(t:TK H H')(h:LF H n q v):LF H' n q v:=⟨t.held h.1,h.2⟩
theorem LF.up{n m:Nat}(hm:n<=m)(h:LF H n q v):LF H m q v:=⟨h.1,h.2.1,h.2.2.1,aZ h.2.2.2 hm⟩
inductive spWorth(vs:List V)(H:Hp)(Q:VK)(E:XK):Prop
 | mk (v:V) (t:Tm) (m n:aa) (k:Nat) (N:List (Str×Int)) (aA:List (Key×V)) (L:List (Str×jB)) (_:vs=[v,.ref m,.ref n]) (_:Held H t.toD v) (_:H m=some (.dK (nKV N))) (_:H n=some (.dK aA)) (_:RP (LF H k) aA L) (_:∀H',Same H H'->Q (.int (t.val N L)) H')
theorem jfn(x0 x1 x2:Str){i:Int}(h0:0<=i)(h1:i < 4):∃z,atI [V.str "",V.str x0,V.str x1,V.str x2] i=some (.str z)/\∃j:Nat,j < 4/\z=[("" : Str),x0,x1,x2].getD j "":=by
 obtain rfl | rfl | rfl | rfl:i=0\/i=1\/i=2\/i=3:=by omega
 .exact⟨_,rfl,0,by decide,rfl⟩
 .exact⟨_,rfl,1,by decide,rfl⟩
 .exact⟨_,rfl,2,by decide,rfl⟩
 .exact⟨_,rfl,3,by decide,rfl⟩
theorem jg6(ws:List Str)(j:Nat)(h:j < 4):[("" : Str),ws.getD (aL 0) "",ws.getD (aL 1) "",ws.getD (aL 2) ""].getD j "" = (("" : Str) :: ws).getD j "":=by
 match j,h with
 | 0,_=>rfl
 | 1,_=>rfl
 | 2,_=>rfl
 | 3,_=>rfl
def jgK(ws:List Str)(n:Int)(x:Str)(d:Int):Prop:=∃j e:Nat,j < 4/\e < 5/\x=(("" : Str) :: ws).getD j ""/\d=(e:Int) - 2+(if x = "" then n else 0)
inductive spPlaceS(vs:List V)(H:Hp)(Q:VK)(E:XK):Prop
 | mk (s n:Int) (l:aa) (ws:List Str) (_:vs=[.int s,.ref l,.int n]) (_:H l=some (.lst (ws.map V.str))) (_:ws.length=7) (_:-(10 ^ 18) < n) (_:n < 10 ^ 18) (_:∀(a:aa) (x:Str) (d:Int) (H':Hp),Same H H'->H' a=some (.tup [.str x,.int d])->jgK ws n x d->Q (.ref a) H')
section
variable {P:av}{w:ar}{K:ai}{mg:Str->Option ac}{base:aq}
theorem jdD(F:Fun K "_law_place" "_law_place" jar f fd)(B:Free0 mg):FnOk P w K mg base CX0 1 f fd ["_law_seed","_law_w","_law_near"] spPlaceS:=by
 have sc:FnScope ["_law_seed","_law_w","_law_near","_law_x"] ["_law_seed","_law_w","_law_near"] (jn jar):=fQ;refine F.ok sc (fun vs H Q E h=>?_) (fun az A outer s H vs Q E hr h=>?_)
 .obtain⟨s,n,l,ws,rfl,_⟩:=h
  rfl
 obtain⟨s,n,l,ws,rfl,hl,cT,dO,cU,q⟩:=h;refine⟨_,(jm (jH (i:=3) sc.nd rfl oQ (jx jG (ko (jk kc (jk (jx jG (pv 1) je (fun _ _=>rfl)) (jk (jx jG (pv 1) je (fun _ _=>rfl)) (jk (jx jG (pv 1) je (fun _ _=>rfl)) ji))))) (jr jM (pv 0) je) (fun _ _=>rfl)))
   (js (jN (j0 (jk (pv 3) (jk (jr jU (jr kO (jr jM (jr jS (pv 0) je) je) je) (jr kP (pv 2) (zw zE (by rfl) B.int_ KO (jk (k0 j5 (pv 3) kc (ju _)) ji)))) ji)))))),?_⟩
 have h0:=kH (xs:=ws) (i:=0) (by decide) (by rw[cT];decide);have h1:=kH (xs:=ws) (i:=1) (by decide) (by rw[cT];decide);have h2:=kH (xs:=ws) (i:=2) (by decide) (by rw[cT];decide);refine⟨_,rfl,l,_,_,_,rfl,rfl,SqL.of hl,h0,_,rfl,l,_,_,_,rfl,rfl,SqL.of hl,h1,_,rfl,l,_,_,_,rfl,rfl,SqL.of hl,h2,sm rfl,fun l1 aT=>?_⟩;generalize g0:ws.getD (aL 0) "" = x0 at *;generalize g1:ws.getD (aL 1) "" = x1 at *;generalize g2:ws.getD (aL 2) "" = x2 at *;have s1:=jb aT (.lst [V.str "",V.str x0,V.str x1,V.str x2]);have e1:upd H l1 (.lst [V.str "",V.str x0,V.str x1,V.str x2]) l1=some (.lst [V.str "",V.str x0,V.str x1,V.str x2]):=ja;generalize upd H l1 (.lst [V.str "",V.str x0,V.str x1,V.str x2])=H1 at *;obtain⟨x,hx,j,hj,GH⟩:=jfn x0 x1 x2 (i:=s % 4) (bR _ (by decide)) (cr _ (by decide));refine⟨_,rfl,_,_,rfl,rfl,(by show (0:Int) < _;decide),l1,_,_,_,rfl,rfl,SqL.of e1,hx,?_⟩;refine⟨_,rfl,_,rfl,_,_,rfl,rfl,⟨by decide,by decide⟩,_,_,rfl,rfl,(by show (0:Int) < _;decide),_,_,rfl,rfl,_,rfl,_,rfl,rfl,.inr ⟨_,rfl,?_⟩⟩;refine⟨_,_,rfl,rfl,.inr ⟨by split <;> decide,by split <;> decide⟩,_,_,rfl,rfl,sm rfl,fun a ha=>?_⟩;refine q a x _ _ (s1.trans (jb ha _)) ja ?_;have m0:=bR (s / 4) (b:=5) (by decide);have m1:=cr (s / 4) (b:=5) (by decide);refine⟨j,(s / 4 % 5).toNat,hj,by omega,?_,?_⟩
 .rw[GH,<- g0,<- g1,<- g2]
  exact jg6 ws j hj
 .rw[PZ m0]
  skip;by_cases z:x = ""
  .rw[Qg z,Qg (by rw[z];decide),x_]
  .rw[Qf z,Qf (fun y=>z (V.str.inj (Qc y))),Int.mul_zero]
theorem je1(F:Fun K "_law_term" "_law_term" jc4 f fd)(B:Free0 mg)(fB:Fn P w K mg base 1 "_law_place" ["_law_seed","_law_w","_law_near"] spPlaceS):FnOk P w K mg base CX0 2 f fd ["_law_seed","_law_w","_law_near"] spTerm:=by
 have sc:FnScope ["_law_seed","_law_w","_law_near"] ["_law_seed","_law_w","_law_near"] (jn jc4):=fQ;refine F.ok sc (fun vs H Q E h=>?_) (fun az A outer s H vs Q E hr h=>?_)
 .obtain⟨s,n,l,ws,rfl,_⟩:=h
  rfl
 obtain⟨s,n,l,ws,rfl,hl,cT,dO,cU,q⟩:=h;refine⟨_,(jm (kB (jW Kr (jr jM (pv 0) je) je (ju _)) (js (jN (j0 (jk kc (jk (jx jG (ko (jk kc (jk (jx jG (pv 1) je (fun _ _=>rfl)) (jk (jx jG (pv 1) je (fun _ _=>rfl)) (jk (jx jG (pv 1) je (fun _ _=>rfl)) ji))))) (jr jM (jr jS (pv 0) je) je) (fun _ _=>rfl)) ji))))) j4)
   (js (jN (j0 (jk kc (jk (jx jG (pv 1) (jr jU je (jr jM (jr jS (pv 0) je) je)) (fun _ _=>rfl)) (jk (jV fB hr (jk (jr jS (pv 0) je) (jk (pv 1) (jk (pv 2) ji)))) ji))))))),?_⟩
 have h0:=kH (xs:=ws) (i:=0) (by decide) (by rw[cT];decide);have h1:=kH (xs:=ws) (i:=1) (by decide) (by rw[cT];decide);have h2:=kH (xs:=ws) (i:=2) (by decide) (by rw[cT];decide);refine⟨_,rfl,_,_,rfl,rfl,(by show (0:Int) < _;decide),_,_,rfl,rfl,_,rfl,j7 (fun c=>?_) (fun c=>?_)⟩
 .refine⟨_,rfl,l,_,_,_,rfl,rfl,SqL.of hl,h0,_,rfl,l,_,_,_,rfl,rfl,SqL.of hl,h1,_,rfl,l,_,_,_,rfl,rfl,SqL.of hl,h2,sm rfl,fun l1 aT=>?_⟩
  generalize ws.getD (aL 0) "" = x0 at *;generalize ws.getD (aL 1) "" = x1 at *;generalize ws.getD (aL 2) "" = x2 at *;have s1:=jb aT (.lst [V.str "",V.str x0,V.str x1,V.str x2]);have e1:upd H l1 (.lst [V.str "",V.str x0,V.str x1,V.str x2]) l1=some (.lst [V.str "",V.str x0,V.str x1,V.str x2]):=ja;generalize upd H l1 (.lst [V.str "",V.str x0,V.str x1,V.str x2])=H1 at *;obtain⟨x,hx⟩:=Yu "" x0 x1 x2 (i:=s / 3 % 4) (bR _ (by decide)) (cr _ (by decide));refine⟨_,rfl,_,_,rfl,rfl,⟨by decide,by decide⟩,_,_,rfl,rfl,(by show (0:Int) < _;decide),l1,_,_,_,rfl,rfl,SqL.of e1,hx,sm rfl,fun a ha=>?_⟩;exact q _ (.is x) _ (s1.trans (jb ha _)) (jv ja (jc jy (jc jy jp)))
 .have m0:=bR (s / 3) (b:=3) (by decide)
  have m1:=cr (s / 3) (b:=3) (by decide);have h3:=kH (xs:=ws) (i:=3+s / 3 % 3) (by omega) (by rw[cT];omega);refine⟨_,rfl,_,rfl,_,_,rfl,rfl,⟨by decide,by decide⟩,_,_,rfl,rfl,(by show (0:Int) < _;decide),_,_,rfl,rfl,l,_,_,_,rfl,rfl,SqL.of hl,h3,?_⟩;generalize ws.getD (3+s / 3 % 3).toNat "" = r at *;refine⟨_,rfl,_,_,rfl,rfl,⟨by decide,by decide⟩,_,rfl,_,rfl,_,n,l,ws,rfl,hl,cT,dO,cU,fun a x d H1 s1 ha _=>?_⟩;refine⟨sm rfl,fun t ht=>?_⟩;have s2:=jb ht (.tup [V.str "at",V.str r,V.ref a]);exact q _ (.at_ r x d) _ (s1.trans s2) (jv ja (jc jy (jc jy (jc (jv (s2 _ _ ha) (jc jy (jc jT jp))) jp))))
theorem jb2(F:Fun K "_law_number" "_law_number" YN f fd):FnOk P w K mg base CX0 1 f fd ["_law_x","_law_numbers"] spNumber_at:=by
 have sc:FnScope ["_law_x","_law_numbers"] ["_law_x","_law_numbers"] (jn YN):=fQ;refine F.ok sc (fun vs H Q E h=>?_) (fun az A outer s H vs Q E hr h=>?_)
 .obtain⟨x,m,N,rfl,_⟩:=h
  rfl
 obtain⟨x,m,N,rfl,hm,q⟩:=h;have hu:=qO hr;refine⟨_,(jm (kB (jW j5 (pv 0) kc (ju _)) (js (jN je)) j4)
   (js (jN (qM hu (pv 1) (pv 0) je ⟨rfl,rfl,rfl,rfl⟩)))),?_⟩
 unfold kr at q;refine⟨_,rfl,rfl,_,rfl,j7 (fun c=>?_) (fun c=>?_)⟩
 .have c':x = "":=by
   have:=Qc c;injection this
  rw[Qg c']at q;exact q
 .rw[Qf (fun e=>c (Qd (Qi V.str e)))]at q
  refine⟨_,rfl,m,rfl,.inl ⟨_,.inl hm⟩,_,rfl,_,DGet.k (k:=Sum.inr x) hm,?_⟩;rw[JY]
  cases e:lkA N x with
  | none=>rw[e]at q;exact q
  | some z=>rw[e]at q;exact q
theorem jdz(F:Fun K "_law_worth" "_law_worth" jaq f fd)(dF:Fn P w K mg base 1 "_law_number" ["_law_x","_law_numbers"] spNumber_at)(fD:Fn P w K mg base 1 "_law_holds" ["_law_row","_law_place_here"] (spHoldsL K)):FnOk P w K mg base CX0 2 f fd ["_law_term_here","_law_numbers","_law_rows"] spWorth:=by
 have sc:FnScope ["_law_term_here","_law_numbers","_law_rows","_law_place_here"] ["_law_term_here","_law_numbers","_law_rows"] (jn jaq):=fQ;refine F.ok sc (fun vs H Q E h=>?_) (fun az A outer s H vs Q E hr h=>?_)
 .obtain⟨v,t,m,n,k,N,aA,L,rfl,_⟩:=h
  rfl
 obtain⟨v,t,m,n,k,N,aA,L,rfl,hv,hm,hn,hV,q⟩:=h;have hu:=qO hr;refine⟨_,(jm (kB (jW j5 (jx jq (pv 0) je (fun _ _=>rfl)) kc (ju _)) (js (jN (jV dF hr (jk (jx jq (pv 0) je (fun _ _=>rfl)) (jk (pv 1) ji))))) j4)
   (jm (jH (i:=3) sc.nd rfl oQ (jr jU (jV dF hr (jk (jx jq (jx jq (pv 0) je (fun _ _=>rfl)) je (fun _ _=>rfl)) (jk (pv 1) ji))) (jx jq (jx jq (pv 0) je (fun _ _=>rfl)) je (fun _ _=>rfl))))
   (js (jN (jV fD hr (jk (qM hu (pv 2) (jx jq (pv 0) je (fun _ _=>rfl)) (j0 (jk je (jk (j0 ji) (jk (j0 ji) ji)))) ⟨rfl,rfl,rfl,rfl⟩) (jk (pv 3) ji))))))),?_⟩
 cases t with
 | is x=>
  obtain⟨a,rfl,ha⟩:=jaO hv;refine⟨_,rfl,a,_,_,_,rfl,rfl,SqT.of ha,rfl,rfl,_,rfl,?_⟩;rw[Qd rfl];refine kL ?_;exact⟨_,rfl,a,_,_,_,rfl,rfl,SqT.of ha,rfl,_,rfl,x,m,N,rfl,hm,q H (Same.refl _)⟩
 | at_ r x d=>
  obtain⟨a,b,rfl,ha,hb⟩:=jek hv;refine⟨_,rfl,a,_,_,_,rfl,rfl,SqT.of ha,rfl,rfl,_,rfl,?_⟩;rw[Qe (by decide)];refine kT ?_;refine⟨_,rfl,a,_,_,_,rfl,rfl,SqT.of ha,rfl,b,_,_,_,rfl,rfl,SqT.of hb,rfl,_,rfl,x,m,N,rfl,hm,?_⟩;refine⟨_,rfl,a,_,_,_,rfl,rfl,SqT.of ha,rfl,b,_,_,_,rfl,rfl,SqT.of hb,rfl,_,_,rfl,rfl,?_⟩;refine⟨_,rfl,n,rfl,.inl ⟨_,.inl hn⟩,_,rfl,a,_,_,_,rfl,rfl,SqT.of ha,rfl,?_⟩;refine⟨sm rfl,fun z1 eh=>?_⟩;have s1:=jb eh (.tup []);have e1:upd H z1 (.tup []) z1=some (.tup []):=ja;generalize upd H z1 (.tup [])=H1 at *;refine⟨sm rfl,fun z2 e_=>?_⟩;have s2:=jb e_ (.tup []);have e2:upd H1 z2 (.tup []) z2=some (.tup []):=ja;generalize upd H1 z2 (.tup [])=H2 at *;refine⟨sm rfl,fun z3 hX=>?_⟩;have s3:=jb hX (.tup [V.int 0,V.ref z1,V.ref z2]);have e3:upd H2 z3 (.tup [V.int 0,V.ref z1,V.ref z2]) z3=some (.tup [V.int 0,V.ref z1,V.ref z2]):=ja;generalize upd H2 z3 (.tup [V.int 0,V.ref z1,V.ref z2])=H3 at *;have aS:=s1.trans (s2.trans s3);have Lm:Held H3 (yD (0,[],[])) (.ref z3):=jv e3 (jc jT (jc (jv ((s2.trans s3) _ _ e1) jp) (jc (jv (s3 _ _ e2) jp) jp)));refine⟨_,DGet.k (k:=Sum.inr r) (aS _ _ hn),?_⟩;have db:Held H3 (yD (jR L r)) ((kK aA (Sum.inr r)).getD (.ref z3)):=by
   unfold jR;rcases hV.val r with⟨f1,f2⟩ | ⟨u,lq,f1,f2,f3⟩
   .rw[f1,f2];exact Lm
   .rw[f1,f2];exact f3.1.mono aS
  exact⟨_,rfl,_,_,jR L r,rfl,db,q H3 aS⟩
end
end LW
namespace L2
open PySem PySem.Spec PyProof PyProof.Rows PySem.W
theorem JA:∀{vs:List ac} {ns:List Int},IntsAre vs ns->∃l:List (Int×Tok),vs=l.map (fun p=>Value.int p.1 p.2)/\l.map (·.1)=ns
 | _,_,.nil=>⟨[],rfl,rfl⟩
 | _,_,.cons n t h=>by
  obtain⟨l,e1,e2⟩:=JA h;exact⟨(n,t) :: l,by rw[e1];rfl,by rw[bW,e2]⟩
theorem jcv{X:Cx}(hc:X.calm=true):qd X (.builtin "min") (fun xs H Q=>∃(p:aa) (ns:List Int),xs=[.ref p]/\SqL X.K H p (ns.map V.int)/\ns≠[]/\∀m,m∈ns->(∀d∈ns,m<=d)->Q (.int m) H):=by
 intro ab s σ H xs us Q I r h;obtain⟨p,ns,rfl,hq,bp,q⟩:=h;obtain⟨u,rfl,rx⟩:=qZ r
 cases rx
 obtain⟨its,rv,pl,hz⟩:=I.list hq;obtain⟨l,e1,e2⟩:=JA (yi rv);have hl:0 < l.length:=by
  have:l.length=ns.length:=by rw[<- e2,am]
  rw[this];exact EX.mpr bp
 have ei:its.toArray=rf l.toArray:=by rw[e1];simp[rf]
 have hi:=pl.isList;rw[ei]at hi;refine min_intList (I.ok.hd hc) hi (by simpa using hl) fun v h' tk hv k=>?_
 obtain⟨b1,b2⟩:=argBest_lt (numAt l.toArray) (l.toArray.size - 1);generalize argBest (fun i j=>decide (numAt l.toArray i < numAt l.toArray j)) (l.toArray.size - 1)=j at *;have sz:l.toArray.size=l.length:=by simp
 have hj:j < l.length:=by omega
 have en:∀i (h:i < l.length),numAt l.toArray i=l[i].1:=fun i h=>by simp[numAt,h]
 have ev:v=.int l[j].1 l[j].2:=by
  have:=hv;simp[rf,hj]at this;exact this.symm
 subst ev;refine⟨.int l[j].1,H,I.kept k,⟨_,rfl⟩,q _ (by rw[<- e2];exact bf.mpr ⟨_,eW hj,rfl⟩) fun d hd=>?_⟩;rw[<- e2]at hd;obtain⟨x,hx,rfl⟩:=bf.mp hd;obtain⟨i,hi,rfl⟩:=di.mp hx;have:=b2 i (by omega);rw[en j hj,en i hi]at this;exact this
theorem jcw{X:Cx}(hc:X.calm=true):qd X (.builtin "max") (fun xs H Q=>∃(p:aa) (ns:List Int),xs=[.ref p]/\SqL X.K H p (ns.map V.int)/\ns≠[]/\∀m,m∈ns->(∀d∈ns,d<=m)->Q (.int m) H):=by
 intro ab s σ H xs us Q I r h;obtain⟨p,ns,rfl,hq,bp,q⟩:=h;obtain⟨u,rfl,rx⟩:=qZ r
 cases rx
 obtain⟨its,rv,pl,hz⟩:=I.list hq;obtain⟨l,e1,e2⟩:=JA (yi rv);have hl:0 < l.length:=by
  have:l.length=ns.length:=by rw[<- e2,am]
  rw[this];exact EX.mpr bp
 have ei:its.toArray=rf l.toArray:=by rw[e1];simp[rf]
 have hi:=pl.isList;rw[ei]at hi;refine max_intList (I.ok.hd hc) hi (by simpa using hl) fun v h' tk hv k=>?_
 obtain⟨b1,b2⟩:=argBest_gt (numAt l.toArray) (l.toArray.size - 1);generalize argBest (fun i j=>decide (numAt l.toArray i > numAt l.toArray j)) (l.toArray.size - 1)=j at *;have sz:l.toArray.size=l.length:=by simp
 have hj:j < l.length:=by omega
 have en:∀i (h:i < l.length),numAt l.toArray i=l[i].1:=fun i h=>by simp[numAt,h]
 have ev:v=.int l[j].1 l[j].2:=by
  have:=hv;simp[rf,hj]at this;exact this.symm
 subst ev;refine⟨.int l[j].1,H,I.kept k,⟨_,rfl⟩,q _ (by rw[<- e2];exact bf.mpr ⟨_,eW hj,rfl⟩) fun d hd=>?_⟩;rw[<- e2]at hd;obtain⟨x,hx,rfl⟩:=bf.mp hd;obtain⟨i,hi,rfl⟩:=di.mp hx;have:=b2 i (by omega);rw[en j hj,en i hi]at this;exact this
end L2
namespace LW
open PySem L2
abbrev yu:au:=top 51
def KS(t u:Int)(qs:List jB)(ns:List Int):Prop:=ns.Pairwise (· < ·)/\∀x,x∈ns↔x=t\/(t < x/\x<=u/\∃q∈qs,(∃z∈q.2.1,z.1=x)\/∃z∈q.2.2,z.1=x\/z.1+1=x)
variable {q:jB}
theorem jaR(up:kg q.2.1){m k:Int}(Ig:m<=k)(h1:∀z∈q.2.1,¬(m < z.1/\z.1<=k))(h2:∀z∈q.2.2,¬(m < z.1/\z.1<=k)/\¬(m < z.1+1/\z.1+1<=k)):jY q k=jY q m:=by
 obtain⟨b,ps,ws⟩:=q;by_cases e:m=k
 .rw[e]
 .rw[zy (p:=k) (fun z hz c=>by have:=(h2 z hz).1;omega),zy (p:=m) (fun z hz c=>by have:=(h2 z hz).2;omega)]
  exact held_like up Ig h1
variable {u:Int}
theorem Ju{t k:Int}{qs:List jB}{ns:List Int}(h:KS t u qs ns)(up:∀q∈qs,kg q.2.1)(h1:t<=k)(h2:k<=u):∃m∈ns,m<=k/\t<=m/\(∀x∈ns,x<=k->x<=m)/\∀q∈qs,jY q k=jY q m:=by
 obtain⟨m,hm,a1,a2,a3⟩:=Yn ((h.2 t).mpr (.inl rfl)) h1;refine⟨m,hm,a1,a2,a3,fun q hq=>jaR (up q hq) a1 (fun z hz c=>?_) (fun z hz=>⟨fun c=>?_,fun c=>?_⟩)⟩
 .have:=a3 z.1 ((h.2 z.1).mpr (.inr ⟨by omega,by omega,q,hq,.inl ⟨z,hz,rfl⟩⟩)) c.2
  omega
 .have:=a3 z.1 ((h.2 z.1).mpr (.inr ⟨by omega,by omega,q,hq,.inr ⟨z,hz,.inl rfl⟩⟩)) c.2
  omega
 .have:=a3 (z.1+1) ((h.2 (z.1+1)).mpr (.inr ⟨by omega,by omega,q,hq,.inr ⟨z,hz,.inr rfl⟩⟩)) c.2
  omega
variable {i:Nat}
theorem JF{α:Type}{l:List α}{p:α->Bool}(hi:i < l.length):(l.take (i+1)).filter p=(l.take i).filter p++(if p l[i]=true then [l[i]] else []):=by
 rw[cq,aC hi,PM];congr 1;show PN _ [l[i]]=_;rw[E3];split <;> rfl
def k9(t u:Int)(x:Int):Bool:=decide (t < x) && decide (x<=u)
def qL(t u:Int)(q:jB):List Int:=((q.2.1.filter fun z=>k9 t u z.1).map (·.1))++((q.2.2.filter fun z=>k9 t u z.1).map (·.1))++((q.2.2.filter fun z=>k9 t u (z.1+1)).map fun z=>z.1+1)
theorem jeJ(t u:Int)(q:jB):(qL t u q).length<=q.2.1.length+2 * q.2.2.length:=by
 unfold qL;rw[aP,aP,am,am,am];have h1:=g6 (fun z:Int×Int=>k9 t u z.1) q.2.1;have h2:=g6 (fun z:Int×Int=>k9 t u z.1) q.2.2;have h3:=g6 (fun z:Int×Int=>k9 t u (z.1+1)) q.2.2;omega
theorem kC{t x:Int}:k9 t u x=true↔t < x/\x<=u:=by unfold k9;rw[gB,decide_eq_true_iff,decide_eq_true_iff]
theorem YU{t x:Int}:x∈qL t u q↔t < x/\x<=u/\((∃z∈q.2.1,z.1=x)\/∃z∈q.2.2,z.1=x\/z.1+1=x):=by
 unfold qL;rw[cZ,cZ,bf,bf,bf];constructor
 .rintro ((⟨z,hz,rfl⟩ | ⟨z,hz,rfl⟩) | ⟨z,hz,rfl⟩)
  .obtain⟨h1,h2⟩:=fI.mp hz
   have:=kC.mp h2;exact⟨this.1,this.2,.inl ⟨z,h1,rfl⟩⟩
  .obtain⟨h1,h2⟩:=fI.mp hz
   have:=kC.mp h2;exact⟨this.1,this.2,.inr ⟨z,h1,.inl rfl⟩⟩
  .obtain⟨h1,h2⟩:=fI.mp hz
   have:=kC.mp h2;exact⟨this.1,this.2,.inr ⟨z,h1,.inr rfl⟩⟩
 .rintro⟨h1,h2,⟨z,hz,rfl⟩ | ⟨z,hz,rfl | rfl⟩⟩
  .exact .inl (.inl ⟨z,fI.mpr ⟨hz,kC.mpr ⟨h1,h2⟩⟩,rfl⟩)
  .exact .inl (.inr ⟨z,fI.mpr ⟨hz,kC.mpr ⟨h1,h2⟩⟩,rfl⟩)
  .exact .inr ⟨z,fI.mpr ⟨hz,kC.mpr ⟨h1,h2⟩⟩,rfl⟩
theorem jbR{t:Int}{qs:List jB}{ns:List Int}(hp:ns.Perm (dedup (t :: qs.flatMap (qL t u))))(hs:ns.Pairwise (·<=·)):KS t u qs ns:=by
 obtain⟨d1,d2,d3⟩:=zg (t :: qs.flatMap (qL t u));refine⟨yg hs (hp.nodup_iff.mpr d1),fun x=>?_⟩;rw[hp.mem_iff,d3,bg,ub];refine or_congr Iff.rfl ⟨fun⟨q,h1,h2⟩=>?_,fun⟨h1,h2,q,h3,h4⟩=>⟨q,h3,YU.mpr ⟨h1,h2,h4⟩⟩⟩;obtain⟨a,b,c⟩:=YU.mp h2;exact⟨a,b,q,h1,c⟩
theorem jcj{t:Int}{qs:List jB}(hi:i < qs.length):(qs.take (i+1)).flatMap (qL t u)=(qs.take i).flatMap (qL t u)++qL t u qs[i]:=by
 rw[cq,aC hi,xY];simp
theorem jbs{t:Int}{qs:List jB}(h:∀q∈qs,q.2.1.length<=3/\q.2.2.length<=100):(qs.flatMap (qL t u)).length<=240 * qs.length:=by
 induction qs with
 | nil=>simp
 | cons q r ih=>
  rw[PJ,aP,bi];have h1:=ih fun q hq=>h q (bK _ hq)
  have h2:=jeJ t u q;have h3:=h q bQ;omega
theorem jeI{t x:Int}(h:x∈qL t u q):x∈kA q.2.1 q.2.2:=yl.mpr (YU.mp h).2.2
inductive spPoints(vs:List V)(H:Hp)(Q:VK)(E:XK):Prop
 | mk (t u:Int) (h:aa) (hs:List V) (qs:List jB) (_:vs=[.ref h,.int t,.int u]) (_:H h=some (.lst hs)) (_:HeldL H (qs.map yD) hs) (_:(∀q∈qs,q.2.1.length<=3/\q.2.2.length<=100)) (_:qs.length<=2) (_:(∃S:List Int,S.length<=62/\∀q∈qs,∀x∈kA q.2.1 q.2.2,x∈S)) (_:∀l ns H',Same H H'->H' l=some (.lst (ns.map V.int))->KS t u qs ns->ns.length<=63->Q (.ref l) H')
def jem(f g:Int->Int)(t u:Int)(gs:List Int):Prop:=(∀k,t<=k->k<=u->∃x∈gs,x=f k - g k)/\∀x∈gs,∃k,t<=k/\k<=u/\x=f k - g k
inductive spGaps(vs:List V)(H:Hp)(Q:VK)(E:XK):Prop
 | mk (v:V) (tx ux r way kd x:Str) (td ud c:Int) (m n:aa) (k:Nat) (N:List (Str×Int)) (aA:List (Key×V)) (L:List (Str×jB)) (_:vs=[v,.ref m,.ref n]) (_:Held H (Cl.each tx td ux ud r way kd x c).toD v) (_:H m=some (.dK (nKV N))) (_:H n=some (.dK aA)) (_:RP (LF H k) aA L) (_:k<=100) (_:Fit L) (_:∀l gs H',Same H H'->H' l=some (.lst (gs.map V.int))->jem (jY (jR L r)) (K2 N L kd x) (kr N tx+td) (kr N ux+ud) gs->gs.length<=63->Q (.ref l) H')
def Zo:Cl->Prop
 | .each _ _ _ _ _ way _ _ _=>way = ">="\/way = "<="
 | _=>True
inductive spTrue(vs:List V)(H:Hp)(Q:VK)(E:XK):Prop
 | mk (v:V) (C:Cl) (m n:aa) (k:Nat) (N:List (Str×Int)) (aA:List (Key×V)) (L:List (Str×jB)) (_:vs=[v,.ref m,.ref n]) (_:Held H C.toD v) (_:Zo C) (_:H m=some (.dK (nKV N))) (_:H n=some (.dK aA)) (_:RP (LF H k) aA L) (_:k<=100) (_:Fit L) (_:∀b H',Same H H'->(b=true↔C.Tru N L)->Q (.bl b) H')
variable {H:Hp}{L:List (Str×jB)}{r:Str}
theorem jaM{H3:Hp}{k:Nat}{aA:List (Key×V)}{z1 z2 z3:aa}(hV:RP (LF H k) aA L)(s:Same H H3)(e1:H3 z1=some (.tup []))(e2:H3 z2=some (.tup []))(e3:H3 z3=some (.tup [.int 0,.ref z1,.ref z2])):LF H3 k (jR L r) ((kK aA (Sum.inr r)).getD (.ref z3)):=by
 unfold jR;rcases hV.val r with⟨f1,f2⟩ | ⟨u,lq,f1,f2,f3⟩
 .rw[f1,f2]
  exact⟨jv e3 (jc jT (jc (jv e1 jp) (jc (jv e2 jp) jp))),List.Pairwise.nil,bE _,bE _⟩
 .rw[f1,f2];exact f3.tk (TK.same s)
variable {w:ar}{K:ai}{mg:Str->Option ac}{base:aq}{f:aa}{fd:aH}
section
variable {P:av}
theorem jb0(F:Fun K "_law_points" "_law_points" yu f fd)(B:Free0 mg):FnOk P w K mg base CX0 1 f fd ["_law_some","_law_t","_law_u"] spPoints:=by
 have sc:FnScope ["_law_some","_law_t","_law_u","_law_places","_law_row"] ["_law_some","_law_t","_law_u"] (jn yu):=fQ;refine F.ok sc (fun vs H Q E h=>?_) (fun az A outer s H vs Q E hr h=>?_)
 .obtain⟨t,u,h,hs,qs,rfl,_⟩:=h
  rfl
 obtain⟨t,u,h,hs,qs,rfl,hh,hq,hb,h2,⟨S,cy,bT⟩,q⟩:=h;refine⟨_,(jm (jH (i:=3) sc.nd rfl oQ (ko (jk (pv 1) ji)))
   (jm (zd dS rfl (qe (pv 0)) (jA (i:=4) sc.nd rfl oQ) (jm (qD (ye eU tW tV zx (pv 3) (jk (qu ["_law_at","_law_number_here"] [1,2] rfl (kz (sc:=jn yu) (N:=["_law_some","_law_t","_law_u","_law_places","_law_row"]) rfl rfl (by decide +kernel)) (zM (jx jq (pv 4) je (fun _ _=>rfl))) (fun s H ex=>⟨(Jc (K:=K) (n:=2) rfl (jI (jA (i:=0) (show bG (["_law_at","_law_number_here","_law_t","_law_u"]:List Str) by decide +kernel) rfl oQ) (jI (jA (i:=1) (show bG (["_law_at","_law_number_here","_law_t","_law_u"]:List Str) by decide +kernel) rfl oQ) kE))),(yw (Jb Kr zV (pv 2) (pv 0) (pv 3))),(pv 0)⟩)) ji)))
   (jm (qD (ye eU tW tV zx (pv 3) (jk (qu ["_law_at","_law_number_here"] [1,2] rfl (kz (sc:=jn yu) (N:=["_law_some","_law_t","_law_u","_law_places","_law_row"]) rfl rfl (by decide +kernel)) (zM (jx jq (pv 4) je (fun _ _=>rfl))) (fun s H ex=>⟨(Jc (K:=K) (n:=2) rfl (jI (jA (i:=0) (show bG (["_law_at","_law_number_here","_law_t","_law_u"]:List Str) by decide +kernel) rfl oQ) (jI (jA (i:=1) (show bG (["_law_at","_law_number_here","_law_t","_law_u"]:List Str) by decide +kernel) rfl oQ) kE))),(yw (Jb Kr zV (pv 2) (pv 0) (pv 3))),(pv 0)⟩)) ji)))
   (js (qD (ye eU tW tV zx (pv 3) (jk (qu ["_law_at","_law_number_here"] [1,2] rfl (kz (sc:=jn yu) (N:=["_law_some","_law_t","_law_u","_law_places","_law_row"]) rfl rfl (by decide +kernel)) (zM (jx jq (pv 4) je (fun _ _=>rfl))) (fun s H ex=>⟨(Jc (K:=K) (n:=2) rfl (jI (jA (i:=0) (show bG (["_law_at","_law_number_here","_law_t","_law_u"]:List Str) by decide +kernel) rfl oQ) (jI (jA (i:=1) (show bG (["_law_at","_law_number_here","_law_t","_law_u"]:List Str) by decide +kernel) rfl oQ) kE))),(yw (Jb Kr zV (pv 2) (jr jU (pv 0) je) (pv 3))),(jr jU (pv 0) je)⟩)) ji)))))))
   (js (jN (qP (qC (P:=P) (w:=w) rfl) (by rfl) B.sorted_ qW (jk (zw (zh (P:=P) (w:=w) rfl) (by rfl) B.set_ ja0 (jk (pv 3) ji)) ji)))))),?_⟩
 have sI:hs.length=qs.length:=by
  have:=hq.length;rw[am]at this;exact this.symm
 have fj:=jbs (t:=t) (u:=u) hb;refine⟨_,rfl,sm rfl,fun l hl=>?_⟩;have s1:=jb hl (.lst [V.int t]);have e1:upd H l (.lst [V.int t]) l=some (.lst [V.int t]):=ja;generalize upd H l (.lst [V.int t])=H1 at *;have lV:=s1 _ _ hh;refine⟨_,rfl,h,rfl,⟨_,SqL.of lV⟩,yj (xs:=hs) (fun i σ G=>∃u1,σ=[some (.ref h),some (.int t),some (.int u),some (.ref l),u1]/\Same H G/\
  G l=some (.lst ((t :: (qs.take i).flatMap (qL t u)).map V.int))) ⟨none,rfl,s1,e1⟩ ?_ ?_ ?_⟩
 .rintro i σ G _ ⟨u1,rfl,sG,_⟩
  exact SqL.of (sG _ _ hh)
 .rintro i y σ G hy ⟨u1,rfl,sG,bZ⟩
  have hi:i < qs.length:=by
   have:=(aV.mp hy).1;omega
  obtain⟨y',f1,f2⟩:=hq.get (j:=i) (d:=yD qs[i]) (by rw[bA,aC hi];rfl);rw[hy]at f1
  cases f1
  have tq:=jcj (t:=t) (u:=u) hi;have ny:=hb qs[i] (eW hi);have hlen0:((qs.take i).flatMap (qL t u)).length<=240:=by
   have:=jbs (t:=t) (u:=u) (qs:=qs.take i) (fun q hq=>hb q (List.mem_of_mem_take hq));rw[a_]at this;omega
  rw[tq];generalize (qs.take i).flatMap (qL t u)=AP at *;generalize qs[i]=r at *;obtain⟨b,ps,ws⟩:=r;dsimp only at ny;obtain⟨a,c,e,us,vs,rfl,ha,hc,em,he,mZ⟩:=Je (f2.mono sG);dsimp only at ha em mZ;have m8:=qf (K:=K) em;have gL:=qf (K:=K) mZ;have Bp:=m8.1;have sK:=gL.1;refine⟨_,rfl,.inl ⟨rfl,_,SqL.of bZ⟩,_,rfl,a,_,_,_,rfl,rfl,SqT.of ha,rfl,c,rfl,⟨_,SqT.of hc⟩,fun p hp=>?_⟩;have s2:=jb hp (.lst []);refine zC (xs:=us) (fun i σ' G'=>∃u3 u4,σ'=[u3,u4,some (.int t),some (.int u)]/\Same G G'/\G' p=some (.lst ((((ps.take i).filter fun z=>k9 t u z.1).map (·.1)).map V.int))) ⟨none,none,rfl,s2,ja⟩ ?_ ?_ ?_
  .rintro i σ' G' _ ⟨u3,u4,rfl,aw,_⟩
   exact SqT.of (aw _ _ hc)
  .rintro i x σ' G' hx ⟨u3,u4,rfl,aw,ax⟩
   have hi:i < ps.length:=by
    rw[<- Bp];exact (aV.mp hx).1
   obtain⟨z,f1,f2⟩:=m8.2 i hi;rw[hx]at f1
   cases f1
   have et:=JF (p:=fun z:Int×Int=>k9 t u z.1) hi;have fV:((ps.take i).filter fun z=>k9 t u z.1).length<=40:=aZ (g6 _ _) (by rw[a_];omega);generalize ps[i]=zz at *;refine⟨z,_,rfl,aw.sqT f2,rfl,_,_,rfl,_,_,rfl,rfl,?_⟩;refine⟨_,rfl,_,rfl,_,_,rfl,rfl,_,rfl,?_⟩;by_cases c1:t < zz.1
   .rw[Qd c1]
    refine kL ?_;refine⟨_,rfl,_,_,rfl,rfl,_,rfl,?_⟩;by_cases c2:zz.1<=u
    .rw[Qd c2]
     refine kL ?_;rw[Qg (kC.mpr ⟨c1,c2⟩)]at et;refine⟨_,rfl,_,ax,?_,_,_,rfl,?_,?_⟩
     .rw[am,am]
      exact jw (by omega)
     .intro c o e
      rw[jl (jo e hp)];exact aw _ _ e
     .rw[ja,et,aX,aX]
      rfl
    .rw[Qe c2]
     refine kT ?_;rw[Qf (fun z=>c2 (kC.mp z).2),dj]at et;exact⟨_,_,rfl,aw,by rw[et];exact ax⟩
   .rw[Qe c1]
    refine kT ?_;refine⟨_,rfl,kT ?_⟩;rw[Qf (fun z=>c1 (kC.mp z).1),dj]at et;exact⟨_,_,rfl,aw,by rw[et];exact ax⟩
  rintro σ' G1 ⟨u3,u4,rfl,dY,ax⟩;rw[Bp,ce]at ax;have dC:=dY _ _ bZ;have aT:((ps.filter fun z=>k9 t u z.1).map (·.1)).length<=40:=by
   rw[am];exact aZ (g6 _ _) (by omega)
  refine⟨l,p,_,_,rfl,rfl,dC,ax,?_,?_⟩
  .rw[am,am,bi]
   exact cQ (jw (by omega))
  have k1:∀b o,H b=some o->upd G1 l (.lst (((t :: AP).map V.int)++((ps.filter fun z=>k9 t u z.1).map (·.1)).map V.int)) b=some o:=fun b o e=>by
   rw[jl (jo e hl)];exact dY _ _ (sG _ _ e)
  have a1:∀{b:aa} {xs:List V},G b=some (.tup xs)->upd G1 l (.lst (((t :: AP).map V.int)++((ps.filter fun z=>k9 t u z.1).map (·.1)).map V.int)) b=some (.tup xs):=fun e=>by
   rw[jl (j6 (dY _ _ e) dC (by intro z;cases z))];exact dY _ _ e
  have uz:StepsAt K (upd G1 l (.lst (((t :: AP).map V.int)++((ps.filter fun z=>k9 t u z.1).map (·.1)).map V.int))) vs ws:=⟨gL.1,fun i hi=>by
   obtain⟨c,f1,f2⟩:=gL.2 i hi;exact⟨c,f1,y6 dC (dY.sqT f2)⟩⟩
  have g1:upd G1 l (.lst (((t :: AP).map V.int)++((ps.filter fun z=>k9 t u z.1).map (·.1)).map V.int)) l=some (.lst ((t :: (AP++(ps.filter fun z=>k9 t u z.1).map (·.1))).map V.int)):=by rw[ja,<- aX];rfl
  generalize upd G1 l (.lst (((t :: AP).map V.int)++((ps.filter fun z=>k9 t u z.1).map (·.1)).map V.int))=G2 at *;have sW:=a1 ha;have vJ:=a1 he;clear a1 dC ax bZ;generalize oS:(ps.filter fun z=>k9 t u z.1).map (·.1)=X1 at *;refine⟨_,rfl,.inl ⟨rfl,_,SqL.of g1⟩,_,rfl,a,_,_,_,rfl,rfl,SqT.of sW,rfl,e,rfl,⟨_,SqT.of vJ⟩,fun p2 ii=>?_⟩;have s3:=jb ii (.lst []);refine zC (xs:=vs) (fun i σ' G'=>∃u3 u4,σ'=[u3,u4,some (.int t),some (.int u)]/\Same G2 G'/\G' p2=some (.lst ((((ws.take i).filter fun z=>k9 t u z.1).map (·.1)).map V.int))) ⟨none,none,rfl,s3,ja⟩ ?_ ?_ ?_
  .rintro i σ' G' _ ⟨u3,u4,rfl,aw,_⟩
   exact SqT.of (aw _ _ vJ)
  .rintro i x σ' G' hx ⟨u3,u4,rfl,aw,ax⟩
   have hi:i < ws.length:=by
    rw[<- sK];exact (aV.mp hx).1
   obtain⟨z,f1,f2⟩:=uz.2 i hi;rw[hx]at f1
   cases f1
   have et:=JF (p:=fun z:Int×Int=>k9 t u z.1) hi;have fV:((ws.take i).filter fun z=>k9 t u z.1).length<=100:=aZ (g6 _ _) (by rw[a_];omega);generalize ws[i]=zz at *;refine⟨z,_,rfl,aw.sqT f2,rfl,_,_,rfl,_,_,rfl,rfl,?_⟩;refine⟨_,rfl,_,rfl,_,_,rfl,rfl,_,rfl,?_⟩;by_cases c1:t < zz.1
   .rw[Qd c1]
    refine kL ?_;refine⟨_,rfl,_,_,rfl,rfl,_,rfl,?_⟩;by_cases c2:zz.1<=u
    .rw[Qd c2]
     refine kL ?_;rw[Qg (kC.mpr ⟨c1,c2⟩)]at et;refine⟨_,rfl,_,ax,?_,_,_,rfl,?_,?_⟩
     .rw[am,am]
      exact jw (by omega)
     .intro c o e
      rw[jl (jo e ii)];exact aw _ _ e
     .rw[ja,et,aX,aX]
      rfl
    .rw[Qe c2]
     refine kT ?_;rw[Qf (fun z=>c2 (kC.mp z).2),dj]at et;exact⟨_,_,rfl,aw,by rw[et];exact ax⟩
   .rw[Qe c1]
    refine kT ?_;refine⟨_,rfl,kT ?_⟩;rw[Qf (fun z=>c1 (kC.mp z).1),dj]at et;exact⟨_,_,rfl,aw,by rw[et];exact ax⟩
  rintro σ' G3 ⟨u3,u4,rfl,ow,ax⟩;rw[sK,ce]at ax;have dC:=ow _ _ g1;have aQ:((ws.filter fun z=>k9 t u z.1).map (·.1)).length<=100:=by
   rw[am];exact aZ (g6 _ _) (by omega)
  refine⟨l,p2,_,_,rfl,rfl,dC,ax,?_,?_⟩
  .rw[am,am,bi,aP]
   exact cQ (jw (by omega))
  have k2:∀b o,H b=some o->upd G3 l (.lst (((t :: (AP++X1)).map V.int)++((ws.filter fun z=>k9 t u z.1).map (·.1)).map V.int)) b=some o:=fun b o e=>by
   rw[jl (jo e hl)];exact ow _ _ (k1 _ _ e)
  have a2:∀{b:aa} {xs:List V},G2 b=some (.tup xs)->upd G3 l (.lst (((t :: (AP++X1)).map V.int)++((ws.filter fun z=>k9 t u z.1).map (·.1)).map V.int)) b=some (.tup xs):=fun e=>by
   rw[jl (j6 (ow _ _ e) dC (by intro z;cases z))];exact ow _ _ e
  have FI:StepsAt K (upd G3 l (.lst (((t :: (AP++X1)).map V.int)++((ws.filter fun z=>k9 t u z.1).map (·.1)).map V.int))) vs ws:=⟨uz.1,fun i hi=>by
   obtain⟨c,f1,f2⟩:=uz.2 i hi;exact⟨c,f1,y6 dC (ow.sqT f2)⟩⟩
  have g2:upd G3 l (.lst (((t :: (AP++X1)).map V.int)++((ws.filter fun z=>k9 t u z.1).map (·.1)).map V.int)) l=some (.lst ((t :: (AP++X1++(ws.filter fun z=>k9 t u z.1).map (·.1))).map V.int)):=by rw[ja,<- aX];rfl
  generalize upd G3 l (.lst (((t :: (AP++X1)).map V.int)++((ws.filter fun z=>k9 t u z.1).map (·.1)).map V.int))=G4 at *;have Lp:=a2 sW;have BK:=a2 vJ;clear a2 dC ax g1;generalize mY:(ws.filter fun z=>k9 t u z.1).map (·.1)=X2 at *;refine⟨_,rfl,.inl ⟨rfl,_,SqL.of g2⟩,_,rfl,a,_,_,_,rfl,rfl,SqT.of Lp,rfl,e,rfl,⟨_,SqT.of BK⟩,fun p3 o9=>?_⟩;have s4:=jb o9 (.lst []);refine zC (xs:=vs) (fun i σ' G'=>∃u3 u4,σ'=[u3,u4,some (.int t),some (.int u)]/\Same G4 G'/\G' p3=some (.lst ((((ws.take i).filter fun z=>k9 t u (z.1+1)).map fun z=>z.1+1).map V.int))) ⟨none,none,rfl,s4,ja⟩ ?_ ?_ ?_
  .rintro i σ' G' _ ⟨u3,u4,rfl,aw,_⟩
   exact SqT.of (aw _ _ BK)
  .rintro i x σ' G' hx ⟨u3,u4,rfl,aw,ax⟩
   have hi:i < ws.length:=by
    rw[<- sK];exact (aV.mp hx).1
   obtain⟨z,f1,f2⟩:=FI.2 i hi;rw[hx]at f1
   cases f1
   have et:=JF (p:=fun z:Int×Int=>k9 t u (z.1+1)) hi;have fV:((ws.take i).filter fun z=>k9 t u (z.1+1)).length<=100:=aZ (g6 _ _) (by rw[a_];omega);generalize ws[i]=zz at *;refine⟨z,_,rfl,aw.sqT f2,rfl,_,_,rfl,_,_,rfl,rfl,?_⟩;refine⟨_,rfl,_,rfl,_,_,rfl,rfl,_,_,rfl,rfl,_,rfl,?_⟩;by_cases c1:t < zz.1+1
   .rw[Qd c1]
    refine kL ?_;refine⟨_,rfl,_,_,rfl,rfl,_,rfl,?_⟩;by_cases c2:zz.1+1<=u
    .rw[Qd c2]
     refine kL ?_;rw[Qg (kC.mpr ⟨c1,c2⟩)]at et;refine⟨_,rfl,_,_,rfl,rfl,_,ax,?_,_,_,rfl,?_,?_⟩
     .rw[am,am]
      exact jw (by omega)
     .intro c o e
      rw[jl (jo e o9)];exact aw _ _ e
     .rw[ja,et,aX,aX]
      rfl
    .rw[Qe c2]
     refine kT ?_;rw[Qf (fun z=>c2 (kC.mp z).2),dj]at et;exact⟨_,_,rfl,aw,by rw[et];exact ax⟩
   .rw[Qe c1]
    refine kT ?_;refine⟨_,rfl,kT ?_⟩;rw[Qf (fun z=>c1 (kC.mp z).1),dj]at et;exact⟨_,_,rfl,aw,by rw[et];exact ax⟩
  rintro σ' G5 ⟨u3,u4,rfl,mO,ax⟩;rw[sK,ce]at ax;have dC:=mO _ _ g2;have fW:((ws.filter fun z=>k9 t u (z.1+1)).map fun z=>z.1+1).length<=100:=by
   rw[am];exact aZ (g6 _ _) (by omega)
  refine⟨l,p3,_,_,rfl,rfl,dC,ax,?_,?_⟩
  .rw[am,am,bi,aP,aP]
   exact cQ (jw (by omega))
  refine⟨_,rfl,fun b o e=>?_,?_⟩
  .rw[jl (jo e hl)]
   exact mO _ _ (k2 _ _ e)
  .rw[ja,<- aX]
   unfold qL;dsimp only;rw[oS,mY,E6,dI,dI,dI]
 .rintro σ G ⟨u1,rfl,sG,bZ⟩
  rw[sI,ce]at bZ;have fg:=fun ns=>jbR (t:=t) (u:=u) (qs:=qs) (ns:=ns)
  have ir:(dedup (t :: qs.flatMap (qL t u))).length<=63:=jfR cy fun x hx=>by
   obtain⟨q,h1,h2⟩:=ub.mp hx;exact bT q h1 x (jeI h2)
  clear bT;generalize qs.flatMap (qL t u)=AP at *;refine⟨_,rfl,l,_,rfl,SqL.of bZ,?_,fun v hv=>?_⟩
  .rw[bi]
   omega
  have s2:=jb hv (K1 P w v (dedup (t :: AP)));obtain⟨d1,d2,d3⟩:=zg (t :: AP);refine⟨v,_,rfl,ja,by omega,fun l2 ns aQ dN fS=>?_⟩;have s3:=jb aQ (.lst (ns.map V.int));exact q l2 ns _ (sG.trans (s2.trans s3)) ja (fg ns dN fS) (by rw[dN.length_eq];exact ir)
end
abbrev jbc:au:=top 52
abbrev Zz:au:=top 53
variable {v:Int}
theorem jgG{b:Int}:bnd ">=" v b=decide (b<=v):=by unfold bnd;rw[Qg rfl]
theorem jgF{b:Int}:bnd "<=" v b=decide (v<=b):=by unfold bnd;rw[Qf (by decide)]
theorem jd3{f g:Int->Int}{t c:Int}{gs:List Int}{way:Str}(h:jem f g t u gs)(p:Int->Bool)(hp:∀x k,x=f k - g k->(p x=true↔bnd way (f k) (g k+c)=true)):(gs.map p).all id=true↔∀k,t<=k->k<=u->bnd way (f k) (g k+c)=true:=by
 rw[List.all_map,lA];constructor
 .intro a k h1 h2
  obtain⟨x,hx,e⟩:=h.1 k h1 h2;exact (hp x k e).mp (a x hx)
 .intro a x hx
  obtain⟨k,h1,h2,e⟩:=h.2 x hx;exact (hp x k e).mpr (a k h1 h2)
section
variable {P:av}
theorem je6(F:Fun K "_law_gaps" "_law_gaps" jbc f fd)(dF:Fn P w K mg base 1 "_law_number" ["_law_x","_law_numbers"] spNumber_at)(fD:Fn P w K mg base 1 "_law_holds" ["_law_row","_law_place_here"] (spHoldsL K))(nJ:Fn P w K mg base 1 "_law_points" ["_law_some","_law_t","_law_u"] spPoints):FnOk P w K mg base CX0 2 f fd ["_law_claim_here","_law_numbers","_law_rows"] spGaps:=by
 have sc:FnScope ["_law_claim_here","_law_numbers","_law_rows","_law_t","_law_u","_law_row","_law_other"] ["_law_claim_here","_law_numbers","_law_rows"] (jn jbc):=fQ;refine F.ok sc (fun vs H Q E h=>?_) (fun az A outer s H vs Q E hr h=>?_)
 .obtain⟨v,tx,ux,r,way,kd,x,td,ud,c,m,n,k,N,aA,L,rfl,_⟩:=h
  rfl
 obtain⟨v,tx,ux,r,way,kd,x,td,ud,c,m,n,k,N,aA,L,rfl,hv,hm,hn,hV,hk,hF,q⟩:=h;obtain⟨S,cy,bT⟩:=hF r x;have hu:=qO hr;obtain⟨a,b,e,o,rfl,ha,hb,he,ho⟩:=KF hv;refine⟨_,(jm (jH (i:=3) sc.nd rfl oQ (jr jU (jV dF hr (jk (jx jq (jx jq (pv 0) je (fun _ _=>rfl)) je (fun _ _=>rfl)) (jk (pv 1) ji))) (jx jq (jx jq (pv 0) je (fun _ _=>rfl)) je (fun _ _=>rfl))))
   (jm (jH (i:=4) sc.nd rfl oQ (jr jU (jV dF hr (jk (jx jq (jx jq (pv 0) je (fun _ _=>rfl)) je (fun _ _=>rfl)) (jk (pv 1) ji))) (jx jq (jx jq (pv 0) je (fun _ _=>rfl)) je (fun _ _=>rfl))))
   (jm (jH (i:=5) sc.nd rfl oQ (qM hu (pv 2) (jx jq (pv 0) je (fun _ _=>rfl)) (j0 (jk je (jk (j0 ji) (jk (j0 ji) ji)))) ⟨rfl,rfl,rfl,rfl⟩))
   (jm (jH (i:=6) sc.nd rfl oQ (j0 (jk (jV dF hr (jk (jx jq (jx jq (pv 0) je (fun _ _=>rfl)) je (fun _ _=>rfl)) (jk (pv 1) ji))) (jk (j0 ji) (jk (j0 ji) ji)))))
   (jm (YV (kB (jW j5 (jx jq (jx jq (pv 0) je (fun _ _=>rfl)) je (fun _ _=>rfl)) kc (ju _)) (js (jH (i:=6) sc.nd rfl oQ (qM hu (pv 2) (jx jq (jx jq (pv 0) je (fun _ _=>rfl)) je (fun _ _=>rfl)) (j0 (jk je (jk (j0 ji) (jk (j0 ji) ji)))) ⟨rfl,rfl,rfl,rfl⟩))) j4))
   (js (jN (qu ["_law_at"] [3,4,5,6] rfl (kz (sc:=jn jbc) (N:=["_law_claim_here","_law_numbers","_law_rows","_law_t","_law_u","_law_row","_law_other"]) rfl rfl (by decide +kernel)) (qe (jV nJ hr (jk (ko (jk (pv 5) (jk (pv 6) ji))) (jk (pv 3) (jk (pv 4) ji))))) (fun s H ex=>⟨(jA (i:=0) (show bG (["_law_at","_law_t","_law_u","_law_row","_law_other"]:List Str) by decide +kernel) rfl oQ),(yw (jW zV (pv 1) (pv 2) (ju _))),(jr kO (jV fD hr (jk (pv 3) (jk (pv 0) ji))) (jV fD hr (jk (pv 4) (jk (pv 0) ji))))⟩))))))))),?_⟩
 refine⟨_,rfl,a,_,_,_,rfl,rfl,SqT.of ha,rfl,b,_,_,_,rfl,rfl,SqT.of hb,rfl,_,rfl,tx,m,N,rfl,hm,?_⟩;refine⟨_,rfl,a,_,_,_,rfl,rfl,SqT.of ha,rfl,b,_,_,_,rfl,rfl,SqT.of hb,rfl,_,_,rfl,rfl,?_⟩;refine⟨_,rfl,a,_,_,_,rfl,rfl,SqT.of ha,rfl,e,_,_,_,rfl,rfl,SqT.of he,rfl,_,rfl,ux,m,N,rfl,hm,?_⟩;refine⟨_,rfl,a,_,_,_,rfl,rfl,SqT.of ha,rfl,e,_,_,_,rfl,rfl,SqT.of he,rfl,_,_,rfl,rfl,?_⟩;dsimp only;generalize kr N tx+td=t at *;generalize kr N ux+ud=u at *;refine⟨_,rfl,n,rfl,.inl ⟨_,.inl hn⟩,_,rfl,a,_,_,_,rfl,rfl,SqT.of ha,rfl,?_⟩;refine⟨sm rfl,fun z1 eh=>?_⟩;have s1:=jb eh (.tup []);have e1:upd H z1 (.tup []) z1=some (.tup []):=ja;generalize upd H z1 (.tup [])=H1 at *;refine⟨sm rfl,fun z2 e_=>?_⟩;have s2:=jb e_ (.tup []);have e2:upd H1 z2 (.tup []) z2=some (.tup []):=ja;generalize upd H1 z2 (.tup [])=H2 at *;refine⟨sm rfl,fun z3 hX=>?_⟩;have s3:=jb hX (.tup [V.int 0,V.ref z1,V.ref z2]);have e3:upd H2 z3 (.tup [V.int 0,V.ref z1,V.ref z2]) z3=some (.tup [V.int 0,V.ref z1,V.ref z2]):=ja;generalize upd H2 z3 (.tup [V.int 0,V.ref z1,V.ref z2])=H3 at *;have aS:=s1.trans (s2.trans s3);refine⟨_,DGet.k (k:=Sum.inr r) (aS _ _ hn),?_⟩;have db:=jaM (r:=r) hV aS ((s2.trans s3) _ _ e1) (s3 _ _ e2) e3;generalize (kK aA (Sum.inr r)).getD (.ref z3)=rv at *;generalize jR L r=lq at *;clear e1 e2 e3 s1 s2 s3 eh e_ hX;refine⟨_,rfl,a,_,_,_,rfl,rfl,SqT.of (aS _ _ ha),rfl,o,_,_,_,rfl,rfl,SqT.of (aS _ _ ho),rfl,_,rfl,x,m,N,rfl,aS _ _ hm,?_⟩;refine⟨sm rfl,fun z4 AR=>?_⟩;have s4:=jb AR (.tup []);have e4:upd H3 z4 (.tup []) z4=some (.tup []):=ja;generalize upd H3 z4 (.tup [])=H4 at *;refine⟨sm rfl,fun z5 AQ=>?_⟩;have s5:=jb AQ (.tup []);have e5:upd H4 z5 (.tup []) z5=some (.tup []):=ja;generalize upd H4 z5 (.tup [])=H5 at *;refine⟨sm rfl,fun z6 AO=>?_⟩;have s6:=jb AO (.tup [V.int (kr N x),V.ref z4,V.ref z5]);have e6:upd H5 z6 (.tup [V.int (kr N x),V.ref z4,V.ref z5]) z6=some (.tup [V.int (kr N x),V.ref z4,V.ref z5]):=ja;generalize upd H5 z6 (.tup [V.int (kr N x),V.ref z4,V.ref z5])=H6 at *;have ox:=s4.trans (s5.trans s6);have iL:=aS.trans ox;have Hj:=db.tk (TK.same ox);have HI:LF H6 k (kr N x,[],[]) (.ref z6):=⟨jv e6 (jc jT (jc (jv ((s5.trans s6) _ _ e4) jp) (jc (jv (s6 _ _ e5) jp) jp))),List.Pairwise.nil,bE _,bE _⟩
 clear e4 e5 e6 s4 s5 s6 AR AQ AO db;refine⟨fun σ G=>∃ov oq,σ=[some (.ref a),some (.ref m),some (.ref n),some (.int t),some (.int u),some rv,some ov]/\Same H6 G/\LF G k oq ov/\(∀z,jY oq z=K2 N L kd x z)/\∀z∈kA oq.2.1 oq.2.2,z∈kA (jR L x).2.1 (jR L x).2.2,?_,?_⟩
 .refine⟨_,rfl,a,_,_,_,rfl,rfl,SqT.of (iL _ _ ha),rfl,o,_,_,_,rfl,rfl,SqT.of (iL _ _ ho),rfl,rfl,_,rfl,j7 (fun d=>?_) (fun d=>?_)⟩
  .have d':kd = "row":=by
    have:=Qc d;injection this
   refine⟨_,rfl,n,rfl,.inl ⟨_,.inl (iL _ _ hn)⟩,_,rfl,a,_,_,_,rfl,rfl,SqT.of (iL _ _ ha),rfl,o,_,_,_,rfl,rfl,SqT.of (iL _ _ ho),rfl,?_⟩;refine⟨sm rfl,fun z1 eh=>?_⟩;have s1:=jb eh (.tup []);have e1:upd H6 z1 (.tup []) z1=some (.tup []):=ja;generalize upd H6 z1 (.tup [])=G1 at *;refine⟨sm rfl,fun z2 e_=>?_⟩;have s2:=jb e_ (.tup []);have e2:upd G1 z2 (.tup []) z2=some (.tup []):=ja;generalize upd G1 z2 (.tup [])=G2 at *;refine⟨sm rfl,fun z3 hX=>?_⟩;have s3:=jb hX (.tup [V.int 0,V.ref z1,V.ref z2]);have e3:upd G2 z3 (.tup [V.int 0,V.ref z1,V.ref z2]) z3=some (.tup [V.int 0,V.ref z1,V.ref z2]):=ja;generalize upd G2 z3 (.tup [V.int 0,V.ref z1,V.ref z2])=G3 at *;have ul:=s1.trans (s2.trans s3);refine⟨_,DGet.k (k:=Sum.inr x) ((iL.trans ul) _ _ hn),?_⟩;have db:=jaM (r:=x) hV (iL.trans ul) ((s2.trans s3) _ _ e1) (s3 _ _ e2) e3;exact⟨_,_,rfl,ul,db,fun z=>by unfold K2;rw[Qg d'],fun z hz=>hz⟩
  .have d':¬kd = "row":=fun e=>d (Qd (Qi V.str e))
   exact⟨_,_,rfl,Same.refl _,HI,fun z=>by unfold K2;rw[Qf d'];rfl,fun z hz=>by cases hz⟩
 rintro σ G ⟨ov,oq,rfl,sG,hO,HH,ij⟩;have hR:=Hj.tk (TK.same sG);have lE:=iL.trans sG;refine⟨_,rfl,_,rfl,sm rfl,fun l hl=>?_⟩;have s1:=jb hl (.lst [rv,ov]);have e1:upd G l (.lst [rv,ov]) l=some (.lst [rv,ov]):=ja;generalize upd G l (.lst [rv,ov])=G1 at *;have gm:=hR.tk (TK.same s1);have pL:=hO.tk (TK.same s1);refine⟨_,rfl,_,rfl,t,u,l,[rv,ov],[lq,oq],rfl,e1,jc gm.1 (jc pL.1 jp),fun z hz=>?_,ay 2,⟨S,cy,fun q hq y hy=>bT y (by
  rcases bg.mp hq with rfl | hq
  .exact .inl hy
  .rw[bu.mp hq]at hy;exact .inr (ij y hy))⟩,fun l2 ns G2 s2 aQ fg lQ=>?_⟩
 .rcases bg.mp hz with rfl | hz
  .exact⟨gm.2.2.1,by have:=gm.2.2.2;omega⟩
  .rw[bu.mp hz]
   exact⟨pL.2.2.1,by have:=pL.2.2.2;omega⟩
 have vX:=gm.tk (TK.same s2);have LB:=pL.tk (TK.same s2);have bL:=lE.trans (s1.trans s2);refine⟨l2,rfl,⟨_,SqL.of aQ⟩,fun p hp=>?_⟩;have s3:=jb hp (.lst []);refine qh (xs:=ns.map V.int) (fun i σ' G'=>∃u3,σ'=[u3,some (.int t),some (.int u),some rv,some ov]/\Same G2 G'/\G' p=some (.lst (((if t<=u then (ns.take i) else []).map fun z=>jY lq z - jY oq z).map V.int))) ⟨none,rfl,s3,by rw[ja];split <;> rfl⟩ ?_ ?_ ?_
 .rintro i σ' G' _ ⟨u3,rfl,aw,_⟩
  exact SqL.of (aw _ _ aQ)
 .rintro i y σ' G' hy ⟨u3,rfl,aw,ax⟩
  have hi:i < ns.length:=by
   have:=(aV.mp hy).1;rw[am]at this;exact this
  rw[bA,aC hi]at hy
  cases hy
  unfold kU;refine⟨_,rfl,_,rfl,_,_,rfl,rfl,_,rfl,?_⟩;by_cases c1:t<=u
  .rw[Qd c1]
   refine kL ?_;rw[Qg c1]at ax |-;refine⟨_,rfl,_,rfl,_,_,lq,rfl,(vX.tk (TK.same aw)).1,?_⟩;refine⟨_,rfl,_,rfl,_,_,oq,rfl,(LB.tk (TK.same aw)).1,_,_,rfl,rfl,?_⟩;refine⟨_,ax,?_,_,rfl,?_,?_⟩
   .rw[am,am,a_]
    exact jw (by omega)
   .intro c o e
    rw[jl (jo e hp)];exact aw _ _ e
   .rw[ja,cq,aC hi,aX,aX]
    rfl
  .rw[Qe c1]
   refine kT ?_;rw[Qf c1]at ax |-;exact⟨_,rfl,aw,ax⟩
 rintro σ' G' ⟨u3,rfl,aw,ax⟩;rw[am,ce]at ax;have gC:∀z∈[lq,oq],kg z.2.1:=fun z hz=>by
  rcases bg.mp hz with rfl | hz
  .exact gm.2.1
  .rw[bu.mp hz];exact pL.2.1
 have Bd:jY oq=K2 N L kd x:=funext HH;refine q p _ G' (bL.trans aw) ax ⟨fun k h1 h2=>?_,fun y hy=>?_⟩ ?_
 .rw[Qg (by omega)]
  obtain⟨z,hz,a1,a2,_,a4⟩:=Ju fg gC h1 h2;refine⟨_,bf.mpr ⟨z,hz,rfl⟩,?_⟩;rw[a4 lq bQ,<- Bd,a4 oq (bK _ (bu.mpr rfl))]
 .split at hy
  .next c1=>
   obtain⟨z,hz,e⟩:=bf.mp hy;refine⟨z,?_,?_,by rw[<- e,Bd]⟩
   .rcases (fg.2 z).mp hz with h | h <;> omega
   .rcases (fg.2 z).mp hz with h | h <;> omega
  .cases hy
 .split
  .rw[am];exact lQ
  .exact bE _
theorem je0(F:Fun K "_law_true" "_law_true" Zz f fd)(B:Free0 mg)(dF:Fn P w K mg base 1 "_law_number" ["_law_x","_law_numbers"] spNumber_at)(fw:Fn P w K mg base 2 "_law_worth" ["_law_term_here","_law_numbers","_law_rows"] spWorth)(fD:Fn P w K mg base 1 "_law_holds" ["_law_row","_law_place_here"] (spHoldsL K))(nJ:Fn P w K mg base 1 "_law_points" ["_law_some","_law_t","_law_u"] spPoints)(nN:Fn P w K mg base 2 "_law_gaps" ["_law_claim_here","_law_numbers","_law_rows"] spGaps):FnOk P w K mg base CX0 3 f fd ["_law_claim_here","_law_numbers","_law_rows"] spTrue:=by
 have sc:FnScope ["_law_claim_here","_law_numbers","_law_rows","_law_gaps_here","_law_t","_law_u","_law_row","_law_held"] ["_law_claim_here","_law_numbers","_law_rows"] (jn Zz):=fQ;refine F.ok sc (fun vs H Q E h=>?_) (fun az A outer s H vs Q E hr h=>?_)
 .obtain⟨v,C,m,n,k,N,aA,L,rfl,_⟩:=h
  rfl
 obtain⟨v,C,m,n,k,N,aA,L,rfl,hv,lL,hm,hn,hV,hk,hF,q⟩:=h;have hu:=qO hr;refine⟨_,(jm (kB (jW j5 (jx jq (pv 0) je (fun _ _=>rfl)) kc (ju _)) (js (jN (k0 jbk (jV fw hr (jk (jx jq (pv 0) je (fun _ _=>rfl)) (jk (pv 1) (jk (pv 2) ji)))) (jr jU (jV fw hr (jk (jx jq (pv 0) je (fun _ _=>rfl)) (jk (pv 1) (jk (pv 2) ji)))) (jx jq (pv 0) je (fun _ _=>rfl))) (ju _)))) j4)
   (jm (kB (jW j5 (jx jq (pv 0) je (fun _ _=>rfl)) kc (ju _)) (jm (jH (i:=3) sc.nd rfl oQ (jV nN hr (jk (pv 0) (jk (pv 1) (jk (pv 2) ji)))))
   (js (jN (qP (jef rfl) (by rfl) B.all_ jgE (jk (qu ["_law_gap"] [0] rfl (kz (sc:=jn Zz) (N:=["_law_claim_here","_law_numbers","_law_rows","_law_gaps_here","_law_t","_law_u","_law_row","_law_held"]) rfl rfl (by decide +kernel)) (qe (pv 3)) (fun s H ex=>⟨(jA (i:=0) (show bG (["_law_gap","_law_claim_here"]:List Str) by decide +kernel) rfl oQ),qR,(jx (ZT (K:=K)) (ko (jk (k0 jbk (pv 0) (jx (Jf (K:=K)) (pv 1) je (fun _ _=>rfl)) (ju _)) (jk (k0 zV (pv 0) (jx (Jf (K:=K)) (pv 1) je (fun _ _=>rfl)) (ju _)) ji))) (zw zE (by rfl) B.int_ KO (jk (k0 j5 (jx (Jf (K:=K)) (pv 1) je (fun _ _=>rfl)) kc (ju _)) ji)) (fun _ _=>rfl))⟩)) ji))))) j4)
   (jm (jH (i:=4) sc.nd rfl oQ (jr jU (jV dF hr (jk (jx jq (jx jq (pv 0) je (fun _ _=>rfl)) je (fun _ _=>rfl)) (jk (pv 1) ji))) (jx jq (jx jq (pv 0) je (fun _ _=>rfl)) je (fun _ _=>rfl))))
   (jm (jH (i:=5) sc.nd rfl oQ (jr jU (jV dF hr (jk (jx jq (jx jq (pv 0) je (fun _ _=>rfl)) je (fun _ _=>rfl)) (jk (pv 1) ji))) (jx jq (jx jq (pv 0) je (fun _ _=>rfl)) je (fun _ _=>rfl))))
   (jm (jH (i:=6) sc.nd rfl oQ (qM hu (pv 2) (jx jq (pv 0) je (fun _ _=>rfl)) (j0 (jk je (jk (j0 ji) (jk (j0 ji) ji)))) ⟨rfl,rfl,rfl,rfl⟩))
   (jm (zc (i:=7) sc.nd rfl oQ ["_law_at"] [4,5,6] rfl (kz (sc:=jn Zz) (N:=["_law_claim_here","_law_numbers","_law_rows","_law_gaps_here","_law_t","_law_u","_law_row","_law_held"]) rfl rfl (by decide +kernel)) (qe (jV nJ hr (jk (ko (jk (pv 6) ji)) (jk (pv 4) (jk (pv 5) ji))))) (fun s H ex=>⟨(jA (i:=0) (show bG (["_law_at","_law_t","_law_u","_law_row"]:List Str) by decide +kernel) rfl oQ),(yw (jW zV (pv 1) (pv 2) (ju _))),(jV fD hr (jk (pv 3) (jk (pv 0) ji)))⟩))
   (js (jN (k0 (Yj hu) (pv 7) (qP zD (by rfl) B.sorted_ qW (jk (pv 7) ji)) (ju _)))))))))),?_⟩
 cases C with
 | least ta tb c=>
  obtain⟨a,u,z,rfl,ha,ff,hz⟩:=J1 hv;refine⟨_,rfl,a,_,_,_,rfl,rfl,SqT.of ha,rfl,rfl,_,rfl,?_⟩;rw[Qd rfl];refine kL ?_;refine⟨_,rfl,a,_,_,_,rfl,rfl,SqT.of ha,rfl,_,rfl,_,rfl,u,ta,m,n,k,N,aA,L,rfl,ff,hm,hn,hV,fun H1 s1=>?_⟩;refine⟨_,rfl,a,_,_,_,rfl,rfl,SqT.of (s1 _ _ ha),rfl,_,rfl,_,rfl,z,tb,m,n,k,N,aA,L,rfl,hz.mono s1,s1 _ _ hm,s1 _ _ hn,RP.imp (fun _ _ h=>LF.tk (TK.same s1) h) hV,fun H2 s2=>?_⟩;exact⟨_,rfl,a,_,_,_,rfl,rfl,SqT.of ((s1.trans s2) _ _ ha),rfl,_,_,rfl,rfl,_,_,rfl,rfl,q _ _ (s1.trans s2) decide_eq_true_iff⟩
 | each tx td ux ud r way kd x c=>
  obtain⟨a,b,e,o,rfl,ha,hb,he,ho⟩:=KF hv;refine⟨_,rfl,a,_,_,_,rfl,rfl,SqT.of ha,rfl,rfl,_,rfl,?_⟩;rw[Qe (by decide)];refine kT ?_;refine⟨_,rfl,a,_,_,_,rfl,rfl,SqT.of ha,rfl,rfl,_,rfl,?_⟩;rw[Qd rfl];refine kL ?_;refine⟨_,rfl,_,rfl,_,rfl,_,tx,ux,r,way,kd,x,td,ud,c,m,n,k,N,aA,L,rfl,hv,hm,hn,hV,hk,hF,fun l gs H1 s1 hl hg sR=>?_⟩;refine⟨_,rfl,l,rfl,⟨_,SqL.of hl⟩,fun p hp=>?_⟩;have s2:=jb hp (.lst []);refine qh (xs:=gs.map V.int) (fun i σ' G'=>∃u3,σ'=[u3,some (.ref a)]/\Same H1 G'/\G' p=some (.lst (((gs.take i).map fun g=>if way = "<=" then decide (g<=c) else decide (c<=g)).map V.bl))) ⟨none,rfl,s2,ja⟩ ?_ ?_ ?_
  .rintro i σ' G' _ ⟨u3,rfl,aw,_⟩
   exact SqL.of (aw _ _ hl)
  .rintro i y σ' G' hy ⟨u3,rfl,aw,ax⟩
   have hi:i < gs.length:=by
    have:=(aV.mp hy).1;rw[am]at this;exact this
   rw[bA,aC hi]at hy
   cases hy
   have vQ:=(s1.trans aw) _ _ ha;unfold kU yH;refine kL ?_;refine⟨_,rfl,_,rfl,a,_,_,_,rfl,rfl,SqT.of vQ,rfl,_,_,rfl,rfl,_,rfl,_,rfl,a,_,_,_,rfl,rfl,SqT.of vQ,rfl,_,_,rfl,rfl,sm rfl,fun l3 fW=>?_⟩;have s3:=jb fW (.lst [V.bl (decide (c<=gs[i])),V.bl (decide (gs[i]<=c))]);have e3:upd G' l3 (.lst [V.bl (decide (c<=gs[i])),V.bl (decide (gs[i]<=c))]) l3=some (.lst [V.bl (decide (c<=gs[i])),V.bl (decide (gs[i]<=c))]):=ja;dsimp only;generalize upd G' l3 (.lst [V.bl (decide (c<=gs[i])),V.bl (decide (gs[i]<=c))])=G2 at *;refine⟨_,rfl,a,_,_,_,rfl,rfl,SqT.of (s3 _ _ vQ),rfl,rfl,.inr ⟨_,rfl,?_⟩⟩;have gN:atI [V.bl (decide (c<=gs[i])),V.bl (decide (gs[i]<=c))] (if decide (V.str way=V.str "<=") then 1 else 0)=some (V.bl (if way = "<=" then decide (gs[i]<=c) else decide (c<=gs[i]))):=by
    by_cases cw:way = "<="
    .rw[Qd (Qi V.str cw),Qg cw]
     exact qG (j:=1) rfl
    .rw[Qe (show ¬(V.str way=V.str "<=") from fun z=>cw (by injection z)),Qf cw]
     exact qG (j:=0) rfl
   refine⟨l3,_,_,_,rfl,rfl,SqL.of e3,gN,?_⟩;refine⟨_,s3 _ _ ax,?_,_,rfl,?_,?_⟩
   .rw[am,am,a_]
    exact jw (by omega)
   .intro c o e
    rw[jl (jo e hp)];exact s3 _ _ (aw _ _ e)
   .rw[ja,cq,aC hi,aX,aX]
    rfl
  rintro σ' G' ⟨u3,rfl,aw,ax⟩;rw[am,ce]at ax;refine⟨p,_,rfl,SqL.of ax,?_⟩;refine q _ _ (s1.trans aw) (jd3 hg _ fun y k e=>?_);rcases lL with rfl | rfl
  .rw[Qf (by decide),jgG,decide_eq_true_iff,decide_eq_true_iff]
   omega
  .rw[Qg rfl,jgF,decide_eq_true_iff,decide_eq_true_iff]
   omega
 | rise tx td ux ud r=>
  obtain⟨S,cy,bT⟩:=hF r r;obtain⟨a,b,e,rfl,ha,hb,he⟩:=YS hv;refine⟨_,rfl,a,_,_,_,rfl,rfl,SqT.of ha,rfl,rfl,_,rfl,?_⟩;rw[Qe (by decide)];refine kT ?_;refine⟨_,rfl,a,_,_,_,rfl,rfl,SqT.of ha,rfl,rfl,_,rfl,?_⟩;rw[Qe (by decide)];refine kT ?_;refine⟨_,rfl,a,_,_,_,rfl,rfl,SqT.of ha,rfl,b,_,_,_,rfl,rfl,SqT.of hb,rfl,_,rfl,tx,m,N,rfl,hm,?_⟩;refine⟨_,rfl,a,_,_,_,rfl,rfl,SqT.of ha,rfl,b,_,_,_,rfl,rfl,SqT.of hb,rfl,_,_,rfl,rfl,?_⟩;refine⟨_,rfl,a,_,_,_,rfl,rfl,SqT.of ha,rfl,e,_,_,_,rfl,rfl,SqT.of he,rfl,_,rfl,ux,m,N,rfl,hm,?_⟩;refine⟨_,rfl,a,_,_,_,rfl,rfl,SqT.of ha,rfl,e,_,_,_,rfl,rfl,SqT.of he,rfl,_,_,rfl,rfl,?_⟩;dsimp only[Cl.Tru]at q |-;generalize kr N tx+td=t at *;generalize kr N ux+ud=u at *;refine⟨_,rfl,n,rfl,.inl ⟨_,.inl hn⟩,_,rfl,a,_,_,_,rfl,rfl,SqT.of ha,rfl,?_⟩;refine⟨sm rfl,fun z1 eh=>?_⟩;have s1:=jb eh (.tup []);have e1:upd H z1 (.tup []) z1=some (.tup []):=ja;generalize upd H z1 (.tup [])=H1 at *;refine⟨sm rfl,fun z2 e_=>?_⟩;have s2:=jb e_ (.tup []);have e2:upd H1 z2 (.tup []) z2=some (.tup []):=ja;generalize upd H1 z2 (.tup [])=H2 at *;refine⟨sm rfl,fun z3 hX=>?_⟩;have s3:=jb hX (.tup [V.int 0,V.ref z1,V.ref z2]);have e3:upd H2 z3 (.tup [V.int 0,V.ref z1,V.ref z2]) z3=some (.tup [V.int 0,V.ref z1,V.ref z2]):=ja;generalize upd H2 z3 (.tup [V.int 0,V.ref z1,V.ref z2])=H3 at *;have aS:=s1.trans (s2.trans s3);refine⟨_,DGet.k (k:=Sum.inr r) (aS _ _ hn),?_⟩;have db:=jaM (r:=r) hV aS ((s2.trans s3) _ _ e1) (s3 _ _ e2) e3;generalize (kK aA (Sum.inr r)).getD (.ref z3)=rv at *;generalize jR L r=lq at *;clear e1 e2 e3 s1 s2 s3 eh e_ hX;refine⟨_,rfl,sm rfl,fun l hl=>?_⟩;have s1:=jb hl (.lst [rv]);have e1:upd H3 l (.lst [rv]) l=some (.lst [rv]):=ja;generalize upd H3 l (.lst [rv])=G1 at *;have gm:=db.tk (TK.same s1);refine⟨_,rfl,_,rfl,t,u,l,[rv],[lq],rfl,e1,jc gm.1 jp,fun z hz=>?_,dX 1,⟨S,cy,fun q hq y hy=>bT y (by rw[bu.mp hq]at hy;exact .inl hy)⟩,fun l2 ns G2 s2 aQ fg lQ=>?_⟩
  .rw[bu.mp hz]
   exact⟨gm.2.2.1,by have:=gm.2.2.2;omega⟩
  have vX:=gm.tk (TK.same s2);have bL:=aS.trans (s1.trans s2);refine⟨l2,rfl,⟨_,SqL.of aQ⟩,fun p hp=>?_⟩;have s3:=jb hp (.lst []);refine qh (xs:=ns.map V.int) (fun i σ' G'=>∃u3,σ'=[u3,some (.int t),some (.int u),some rv]/\Same G2 G'/\G' p=some (.lst (((if t<=u then (ns.take i) else []).map fun z=>jY lq z).map V.int))) ⟨none,rfl,s3,by rw[ja];split <;> rfl⟩ ?_ ?_ ?_
  .rintro i σ' G' _ ⟨u3,rfl,aw,_⟩
   exact SqL.of (aw _ _ aQ)
  .rintro i y σ' G' hy ⟨u3,rfl,aw,ax⟩
   have hi:i < ns.length:=by
    have:=(aV.mp hy).1;rw[am]at this;exact this
   rw[bA,aC hi]at hy
   cases hy
   unfold kU;refine⟨_,rfl,_,rfl,_,_,rfl,rfl,_,rfl,?_⟩;by_cases c1:t<=u
   .rw[Qd c1]
    refine kL ?_;rw[Qg c1]at ax |-;refine⟨_,rfl,_,rfl,_,_,lq,rfl,(vX.tk (TK.same aw)).1,?_⟩;refine⟨_,ax,?_,_,rfl,?_,?_⟩
    .rw[am,am,a_]
     exact jw (by omega)
    .intro c o e
     rw[jl (jo e hp)];exact aw _ _ e
    .rw[ja,cq,aC hi,aX,aX]
     rfl
   .rw[Qe c1]
    refine kT ?_;rw[Qf c1]at ax |-;exact⟨_,rfl,aw,ax⟩
  rintro σ' G' ⟨u3,rfl,aw,ax⟩;rw[am,ce]at ax;have gC:∀z∈[lq],kg z.2.1:=fun z hz=>by rw[bu.mp hz];exact gm.2.1
  have fP:(((if t<=u then ns else []).map fun z=>jY lq z).Pairwise (·<=·))↔∀k l,t<=k->k < l->l<=u->jY lq k<=jY lq l:=by
   rw[rD];constructor
   .intro h k l h1 h2 h3
    rw[Qg (by omega)]at h;obtain⟨y,hy,b1,b2,b3,b4⟩:=Ju fg gC h1 (by omega);obtain⟨y',cS,c1,c2,c3,c4⟩:=Ju fg gC (show t<=l by omega) h3;rw[b4 lq bQ,c4 lq bQ];have Gz:=c3 y hy (by omega);rcases P4 Gz with c | c
    .exact jbh h fg.1 hy cS c
    .rw[c];exact dz _
   .intro h
    split
    .next c1=>
     refine E9 (R:=(· < ·)) (fun {x y} hx hy uN=>?_) fg.1;have oS:=(fg.2 x).mp hx;have lK:=(fg.2 y).mp hy;exact h x y (by rcases oS with h | h <;> omega) uN (by rcases lK with h | h <;> omega)
    .exact List.Pairwise.nil
  have fb:((if t<=u then ns else []).map fun z=>jY lq z).length < 64:=by
   rw[am];split
   .omega
   .exact Nat.zero_lt_succ _
  generalize ((if t<=u then ns else []).map fun z=>jY lq z)=vs at *;refine⟨_,rfl,_,rfl,p,vs,rfl,SqL.of ax,fb,fun l4 ms du dN fS=>?_⟩;have s5:=jb du (.lst (ms.map V.int));refine⟨p,l4,vs,ms,rfl,rfl,SqL.of (s5 _ _ ax),SqL.of ja,dN.length_eq.symm,?_⟩;have eb:decide (vs=ms)=decide (vs.Pairwise (·<=·)):=by
   rw[decide_eq_decide];constructor
   .intro h
    rw[h];exact fS
   .intro h
    exact dN.symm.eq_of_pairwise (fun x y _ _ h1 h2=>P7 h1 h2) h fS
  rw[eb];exact q _ _ (bL.trans (aw.trans s5)) (decide_eq_true_iff.trans fP)
end
abbrev jf5:au:=top 54
abbrev YQ:au:=top 55
def jgJ(H:Hp)(l:aa)(ws:List Str)(n:Int):Prop:=H l=some (.lst (ws.map V.str))/\ws.length=7/\-(10 ^ 18) < n/\n < 10 ^ 18
theorem Ka(a b c:Int){i:Int}(h0:0<=i)(h1:i < 3):∃z,atI [V.int a,V.int b,V.int c] i=some (.int z):=by
 have:i=0\/i=1\/i=2:=by omega
 rcases this with rfl | rfl | rfl
 .exact⟨_,rfl⟩
 .exact⟨_,rfl⟩
 .exact⟨_,rfl⟩
theorem jcU{i:Int}(h0:0<=i)(h1:i < 2):∃z,atI [V.str ">=",V.str "<="] i=some (.str z)/\(z = ">="\/z = "<="):=by
 have:i=0\/i=1:=by omega
 rcases this with rfl | rfl
 .exact⟨_,rfl,.inl rfl⟩
 .exact⟨_,rfl,.inr rfl⟩
theorem KA{H:Hp}:∀(fs:List Str),HeldL H (fs.map D.str) (fs.map V.str)
 | []=>jp
 | f :: fs=>jc jy (KA fs)
theorem zP{H:Hp}:∀(fs:List Int),HeldL H (fs.map D.int) (fs.map V.int)
 | []=>jp
 | f :: fs=>jc jT (zP fs)
theorem KJ:∀(fs:List Str),D.depthL (fs.map D.str)=0
 | []=>rfl
 | f :: fs=>by
  show max (D.depth (D.str f)) (D.depthL (fs.map D.str))=0;rw[KJ fs];rfl
theorem zQ:∀(fs:List Int),D.depthL (fs.map D.int)=0
 | []=>rfl
 | f :: fs=>by
  show max (D.depth (D.int f)) (D.depthL (fs.map D.int))=0;rw[zQ fs];rfl
inductive spClaim(vs:List V)(H:Hp)(Q:VK)(E:XK):Prop
 | mk (s n:Int) (l fr:aa) (ws fs:List Str) (_:vs=[.int s,.ref l,.int n,.ref fr]) (_:jgJ H l ws n) (_:H fr=some (.lst (fs.map V.str))) (_:fs.length<=10) (_:∀(u:V) (C:Cl) (H':Hp),Same H H'->Held H' C.toD u->Zo C->Q u H')
section
variable {P:av}
theorem jgq(F:Fun K "_law_end" "_law_end" jf5 f fd)(fB:Fn P w K mg base 1 "_law_place" ["_law_seed","_law_w","_law_near"] spPlaceS):FnOk P w K mg base CX0 2 f fd ["_law_seed","_law_w","_law_near"] spPlace:=by
 have sc:FnScope ["_law_seed","_law_w","_law_near","_law_place_here"] ["_law_seed","_law_w","_law_near"] (jn jf5):=fQ;refine F.ok sc (fun vs H Q E h=>?_) (fun az A outer s H vs Q E hr h=>?_)
 .obtain⟨s,n,l,ws,rfl,_⟩:=h
  rfl
 obtain⟨s,n,l,ws,rfl,hl,cT,dO,cU,q⟩:=h;refine⟨_,(jm (jH (i:=3) sc.nd rfl oQ (jV fB hr (jk (pv 0) (jk (pv 1) (jk (pv 2) ji)))))
   (js (jN (j0 (jk (jx jq (pv 3) je (fun _ _=>rfl)) (jk (jr jU (jx jq (pv 3) je (fun _ _=>rfl)) (jx jG (ko (jk je (jk je (jk (jr ze je je) ji)))) (jr jM (jr jS (pv 0) je) je) (fun _ _=>rfl))) ji)))))),?_⟩
 refine⟨_,rfl,_,rfl,_,rfl,s,n,l,ws,rfl,hl,cT,dO,cU,fun a x d H1 s1 ha _=>?_⟩;refine⟨_,rfl,a,_,_,_,rfl,rfl,SqT.of ha,rfl,_,rfl,a,_,_,_,rfl,rfl,SqT.of ha,rfl,_,_,rfl,rfl,⟨by decide,by decide,by decide⟩,sm rfl,fun l1 aT=>?_⟩;dsimp only;generalize (10:Int) ^ aL 17=big at *;have s2:=jb aT (.lst [V.int 0,V.int 3,V.int big]);have e2:upd H1 l1 (.lst [V.int 0,V.int 3,V.int big]) l1=some (.lst [V.int 0,V.int 3,V.int big]):=ja;generalize upd H1 l1 (.lst [V.int 0,V.int 3,V.int big])=H2 at *;refine⟨_,rfl,_,_,rfl,rfl,⟨by decide,by decide⟩,_,_,rfl,rfl,(by show (0:Int) < _;decide),?_⟩;obtain⟨mo,io⟩:=Ka 0 3 big (i:=s / 20 % 3) (bR _ (by decide)) (cr _ (by decide));refine⟨l1,_,_,_,rfl,rfl,SqL.of e2,io,_,_,rfl,rfl,sm rfl,fun t ht=>?_⟩;exact q t x (d+mo) _ (s1.trans (s2.trans (jb ht _))) ja
theorem jdH(F:Fun K "_law_claim" "_law_claim" YQ f fd)(B:Free0 mg)(cP:Fn P w K mg base 1 "_law_mix" ["_law_seed","_law_k"] spMix)(fB:Fn P w K mg base 1 "_law_place" ["_law_seed","_law_w","_law_near"] spPlaceS)(ml:Fn P w K mg base 2 "_law_term" ["_law_seed","_law_w","_law_near"] spTerm)(wJ:Fn P w K mg base 2 "_law_end" ["_law_seed","_law_w","_law_near"] spPlace):FnOk P w K mg base CX0 3 f fd ["_law_seed","_law_w","_law_near","_law_free"] spClaim:=by
 have sc:FnScope ["_law_seed","_law_w","_law_near","_law_free","_law_more","_law_t","_law_u","_law_r","_law_facing"] ["_law_seed","_law_w","_law_near","_law_free"] (jn YQ):=fQ;refine F.ok sc (fun vs H Q E h=>?_) (fun az A outer s H vs Q E hr h=>?_)
 .obtain⟨s,n,l,fr,ws,fs,rfl,_⟩:=h
  rfl
 obtain⟨sd,n,l,fr,ws,fs,rfl,⟨hl,cT,dO,cU⟩,dv,fj,q⟩:=h;have su:(A.deeper (xJ "_law_claim" (jn YQ) s.heap.objs.size f az)).units+1+0 < cLine:=by have:=hr.units;omega
 refine⟨_,(jm (jH (i:=4) sc.nd rfl oQ (jx jG (ko (jk (jr kO (jr jM (jr jS (pv 0) je) je) je) (jk (jr kO (jr jM (jr kP (pv 0) je) (jr kP je (jr ze je je))) (jr ze je je)) ji))) (jr jM (jr jS (pv 0) je) je) (fun _ _=>rfl)))
   (jm (kB (jfI (jW j5 (jr jM (pv 0) je) je (ju _)) (jdg (jW (jeX 0 su) (pv 3) (ko ji) (ju _)))).pt (js (jN (j0 (jk kc (jk (jV ml hr (jk (jV cP hr (jk (pv 0) (jk je ji))) (jk (pv 1) (jk (pv 2) ji)))) (jk (jV ml hr (jk (jV cP hr (jk (pv 0) (jk je ji))) (jk (pv 1) (jk (pv 2) ji)))) (jk (pv 4) ji))))))) j4)
   (jm (jH (i:=5) sc.nd rfl oQ (jV fB hr (jk (jV cP hr (jk (pv 0) (jk je ji))) (jk (pv 1) (jk (pv 2) ji)))))
   (jm (jH (i:=6) sc.nd rfl oQ (jV wJ hr (jk (jV cP hr (jk (pv 0) (jk je ji))) (jk (pv 1) (jk (pv 2) ji)))))
   (jm (jH (i:=7) sc.nd rfl oQ (jx jG (pv 3) (jr jM (jr jS (pv 0) je) (qP kl (by rfl) B.len_ zi (jk (pv 3) ji))) (fun _ _=>rfl)))
   (jm (kB (jW j5 (jr jM (pv 0) je) je (ju _)) (jm (jH (i:=8) sc.nd rfl oQ (j0 (jk kc (jk (jx jG (ko (jk kc (jk (jx jG (pv 1) je (fun _ _=>rfl)) (jk (jx jG (pv 1) je (fun _ _=>rfl)) (jk (jx jG (pv 1) je (fun _ _=>rfl)) ji))))) (jr jM (jr jS (pv 0) je) je) (fun _ _=>rfl)) ji))))
   (jm (YV (kB (jW j5 (jr jM (jr jS (pv 0) je) je) je (ju _)) (js (jH (i:=8) sc.nd rfl oQ (j0 (jk kc (jk (jx jG (pv 3) (jr jM (jr jS (pv 0) je) (qP kl (by rfl) B.len_ zi (jk (pv 3) ji))) (fun _ _=>rfl)) ji))))) j4))
   (js (jN (j0 (jk kc (jk (pv 5) (jk (pv 6) (jk (pv 7) (jk (jx jG (ko (jk kc (jk kc ji))) (jr jM (jr jS (pv 0) je) je) (fun _ _=>rfl)) (jk (pv 8) (jk (pv 4) ji)))))))))))) j4)
   (js (jN (j0 (jk kc (jk (pv 5) (jk (pv 6) (jk (pv 7) ji))))))))))))),?_⟩
 have uQ:=kH (xs:=ws) (i:=0) (by decide) (by rw[cT];decide);have oS:=kH (xs:=ws) (i:=1) (by decide) (by rw[cT];decide);have mY:=kH (xs:=ws) (i:=2) (by decide) (by rw[cT];decide);generalize ws.getD (0:Int).toNat "" = x0 at *;generalize ws.getD (1:Int).toNat "" = x1 at *;generalize ws.getD (2:Int).toNat "" = x2 at *;refine⟨_,rfl,_,_,rfl,rfl,⟨by decide,by decide⟩,_,_,rfl,rfl,(by show (0:Int) < _;decide),_,_,rfl,rfl,_,rfl,_,_,rfl,rfl,.inr ⟨by decide,by decide⟩,_,_,rfl,rfl,⟨by decide,by decide,by decide⟩,_,_,rfl,rfl,.inl ⟨by decide,by decide⟩,_,_,rfl,rfl,(by show (0:Int) < _;decide),_,_,rfl,rfl,⟨by decide,by decide,by decide⟩,_,_,rfl,rfl,sm rfl,fun l1 aT=>?_⟩;dsimp only;generalize sd / 6 % 7 - 3=c1 at *;generalize sd * 7919 % (2 * 10 ^ aL 15) - 10 ^ aL 15=c2 at *;have s1:=jb aT (.lst [V.int c1,V.int c2]);have e1:upd H l1 (.lst [V.int c1,V.int c2]) l1=some (.lst [V.int c1,V.int c2]):=ja;generalize upd H l1 (.lst [V.int c1,V.int c2])=H1 at *;refine⟨_,rfl,_,_,rfl,rfl,⟨by decide,by decide⟩,_,_,rfl,rfl,(by show (0:Int) < _;decide),?_⟩;obtain⟨mo,io⟩:=yY c1 c2 (i:=sd / 42 % 2) (bR _ (by decide)) (cr _ (by decide));refine⟨l1,_,_,_,rfl,rfl,SqL.of e1,io,?_⟩;clear io e1 aT;refine⟨_,rfl,_,_,rfl,rfl,(by show (0:Int) < _;decide),rfl,_,rfl,?_⟩;refine j7 (fun d=>?ga) (fun d=>?gb)
 case' gb=>
  refine⟨_,rfl,sm rfl,fun l2 aQ=>?_⟩
  have s2:=jb aQ (.lst [])
  have e2:upd H1 l2 (.lst []) l2=some (.lst []):=ja
  generalize upd H1 l2 (.lst [])=H2 at *
  have bc:=s1.trans s2
  clear s1 s2 aQ
  refine⟨fr,l2,_,_,fs.map D.str,[],rfl,rfl,bc _ _ dv,e2,mG (KJ fs),KA fs,jp,_,rfl,j7 (fun dd=>?gc) (fun dd=>?gd)⟩
 case' ga=>
  have bc:=s1
  clear s1
  generalize H1=H2 at *
 case' gd=>
  have IS:fs≠[]:=fun z=>dd (Qd (by rw[z];rfl))
  have hfpos:0 < fs.length:=EX.mpr IS
  refine⟨_,rfl,sd,3,rfl,fun s3=>?_⟩
  refine⟨_,rfl,_,rfl,s3,n,l,ws,rfl,bc _ _ hl,cT,dO,cU,fun ta tx td H3 t3 lN _=>?_⟩
  have aS:=bc.trans t3
  refine⟨_,rfl,sd,4,rfl,fun s4=>?_⟩
  refine⟨_,rfl,_,rfl,s4,n,l,ws,rfl,aS _ _ hl,cT,dO,cU,fun ua ux ud H4 t4 AV=>?_⟩
  have cH:=aS.trans t4
  have AZ:=t4 _ _ lN
  have vE:=cH _ _ dv
  have du:=cH _ _ hl
  clear t3 t4 lN bc aS dv hl e2
  have r0:=bR (sd / 3) (b:=(fs.length:Int)) (by omega)
  have r1:=cr (sd / 3) (b:=(fs.length:Int)) (by omega)
  have fU:=kH (xs:=fs) (i:=sd / 3 % fs.length) r0 r1
  generalize fs.getD (sd / 3 % (fs.length:Int)).toNat "" = r at *
  have q0:=bR (sd / 1512) (b:=(fs.length:Int)) (by omega)
  have q1:=cr (sd / 1512) (b:=(fs.length:Int)) (by omega)
  have ig:=kH (xs:=fs) (i:=sd / 1512 % fs.length) q0 q1
  generalize fs.getD (sd / 1512 % (fs.length:Int)).toNat "" = rr at *
  have pe:((fs.map V.str).length:Int)=fs.length:=by rw[am]
  refine⟨_,rfl,_,rfl,_,_,rfl,rfl,⟨by decide,by decide⟩,_,rfl,fr,_,rfl,.inl (SqL.of vE),_,_,rfl,rfl,(by show (0:Int) < ((fs.map V.str).length:Int);rw[pe];omega),fr,_,_,_,rfl,rfl,SqL.of vE,(by rw[pe];exact fU),?_⟩
  refine⟨_,rfl,_,_,rfl,rfl,(by show (0:Int) < _;decide),rfl,_,rfl,j7 (fun e=>?ge) (fun e=>?gf)⟩
 case' gf=>
  refine⟨_,rfl,_,rfl,_,rfl,sm rfl,fun t ht=>?_⟩
  have s5:=jb ht (.tup [V.str "rise",V.ref ta,V.ref ua,V.str r])
  exact q _ (.rise tx td ux ud r) _ (cH.trans s5) (jv ja (jc jy (jc (jv (s5 _ _ AZ) (jc jy (jc jT jp))) (jc (jv (s5 _ _ AV) (jc jy (jc jT jp))) (jc jy jp))))) trivial
 case' ge=>
  refine⟨_,rfl,l,_,_,_,rfl,rfl,SqL.of du,uQ,_,rfl,l,_,_,_,rfl,rfl,SqL.of du,oS,_,rfl,l,_,_,_,rfl,rfl,SqL.of du,mY,sm rfl,fun l3 fW=>?_⟩
  have s5:=jb fW (.lst [V.str "",V.str x0,V.str x1,V.str x2])
  have e5:upd H4 l3 (.lst [V.str "",V.str x0,V.str x1,V.str x2]) l3=some (.lst [V.str "",V.str x0,V.str x1,V.str x2]):=ja
  generalize upd H4 l3 (.lst [V.str "",V.str x0,V.str x1,V.str x2])=H5 at *
  obtain⟨z,hz⟩:=Yu "" x0 x1 x2 (i:=sd / 126 % 4) (bR _ (by decide)) (cr _ (by decide))
  refine⟨_,rfl,_,_,rfl,rfl,⟨by decide,by decide⟩,_,_,rfl,rfl,(by show (0:Int) < _;decide),l3,_,_,_,rfl,rfl,SqL.of e5,hz,sm rfl,fun t6 uY=>?_⟩
  have s6:=jb uY (.tup [V.str "is",V.str z])
  have e6:upd H5 t6 (.tup [V.str "is",V.str z]) t6=some (.tup [V.str "is",V.str z]):=ja
  generalize upd H5 t6 (.tup [V.str "is",V.str z])=H6 at *
  have ox:=s5.trans s6
  refine⟨fun σ G=>∃o kd x,σ=[some (.int sd),some (.ref l),some (.int n),some (.ref fr),some (.int mo),some (.ref ta),some (.ref ua),some (.str r),some (.ref o)]/\Same H6 G/\G o=some (.tup [.str kd,.str x]),?_,?_⟩
  .refine⟨_,rfl,_,_,rfl,rfl,⟨by decide,by decide⟩,_,_,rfl,rfl,(by show (0:Int) < _;decide),rfl,_,rfl,j7 (fun e=>?_) (fun e=>?_)⟩
   .have BI:=ox _ _ vE
    refine⟨_,rfl,_,rfl,_,_,rfl,rfl,⟨by decide,by decide⟩,_,rfl,fr,_,rfl,.inl (SqL.of BI),_,_,rfl,rfl,(by show (0:Int) < ((fs.map V.str).length:Int);rw[pe];omega),fr,_,_,_,rfl,rfl,SqL.of BI,(by rw[pe];exact ig),sm rfl,fun t7 uX=>?_⟩
    exact⟨t7,"row",rr,rfl,jb uX _,ja⟩
   .exact⟨t6,"is",z,rfl,Same.refl _,e6⟩
  rintro σ G ⟨o,kd,x,rfl,sG,ho⟩
  refine⟨_,rfl,_,rfl,_,rfl,sm rfl,fun l8 pk=>?_⟩
  have s8:=jb pk (.lst [V.str ">=",V.str "<="])
  have e8:upd G l8 (.lst [V.str ">=",V.str "<="]) l8=some (.lst [V.str ">=",V.str "<="]):=ja
  generalize upd G l8 (.lst [V.str ">=",V.str "<="])=H8 at *
  obtain⟨way,lL,GJ⟩:=jcU (i:=sd / 84 % 2) (bR _ (by decide)) (cr _ (by decide))
  refine⟨_,rfl,_,_,rfl,rfl,⟨by decide,by decide⟩,_,_,rfl,rfl,(by show (0:Int) < _;decide),l8,_,_,_,rfl,rfl,SqL.of e8,lL,_,rfl,_,rfl,sm rfl,fun t9 GX=>?_⟩
  have s9:=jb GX (.tup [V.str "each",V.ref ta,V.ref ua,V.str r,V.str way,V.ref o,V.int mo])
  have sZ:=ox.trans (sG.trans (s8.trans s9))
  exact q _ (.each tx td ux ud r way kd x mo) _ (cH.trans sZ) (jv ja (jc jy (jc (jv (sZ _ _ AZ) (jc jy (jc jT jp))) (jc (jv (sZ _ _ AV) (jc jy (jc jT jp))) (jc jy (jc jy (jc (jv ((s8.trans s9) _ _ ho) (jc jy (jc jy jp))) (jc jT jp)))))))) GJ
 all_goals
  refine⟨_,rfl,sd,1,rfl,fun s3=>?_⟩
  refine⟨_,rfl,_,rfl,s3,n,l,ws,rfl,bc _ _ hl,cT,dO,cU,fun u tm H3 t3 hu=>?_⟩
  refine⟨_,rfl,sd,2,rfl,fun s4=>?_⟩
  refine⟨_,rfl,_,rfl,s4,n,l,ws,rfl,(bc.trans t3) _ _ hl,cT,dO,cU,fun u2 Fo H4 t4 GT=>?_⟩
  refine⟨_,rfl,sm rfl,fun t ht=>?_⟩
  have s5:=jb ht (.tup [V.str "least",u,u2,V.int mo])
  exact q _ (.least tm Fo mo) _ (bc.trans (t3.trans (t4.trans s5))) (jv ja (jc jy (jc (hu.mono (t4.trans s5)) (jc (GT.mono s5) (jc jT jp))))) trivial
end
abbrev JX:au:=top 56
inductive spFitted(vs:List V)(H:Hp)(Q:VK)(E:XK):Prop
 | mk (v:V) (s:Int) (C:Cl) (m n:aa) (k:Nat) (N:List (Str×Int)) (aA:List (Key×V)) (L:List (Str×jB)) (_:vs=[v,.int s,.ref m,.ref n]) (_:Held H C.toD v) (_:Zo C) (_:H m=some (.dK (nKV N))) (_:H n=some (.dK aA)) (_:RP (LF H k) aA L) (_:k<=100) (_:Fit L) (_:∀u C' H',Same H H'->Held H' C'.toD u->Zo C'->Q u H')
section
variable {P:av}
theorem jb5(F:Fun K "_law_fitted" "_law_fitted" JX f fd)(B:Free0 mg)(fw:Fn P w K mg base 2 "_law_worth" ["_law_term_here","_law_numbers","_law_rows"] spWorth)(nN:Fn P w K mg base 2 "_law_gaps" ["_law_claim_here","_law_numbers","_law_rows"] spGaps):FnOk P w K mg base CX0 3 f fd ["_law_claim_here","_law_untrue","_law_numbers","_law_rows"] spFitted:=by
 have sc:FnScope ["_law_claim_here","_law_untrue","_law_numbers","_law_rows","_law_gap","_law_gaps_here"] ["_law_claim_here","_law_untrue","_law_numbers","_law_rows"] (jn JX):=fQ;refine F.ok sc (fun vs H Q E h=>?_) (fun az A outer s H vs Q E hr h=>?_)
 .obtain⟨v,s,C,m,n,k,N,aA,L,rfl,_⟩:=h
  rfl
 obtain⟨v,sd,C,m,n,k,N,aA,L,rfl,hv,lL,hm,hn,hV,hk,hF,q⟩:=h;have su:(A.deeper (xJ "_law_fitted" (jn JX) s.heap.objs.size f az)).units+1+0 < cLine:=by have:=hr.units;omega
 refine⟨_,(jm (kB (jW j5 (jx jq (pv 0) je (fun _ _=>rfl)) kc (ju _)) (jm (jH (i:=4) sc.nd rfl oQ (jr kO (jV fw hr (jk (jx jq (pv 0) je (fun _ _=>rfl)) (jk (pv 2) (jk (pv 3) ji)))) (jV fw hr (jk (jx jq (pv 0) je (fun _ _=>rfl)) (jk (pv 2) (jk (pv 3) ji))))))
   (js (jN (jr yf (qt zn (pv 0) qT (qS je)) (j0 (jk (jr jU (pv 4) (pv 1)) ji)))))) j4)
   (jm (kB (jW j5 (jx jq (pv 0) je (fun _ _=>rfl)) kc (ju _)) (jm (jH (i:=5) sc.nd rfl oQ (jV nN hr (jk (pv 0) (jk (pv 2) (jk (pv 3) ji)))))
   (jm (kB (jdh (jW (jbj 0 su) (pv 5) (ko ji) (ju _)) (jbf (jW j5 (jx jq (pv 0) je (fun _ _=>rfl)) kc (ju _)))).pt (js (jN (jr yf (qt zn (pv 0) qT (qS je)) (j0 (jk (jr jU (qP (jcv rfl) (by rfl) B.min_ jgD (jk (pv 5) ji)) (pv 1)) ji))))) j4)
   (js (kB (jW (jbj 0 su) (pv 5) (ko ji) (ju _)) (js (jN (jr yf (qt zn (pv 0) qT (qS je)) (j0 (jk (jr kO (qP (jcw rfl) (by rfl) B.max_ jeh (jk (pv 5) ji)) (pv 1)) ji))))) j4)))) j4)
   (js (jN (pv 0))))),?_⟩
 have s1:=Same.refl H;have dq:=hv;have iZ:=hm;have cU:=hn;have vR:=hV
 cases C with
 | least ta tb c=>
  obtain⟨a,u,z,rfl,ha,ff,hz⟩:=J1 dq;refine⟨_,rfl,a,_,_,_,rfl,rfl,SqT.of ha,rfl,rfl,_,rfl,?_⟩;rw[Qd rfl];refine kL ?_;refine⟨_,rfl,a,_,_,_,rfl,rfl,SqT.of ha,rfl,_,rfl,_,rfl,u,ta,m,n,k,N,aA,L,rfl,ff,iZ,cU,vR,fun H2 s2=>?_⟩;refine⟨_,rfl,a,_,_,_,rfl,rfl,SqT.of (s2 _ _ ha),rfl,_,rfl,_,rfl,z,tb,m,n,k,N,aA,L,rfl,hz.mono s2,s2 _ _ iZ,s2 _ _ cU,RP.imp (fun _ _ h=>LF.tk (TK.same s2) h) vR,fun H3 s3=>?_⟩;have fO:=s2.trans s3;refine⟨_,_,rfl,rfl,?_⟩;refine⟨_,rfl,_,rfl,a,_,rfl,SqT.of (fO _ _ ha),(fun h=>absurd h.2 (by show ¬(HT.sIx 4 4 (some 3)=4);decide)),fun p hp=>?_⟩;have s4:=jb hp (.tup (kN [V.str "least",u,z,V.int c] none (some 3)));have e4:upd H3 p (.tup (kN [V.str "least",u,z,V.int c] none (some 3))) p=some (.tup [V.str "least",u,z]):=ja;generalize upd H3 p (.tup (kN [V.str "least",u,z,V.int c] none (some 3)))=H4 at *;refine⟨_,rfl,_,rfl,_,_,rfl,rfl,sm rfl,fun t5 fR=>?_⟩;dsimp only;generalize ta.val N L - tb.val N L+sd=cc at *;have s5:=jb fR (.tup [V.int cc]);have e5:upd H4 t5 (.tup [V.int cc]) t5=some (.tup [V.int cc]):=ja;generalize upd H4 t5 (.tup [V.int cc])=H5 at *;refine⟨p,t5,_,_,rfl,rfl,s5 _ _ e4,e5,sm rfl,fun t6 H6 s6 e6=>?_⟩;have sZ:=fO.trans (s4.trans (s5.trans s6));exact q _ (.least ta tb cc) _ (s1.trans sZ) (jv e6 (jc jy (jc (ff.mono sZ) (jc (hz.mono sZ) (jc jT jp))))) trivial
 | each tx td ux ud r way kd x c=>
  obtain⟨a,b,e,o,rfl,ha,hb,he,ho⟩:=KF dq;refine⟨_,rfl,a,_,_,_,rfl,rfl,SqT.of ha,rfl,rfl,_,rfl,?_⟩;rw[Qe (by decide)];refine kT ?_;refine⟨_,rfl,a,_,_,_,rfl,rfl,SqT.of ha,rfl,rfl,_,rfl,?_⟩;rw[Qd rfl];refine kL ?_;refine⟨_,rfl,_,rfl,_,rfl,_,tx,ux,r,way,kd,x,td,ud,c,m,n,k,N,aA,L,rfl,dq,iZ,cU,vR,hk,hF,fun l gs H2 s2 hl hg sR=>?_⟩;have each:∀(cc:Int) (p t6:aa) (H6:Hp),Same H H6->H6 t6=some (.tup [V.str "each",V.ref b,V.ref e,V.str r,V.str way,V.ref o,V.int cc])->Q (.ref t6) H6:=fun cc p t6 H6 sZ e6=>
   q _ (.each tx td ux ud r way kd x cc) _ (s1.trans sZ) (jv e6 (jc jy (jc (jv (sZ _ _ hb) (jc jy (jc jT jp))) (jc (jv (sZ _ _ he) (jc jy (jc jT jp))) (jc jy (jc jy (jc (jv (sZ _ _ ho) (jc jy (jc jy jp))) (jc jT jp)))))))) lL
  refine⟨_,rfl,sm rfl,fun l3 fW=>?_⟩;have s3:=jb fW (.lst []);have e3:upd H2 l3 (.lst []) l3=some (.lst []):=ja;generalize upd H2 l3 (.lst [])=H3 at *;have fO:=s2.trans s3;have sL:=s3 _ _ hl;refine⟨l,l3,_,_,gs.map D.int,[],rfl,rfl,sL,e3,mG (zQ gs),zP gs,jp,_,rfl,?_⟩;by_cases hg0:gs=[]
  .rw[Qd (show gs.map D.int=[] by rw[hg0];rfl)]
   refine kT ?_;refine kT ?_;refine⟨_,rfl,sm rfl,fun l4 du=>?_⟩;have s4:=jb du (.lst []);have e4:upd H3 l4 (.lst []) l4=some (.lst []):=ja;generalize upd H3 l4 (.lst [])=H4 at *;refine⟨l,l4,_,_,gs.map D.int,[],rfl,rfl,s4 _ _ sL,e4,mG (zQ gs),zP gs,jp,_,rfl,?_⟩;rw[Qd (show gs.map D.int=[] by rw[hg0];rfl)];refine kT ?_;exact⟨_,rfl,each c a a _ (fO.trans s4) ((fO.trans s4) _ _ ha)⟩
  .rw[Qe (show ¬gs.map D.int=[] from fun z=>hg0 (Pw.mp z))]
   refine kL ?_;refine⟨_,rfl,a,_,_,_,rfl,rfl,SqT.of (fO _ _ ha),rfl,rfl,_,rfl,j7 (fun d=>?_) (fun d=>?_)⟩
   .refine⟨_,rfl,_,rfl,a,_,rfl,SqT.of (fO _ _ ha),(fun h=>absurd h.2 (by show ¬(HT.sIx 7 7 (some 6)=7);decide)),fun p hp=>?_⟩
    have s4:=jb hp (.tup (kN [V.str "each",V.ref b,V.ref e,V.str r,V.str way,V.ref o,V.int c] none (some 6)));have e4:upd H3 p (.tup (kN [V.str "each",V.ref b,V.ref e,V.str r,V.str way,V.ref o,V.int c] none (some 6))) p=some (.tup [V.str "each",V.ref b,V.ref e,V.str r,V.str way,V.ref o]):=ja;generalize upd H3 p (.tup (kN [V.str "each",V.ref b,V.ref e,V.str r,V.str way,V.ref o,V.int c] none (some 6)))=H4 at *;refine⟨_,rfl,l,gs,rfl,SqL.of (s4 _ _ sL),hg0,fun mm _ _=>?_⟩;refine⟨_,rfl,_,_,rfl,rfl,sm rfl,fun t5 fR=>?_⟩;have s5:=jb fR (.tup [V.int (mm+sd)]);have e5:upd H4 t5 (.tup [V.int (mm+sd)]) t5=some (.tup [V.int (mm+sd)]):=ja;dsimp only;generalize upd H4 t5 (.tup [V.int (mm+sd)])=H5 at *;refine⟨p,t5,_,_,rfl,rfl,s5 _ _ e4,e5,sm rfl,fun t6 H6 s6 e6=>?_⟩;exact each (mm+sd) p t6 H6 (fO.trans (s4.trans (s5.trans s6))) e6
   .refine⟨_,rfl,sm rfl,fun l4 du=>?_⟩
    have s4:=jb du (.lst []);have e4:upd H3 l4 (.lst []) l4=some (.lst []):=ja;generalize upd H3 l4 (.lst [])=H4 at *;have Bt:=s4 _ _ sL;refine⟨l,l4,_,_,gs.map D.int,[],rfl,rfl,Bt,e4,mG (zQ gs),zP gs,jp,_,rfl,?_⟩;rw[Qe (show ¬gs.map D.int=[] from fun z=>hg0 (Pw.mp z))];refine kL ?_;have dZ:=fO.trans s4;refine⟨_,rfl,_,rfl,a,_,rfl,SqT.of (dZ _ _ ha),(fun h=>absurd h.2 (by show ¬(HT.sIx 7 7 (some 6)=7);decide)),fun p hp=>?_⟩;have s5:=jb hp (.tup (kN [V.str "each",V.ref b,V.ref e,V.str r,V.str way,V.ref o,V.int c] none (some 6)));have e5:upd H4 p (.tup (kN [V.str "each",V.ref b,V.ref e,V.str r,V.str way,V.ref o,V.int c] none (some 6))) p=some (.tup [V.str "each",V.ref b,V.ref e,V.str r,V.str way,V.ref o]):=ja;generalize upd H4 p (.tup (kN [V.str "each",V.ref b,V.ref e,V.str r,V.str way,V.ref o,V.int c] none (some 6)))=H5 at *;refine⟨_,rfl,l,gs,rfl,SqL.of (s5 _ _ Bt),hg0,fun mm _ _=>?_⟩;refine⟨_,rfl,_,_,rfl,rfl,sm rfl,fun t5 fR=>?_⟩;have s6:=jb fR (.tup [V.int (mm - sd)]);have e6:upd H5 t5 (.tup [V.int (mm - sd)]) t5=some (.tup [V.int (mm - sd)]):=ja;dsimp only;generalize upd H5 t5 (.tup [V.int (mm - sd)])=H6 at *;refine⟨p,t5,_,_,rfl,rfl,s6 _ _ e5,e6,sm rfl,fun t7 H7 s7 e7=>?_⟩;exact each (mm - sd) p t7 H7 (dZ.trans (s5.trans (s6.trans s7))) e7
 | rise tx td ux ud r=>
  have uT:=dq;obtain⟨a,b,e,rfl,ha,hb,he⟩:=YS dq;refine⟨_,rfl,a,_,_,_,rfl,rfl,SqT.of ha,rfl,rfl,_,rfl,?_⟩;rw[Qe (by decide)];refine kT ?_;refine⟨_,rfl,a,_,_,_,rfl,rfl,SqT.of ha,rfl,rfl,_,rfl,?_⟩;rw[Qe (by decide)];refine kT ?_;exact⟨_,rfl,q _ (.rise tx td ux ud r) _ s1 uT trivial⟩
end
inductive Dx where
 | set (x:Str) (t:Tm) (c:Int) | put (r x:Str) (d:Int) (t:Tm) (c:Int) | any (x:Str) | claim (C:Cl)
def Dx.toD:Dx->D
 | .set x t c=>.tup [.str "set",.str x,t.toD,.int c]
 | .put r x d t c=>.tup [.str "put",.str r,plD x d,t.toD,.int c]
 | .any x=>.tup [.str "any",.str x]
 | .claim C=>.tup [.str "claim",C.toD]
structure Pr where
 f:Str
 ps:List Str
 rs:List Str
 ds:List Dx
def Pr.toD(p:Pr):D:=.tup [.str "proc",.str p.f,.tup (p.ps.map D.str),.tup (p.rs.map D.str),.tup [],.tup [],.tup (p.ds.map Dx.toD)]
def doD(i:Nat)(d:Dx):D:=.tup [.str "do",d.toD,Jd [(i:Int)]]
def ql:Nat->List Dx->List D
 | _,[]=>[]
 | i,d :: r=>doD i d :: ql (i+1) r
structure Fm where
 N:List (Str×Int)
 L:List (Str×jB)
 i:Nat
 tk:Nat
inductive En where
 | done (out:Int) (held:List jB) | spent | untrue (f:Str) (k:Nat) | asks
structure CA where
 co:aa
 dc:aa
 d1:aa
 d2:aa
 il:aa
 fl:aa
def jcB(q:jB)(p v:Int):jB:=(q.1,q.2.1,q.2.2++[(p,v)])
open Classical in
noncomputable def zH(N:List (Str×Int))(L:List (Str×jB))(C:Cl):Bool:=decide (C.Tru N L)
open Classical in
theorem Zt{N:List (Str×Int)}{L:List (Str×jB)}{C:Cl}{b:Bool}(h:b=true↔C.Tru N L):b=zH N L C:=by
 unfold zH
 cases b with
 | true=>exact (Qd (h.mp rfl)).symm
 | false=>exact (Qe (fun z=>by have:=h.mpr z;cases this)).symm
noncomputable def yC(N:List (Str×Int))(L:List (Str×jB))(cs:List Cl):Option Nat:=cs.findIdx? fun C=>!zH N L C
def jg9:Option Nat->V
 | none=>.non
 | some k=>.int k
def qU(L:List (Str×jB))(rs:List Str):Bool:=rs.all fun r=>(lkA L r).isSome
def JD(pr:aa)(cb:V)(nm rw:aa)(i:Nat):List (Str×V):=[("proc",.ref pr),("called_by",cb),("numbers",.ref nm),("rows",.ref rw),("at",.int i)]
def qB(d1 d2:aa)(vi:V)(tk:Nat)(most:Int)(cu:Nat)(fl:aa):List (Str×V):=[("procs",.ref d1),("steps",.ref d2),("inputs",vi),("taken",.int tk),("most",.int most),("used",.int cu),("frames",.ref fl)]
structure ClsF(K:ai)(C:aa):Prop where
 c:Cls K C
 n1:NoAttr K C "proc"
 n2:NoAttr K C "called_by"
 n3:NoAttr K C "numbers"
 n4:NoAttr K C "rows"
 n5:NoAttr K C "at"
structure ClsC(K:ai)(C:aa):Prop where
 c:Cls K C
 n1:NoAttr K C "procs"
 n2:NoAttr K C "steps"
 n3:NoAttr K C "inputs"
 n4:NoAttr K C "taken"
 n5:NoAttr K C "most"
 n6:NoAttr K C "used"
 n7:NoAttr K C "frames"
structure FA where
 fa:aa
 dx:aa
 nm:aa
 rw:aa
 pra:aa
 cbv:V
def FA.own(A:FA):List aa:=[A.fa,A.nm,A.rw]
structure FrD(K:ai)(CF:aa)(H:Hp)(n:Nat)(A:FA)(F:Fm):Prop where
 fa:H A.fa=some (.ins CF A.dx (JD A.pra A.cbv A.nm A.rw F.i))
 nm:H A.nm=some (.dK (nKV F.N))
 rw:∃ao,H A.rw=some (.dK ao)/\RV K H n ao F.L
variable {CF:aa}{H':Hp}{n:Nat}{A:FA}
theorem FrD.keep{n':Nat}{F:Fm}(h:FrD K CF H n A F)(hn:n<=n')(t:TKF H H')(k:∀b∈A.own,∀o,H b=some o->H' b=some o):FrD K CF H' n' A F:=by
 obtain⟨ao,h1,h2⟩:=h.rw;exact⟨k _ (by simp[FA.own]) _ h.fa,k _ (by simp[FA.own]) _ h.nm,ao,k _ (by simp[FA.own]) _ h1,(h2.tk t).up hn⟩
def RowsAt(K:ai)(H:Hp):List jB->List V->Prop
 | [],[]=>True
 | q :: qs,v :: vs=>RowIs K H q v/\RowsAt K H qs vs
 | _,_=>False
theorem FrD.same{F:Fm}(h:FrD K CF H n A F)(e:Same H H'):FrD K CF H' n A F:=h.keep (ay _) (TKF.same e) fun b _ o z=>e b o z
theorem jeH{pr nm rw:aa}{cb:V}{j:Nat}:j3 "at" (.int j) (JD pr cb nm rw i)=JD pr cb nm rw j:=by
 unfold JD;simp only[j3];rw[Qf (by decide),Qf (by decide),Qf (by decide),Qf (by decide)];rfl
inductive spFirst(K:ai)(CF:aa)(vs:List V)(H:Hp)(Q:VK)(E:XK):Prop
 | mk (vc:V) (cs:List Cl) (A:FA) (F:Fm) (n:Nat) (_:vs=[vc,.ref A.fa]) (_:Held H (.tup (cs.map Cl.toD)) vc) (_:FrD K CF H n A F) (_:n<=100) (_:(cs≠[]->Fit F.L)) (_:∀H',Same H H'->Q (jg9 (yC F.N F.L cs)) H')
inductive spLook(K:ai)(CF:aa)(vs:List V)(H:Hp)(Q:VK)(E:XK):Prop
 | mk (vf vk vp vc:V) (cs:List Cl) (A:FA) (F:Fm) (n:Nat) (_:vs=[vf,vk,vp,vc,.ref A.fa]) (_:Held H (.tup (cs.map Cl.toD)) vc) (_:FrD K CF H n A F) (_:n<=100) (_:(cs≠[]->Fit F.L)) (_:(yC F.N F.L cs=none->∀H',Same H H'->Q .non H')) (_:∀k,yC F.N F.L cs=some k->∀t H',Same H H'->H' t=some (.tup [.str "untrue",vf,vk,vp,.int k])->Q (.ref t) H')
theorem yq{X:Cx}{e:ag}:QE X e ja8:=⟨jdq⟩
theorem jda{K:ai}{H:Hp}{n:Nat}:∀{rn:List Str} {held:List jB} {vs:List V},RowsAt K H held vs->(∀q∈held,q.2.2.length<=n)->rn.length=vs.length->RV K H n (zKV rn vs) (rn.zip held)
 | [],[],[],_,_,_=>trivial
 | [],_ :: _,_ :: _,_,_,h=>by cases h
 | _ :: _,[],[],_,_,h=>by cases h
 | r :: rn,q :: held,v :: vs,⟨h1,h2⟩,hn,hl=>⟨⟨rfl,h1,hn q bQ⟩,jda h2 (fun q' hq=>hn q' (bK _ hq)) (by simpa using hl)⟩
theorem RowsAt.len{K:ai}{H:Hp}:∀{held:List jB} {vs:List V},RowsAt K H held vs->held.length=vs.length
 | [],[],_=>rfl
 | _ :: _,_ :: _,⟨_,h⟩=>by rw[bi,bi,RowsAt.len h]
theorem RowsAt.tk{K:ai}{H H':Hp}(t:TKF H H'):∀{held:List jB} {vs:List V},RowsAt K H held vs->RowsAt K H' held vs
 | [],[],_=>trivial
 | _ :: _,_ :: _,⟨h1,h⟩=>⟨h1.tk t,RowsAt.tk t h⟩
theorem RowsAt.snoc{K:ai}{H:Hp}{q:jB}{v:V}(hq:RowIs K H q v):∀{held:List jB} {vs:List V},RowsAt K H held vs->RowsAt K H (held++[q]) (vs++[v])
 | [],[],_=>⟨hq,trivial⟩
 | _ :: _,_ :: _,⟨h1,h⟩=>⟨h1,RowsAt.snoc hq h⟩
theorem jet{names:List Str}{nums:List Int}:zKV names (nums.map V.int)=nKV (names.zip nums):=by
 unfold zKV nKV;rw[Pl,ln];rfl
theorem jci{pr nm rw:aa}{cb:V}:j3 "at" (.int 0) (j3 "rows" (.ref rw) (j3 "numbers" (.ref nm) (j3 "called_by" cb (j3 "proc" (.ref pr) []))))=JD pr cb nm rw 0:=by
 unfold JD;simp only[j3]
 repeat rw[Qf (by decide)]
 simp only[j3]
 repeat rw[Qf (by decide)]
 simp only[j3]
 repeat rw[Qf (by decide)]
 simp only[j3]
 repeat rw[Qf (by decide)]
 rfl
inductive spFrame(K:ai)(CF:aa)(vs:List V)(H:Hp)(Q:VK)(E:XK):Prop
 | mk (fa dx pr pt rt nl rl:aa) (cb p0 p1 p4 p5 p6:V) (names eM:List Str) (nums:List Int) (held:List jB) (ao:List V) (n:Nat) (_:vs=[.ref fa,.ref pr,.ref nl,.ref rl,cb]) (_:H fa=some (.ins CF dx [])) (_:H pr=some (.tup [p0,p1,.ref pt,.ref rt,p4,p5,p6])) (_:H pt=some (.tup (names.map V.str))) (_:H rt=some (.tup (eM.map V.str))) (_:H nl=some (.lst (nums.map V.int))) (_:H rl=some (.lst ao)) (_:RowsAt K H held ao) (_:(∀q∈held,q.2.2.length<=n)) (_:names.length=nums.length) (_:names.Nodup) (_:names.length<=100) (_:eM.length=held.length) (_:eM.Nodup) (_:eM.length<=100) (_:∀nm rw H',(∀b o,b≠fa->H b=some o->H' b=some o)->H nm=none->H rw=none->nm≠rw->(∀F:Fm,F.N=names.zip nums->F.L=eM.zip held->F.i=0->FrD K CF H' n ⟨fa,dx,nm,rw,pr,cb⟩ F)->Q .non H')
theorem YI{H:Hp}:∀{as:List Str} {vs:List V},HeldL H (as.map D.str) vs->vs=as.map V.str
 | [],vs,h=>jP h
 | a :: as,vs,h=>by
  rw[bW]at h;obtain⟨v,r,rfl,e1,h2⟩:=jg h
  cases jE e1
  rw[YI h2];rfl
theorem jdj{α:Type}{L:List (Str×α)}{q:α}(h:(lkA L r).isSome=true):(kM L r q).length=L.length:=by
 have ha:(L.any fun z=>decide (z.1=r))=true:=by
  unfold lkA at h;rw[rB,ug]at h;obtain⟨z,hz,e⟩:=h;exact E7.mpr ⟨z,hz,e⟩
 unfold kM;rw[Qg ha,am]
theorem jdQ{α:Type}{L:List (Str×α)}{r':Str}{q:α}:(lkA L r').isSome=true->(lkA (kM L r q) r').isSome=true:=by
 intro h;unfold lkA at h |-;rw[rB,ug]at h |-;obtain⟨z,hz,e⟩:=h;unfold kM;split
 .by_cases hr:z.1=r
  .exact⟨(z.1,q),bf.mpr ⟨z,hz,by rw[Qg hr]⟩,e⟩
  .exact⟨z,bf.mpr ⟨z,hz,by rw[Qf hr]⟩,e⟩
 .exact⟨z,iJ _ hz,e⟩
inductive spTake(K:ai)(CC CF:aa)(vs:List V)(H:Hp)(Q:VK)(E:XK):Prop
 | mk (C:CA) (A:FA) (F:Fm) (n:Nat) (x:Str) (inp:List Int) (tk:Nat) (most:Int) (cu:Nat) (_:vs=[.ref C.co,.ref A.fa,.str x]) (_:H C.co=some (.ins CC C.dc (qB C.d1 C.d2 (.ref C.il) tk most cu C.fl))) (_:H C.il=some (.lst (inp.map V.int))) (_:FrD K CF H n A F) (_:F.N.length<=900) (_:C.co≠A.fa) (_:tk<=inp.length) (_:(inp[tk]?=none->∀t H',Same H H'->H' t=some (.tup [.str "asks"])->Q (.ref t) H')) (_:∀v,inp[tk]?=some v->∀H',(∀b o,b≠A.nm->b≠C.co->H b=some o->H' b=some o)->H' A.nm=some (.dK (nKV (kM F.N x v)))->H' C.co=some (.ins CC C.dc (qB C.d1 C.d2 (.ref C.il) (tk+1) most cu C.fl))->Q .non H')
variable {fl:aa}{vi:V}{most:Int}
theorem jav{d1 d2:aa}{tk Ak cu:Nat}:j3 "taken" (.int Ak) (qB d1 d2 vi tk most cu fl)=qB d1 d2 vi Ak most cu fl:=by
 unfold qB;simp only[j3];rw[Qf (by decide),Qf (by decide),Qf (by decide)];rfl
theorem jbO{d1 d2:aa}{tk cu u':Nat}:j3 "used" (.int u') (qB d1 d2 vi tk most cu fl)=qB d1 d2 vi tk most u' fl:=by
 unfold qB;simp only[j3];rw[Qf (by decide),Qf (by decide),Qf (by decide),Qf (by decide),Qf (by decide)];rfl
theorem Kb:∀(a:List Dx) (n:Nat) (d:Dx),ql n (a++[d])=ql n a++[doD (n+a.length) d]
 | [],n,d=>rfl
 | x :: a,n,d=>by
  rw[E6];unfold ql;rw[Kb a (n+1) d,bi,show n+1+a.length=n+(a.length+1) by omega];rfl
theorem Jn:∀(a:List Dx) (n:Nat),(ql n a).length=a.length
 | [],_=>rfl
 | _ :: a,n=>by unfold ql;rw[bi,bi,Jn a]
theorem Yf:∀{a:List Dx} {n j:Nat} {d:Dx},a[j]?=some d->(ql n a)[j]?=some (doD (n+j) d)
 | [],_,_,_,h=>by cases h
 | x :: a,n,0,d,h=>by cases h;rfl
 | x :: a,n,j+1,d,h=>by
  unfold ql;rw[List.getElem?_cons_succ,Yf (a:=a) (n:=n+1) h,show n+1+j=n+(j+1) by omega]
theorem jfq(d:Dx):∃k r,d.toD=.tup (.str k :: r)/\k≠"if"/\k≠"while":=by
 cases d
 .exact⟨"set",_,rfl,by decide,by decide⟩
 .exact⟨"put",_,rfl,by decide,by decide⟩
 .exact⟨"any",_,rfl,by decide,by decide⟩
 .exact⟨"claim",_,rfl,by decide,by decide⟩
noncomputable def mst(P:Pr)(inp:List Int)(most:Int)(s:Fm):(En×Nat) ⊕ Fm:=
 match P.ds[s.i]? with
 | none=>.inl (.done (kr s.N "out") (P.rs.map (jR s.L)),s.i)
 | some d=>if (s.i:Int)=most then .inl (.spent,s.i) else match d with
  | .set x t c=>.inr ⟨kM s.N x (t.val s.N s.L+c),s.L,s.i+1,s.tk⟩
  | .put r x d t c=>.inr ⟨s.N,kM s.L r (jcB (jR s.L r) (kr s.N x+d) (t.val s.N s.L+c)),s.i+1,s.tk⟩
  | .any x=>match inp[s.tk]? with
   | none=>.inl (.asks,s.i+1)
   | some v=>.inr ⟨kM s.N x v,s.L,s.i+1,s.tk+1⟩
  | .claim C=>match yC s.N s.L [C] with
   | some _=>.inl (.untrue P.f s.i,s.i+1)
   | none=>.inr ⟨s.N,s.L,s.i+1,s.tk⟩
def okD(s:Fm):Dx->Prop
 | .put r _ _ _ _=>(lkA s.L r).isSome=true
 | .claim _=>Fit s.L
 | _=>True
structure Sta(Hs:Hp)(C:CA)(A:FA)(P:Pr)(inp:List Int):Prop where
 pr:Held Hs P.toD (.ref A.pra)
 d2:∃kv sl ss,Hs C.d2=some (.dK kv)/\kK kv (Sum.inr P.f)=some (.ref sl)/\Hs sl=some (.lst ss)/\HeldL Hs (ql 0 P.ds) ss
 il:Hs C.il=some (.lst (inp.map V.int))
 sz:P.ds.length<=40
 rs:P.rs.length<=100
structure Conf(K:ai)(CC CF:aa)(Hs:Hp)(C:CA)(A:FA)(P:Pr)(inp:List Int)(most:Int)(H:Hp)(s:Fm):Prop where
 sub:Same Hs H
 co:H C.co=some (.ins CC C.dc (qB C.d1 C.d2 (.ref C.il) s.tk most s.i C.fl))
 fl:H C.fl=some (.lst [.ref A.fa])
 fr:FrD K CF H s.i A s
 nd:[C.co,C.fl,A.fa,A.nm,A.rw].Nodup
 new:∀b∈[C.co,C.fl,A.fa,A.nm,A.rw],Hs b=none
 cb:A.cbv=.non
 tk:s.tk<=inp.length
 i:s.i<=P.ds.length
 N:s.N.length<=100+s.i
 L:s.L.length<=100
 has:qU s.L P.rs=true
def EndAt(K:ai)(H:Hp):En->V->Prop
 | .done out held,v=>∃t hl vs,v=.ref t/\H t=some (.tup [.str "done",.int out,.ref hl])/\H hl=some (.lst vs)/\RowsAt K H held vs
 | .spent,v=>∃t,v=.ref t/\H t=some (.tup [.str "spent"])
 | .asks,v=>∃t,v=.ref t/\H t=some (.tup [.str "asks"])
 | .untrue f k,v=>∃t vp,v=.ref t/\H t=some (.tup [.str "untrue",.str f,.str "claim",vp,.int 0])/\Held H (Jd [(k:Int)]) vp
def jfx(K:ai)(CC CF:aa)(Hs:Hp)(C:CA)(A:FA)(P:Pr)(inp:List Int)(most:Int)(Q:VK):(En×Nat) ⊕ Fm->Prop
 | .inl (e,u)=>∀v H' tk,Same Hs H'->H' C.co=some (.ins CC C.dc (qB C.d1 C.d2 (.ref C.il) tk most u C.fl))->EndAt K H' e v->Q v H'
 | .inr s'=>∀H',Conf K CC CF Hs C A P inp most H' s'->Q .non H'
inductive spGo(K:ai)(CC CF:aa)(vs:List V)(H:Hp)(Q:VK)(E:XK):Prop
 | mk (Hs:Hp) (C:CA) (A:FA) (P:Pr) (inp:List Int) (most:Int) (s:Fm) (_:vs=[.ref C.co]) (_:Sta Hs C A P inp) (_:Conf K CC CF Hs C A P inp most H s) (_:(∀d,P.ds[s.i]?=some d->okD s d)) (_:jfx K CC CF Hs C A P inp most Q (mst P inp most s))
inductive spBack(K:ai)(CC CF:aa)(vs:List V)(H:Hp)(Q:VK)(E:XK):Prop
 | mk (Hs:Hp) (C:CA) (A:FA) (P:Pr) (inp:List Int) (most:Int) (s:Fm) (_:vs=[.ref C.co]) (_:Sta Hs C A P inp) (_:Conf K CC CF Hs C A P inp most H s) (_:P.ds[s.i]?=none) (_:jfx K CC CF Hs C A P inp most Q (mst P inp most s))
variable {CC:aa}{s:Fm}
section
variable {Hs:Hp}{C:CA}{P:Pr}{inp:List Int}{s':Fm}
theorem Conf.step(h:Conf K CC CF Hs C A P inp most H s)(k:∀b o,b≠C.co->b≠A.fa->b≠A.nm->b≠A.rw->H b=some o->H' b=some o)
  (co:H' C.co=some (.ins CC C.dc (qB C.d1 C.d2 (.ref C.il) s'.tk most s'.i C.fl))) (fr:FrD K CF H' s'.i A s') (tk:s'.tk<=inp.length) (i:s'.i<=P.ds.length) (N:s'.N.length<=100+s'.i) (L:s'.L.length<=100) (has:qU s'.L P.rs=true):Conf K CC CF Hs C A P inp most H' s':=by
 have nd:=h.nd
 simp only[gz,bg,t_,or_false,not_or]at nd
 have M:∀b o,Hs b=some o->b≠C.co/\b≠A.fa/\b≠A.nm/\b≠A.rw:=fun b o e=>by
  refine⟨fun z=>?_,fun z=>?_,fun z=>?_,fun z=>?_⟩ <;> (rw[z,h.new _ (by simp)]at e;cases e)
 refine⟨fun b o e=>?_,co,k _ _ (aO nd.1.1) nd.2.1.1 nd.2.1.2.1 nd.2.1.2.2 h.fl,fr,h.nd,h.new,h.cb,tk,i,N,L,has⟩
 obtain⟨m1,m2,m3,m4⟩:=M b o e
 exact k b o m1 m2 m3 m4 (h.sub b o e)
end
theorem jfk{rs:List Str}(h:qU L rs=true):qU (kM L r q) rs=true:=by
 unfold qU at h |-;rw[lA]at h |-;exact fun x hx=>jdQ (h x hx)
inductive Runs(P:Pr)(inp:List Int)(most:Int):Nat->Fm->En×Nat->Prop where
 | stop {s:Fm} {r:En×Nat} (o:∀d,P.ds[s.i]?=some d->okD s d) (h:mst P inp most s=.inl r):Runs P inp most 0 s r
 | more {k:Nat} {s s':Fm} {r:En×Nat} (o:∀d,P.ds[s.i]?=some d->okD s d) (h:mst P inp most s=.inr s') (t:Runs P inp most k s' r):Runs P inp most (k+1) s r
theorem jcs{d1 d2:aa}:j3 "frames" (.ref fl) (j3 "used" (.int 0) (j3 "most" (.int most) (j3 "taken" (.int 0) (j3 "inputs" vi (j3 "steps" (.ref d2) (j3 "procs" (.ref d1) []))))))=qB d1 d2 vi 0 most 0 fl:=by
 unfold qB;simp only[j3]
 repeat rw[Qf (by decide)]
 simp only[j3]
 repeat rw[Qf (by decide)]
 simp only[j3]
 repeat rw[Qf (by decide)]
 simp only[j3]
 repeat rw[Qf (by decide)]
 simp only[j3]
 repeat rw[Qf (by decide)]
 simp only[j3]
 repeat rw[Qf (by decide)]
 rfl
theorem jhc{prog:List Pr}(nd:(prog.map (·.f)).Nodup){j:Nat}(hi:i < prog.length)(hj:j < prog.length)(h:i≠j):prog[i].f≠prog[j].f:=fun e=>h (jaH nd (by rw[am];exact hi) (by rw[am];exact hj) (by rw[PB,PB];exact e))
noncomputable def JR(H:Hp)(M:List aa):Hp:=fun b=>if b∈M then none else H b
variable {M:List aa}{b:aa}
theorem Z8{o:HO}(h:H b=some o)(hb:b ∉ M):JR H M b=some o:=by unfold JR;rw[Qf hb];exact h
theorem jgC(hb:b∈M):JR H M b=none:=by unfold JR;rw[Qg hb]
theorem jfs:Same (JR H M) H:=fun b o e=>by
 unfold JR at e;split at e
 .cases e
 .exact e
theorem yd{P:Pr}{v:V}(h:Held H P.toD v):∃a pt rt v4 v5 vb,v=.ref a/\H a=some (.tup [.str "proc",.str P.f,.ref pt,.ref rt,v4,v5,vb])/\H pt=some (.tup (P.ps.map V.str))/\H rt=some (.tup (P.rs.map V.str))/\Held H (.tup []) v4/\Held H (.tup []) v5/\Held H (.tup (P.ds.map Dx.toD)) vb:=by
 obtain⟨t,xs,rfl,ht,h1⟩:=jD h;obtain⟨v1,r1,rfl,e1,h2⟩:=jg h1;obtain⟨v2,r2,rfl,e2,h3⟩:=jg h2;obtain⟨v3,r3,rfl,e3,h4⟩:=jg h3;obtain⟨v4,r4,rfl,e4,h5⟩:=jg h4;obtain⟨v5,r5,rfl,e5,h6⟩:=jg h5;obtain⟨v6,r6,rfl,e6,h7⟩:=jg h6;obtain⟨v7,r7,rfl,e7,h8⟩:=jg h7
 cases jP h8
 cases jE e1
 cases jE e2
 obtain⟨ta,ya,rfl,lN,g1⟩:=jD e3;obtain⟨tr,yr,rfl,AX,g2⟩:=jD e4;rw[YI g1]at lN;rw[YI g2]at AX;exact⟨t,ta,tr,v5,v6,v7,rfl,ht,lN,AX,e5,e6,e7⟩
variable {d:Dx}
theorem jfr{v:V}(h:Held H (doD i d) v):∃a st vp,v=.ref a/\H a=some (.tup [.str "do",.ref st,vp])/\Held H d.toD (.ref st)/\Held H (Jd [(i:Int)]) vp:=by
 obtain⟨a,xs,rfl,ha,h1⟩:=jD h;obtain⟨v1,r1,rfl,e1,h2⟩:=jg h1;obtain⟨v2,r2,rfl,e2,h3⟩:=jg h2;obtain⟨v3,r3,rfl,e3,h4⟩:=jg h3
 cases jP h4
 cases jE e1
 have:∃st,v2=.ref st:=by
  cases d <;> (obtain⟨st,_,e,_⟩:=jD e2;exact⟨st,e⟩)
 obtain⟨st,rfl⟩:=this;exact⟨a,st,v3,rfl,ha,e2,e3⟩
inductive spProcs(vs:List V)(H:Hp)(Q:VK)(E:XK):Prop
 | mk (pg:aa) (prog:List Pr) (dk:List V) (_:vs=[.ref pg]) (_:H pg=some (.tup dk)) (_:HeldL H (prog.map Pr.toD) dk) (_:(prog.map (·.f)).Nodup) (_:prog.length<=100) (_:∀d kv H',Same H H'->H d=none->H' d=some (.dK kv)->(∀P∈prog,∃pra,kK kv (Sum.inr P.f)=some (.ref pra)/\Held H' P.toD (.ref pra))->Q (.ref d) H')
inductive spLayZ(vs:List V)(H:Hp)(Q:VK)(E:XK):Prop
 | mk (sl:aa) (vb va:V) (ds:List Dx) (_:vs=[.ref sl,vb,va]) (_:H sl=some (.lst [])) (_:Held H (.tup (ds.map Dx.toD)) vb) (_:Held H (Jd []) va) (_:ds.length<=40) (_:∀H' ss,(∀b o,b≠sl->H b=some o->H' b=some o)->H' sl=some (.lst ss)->HeldL H' (ql 0 ds) ss->Q .non H')
inductive spStepsZ(vs:List V)(H:Hp)(Q:VK)(E:XK):Prop
 | mk (pr:aa) (x0 x1 x2 x3 x4 x5 vb:V) (ds:List Dx) (_:vs=[.ref pr]) (_:H pr=some (.tup [x0,x1,x2,x3,x4,x5,vb])) (_:Held H (.tup (ds.map Dx.toD)) vb) (_:ds.length<=40) (_:∀sl ss H',Same H H'->H sl=none->H' sl=some (.lst ss)->HeldL H' (ql 0 ds) ss->Q (.ref sl) H')
inductive spCourse(CC:aa)(vs:List V)(H:Hp)(Q:VK)(E:XK):Prop
 | mk (co dc pg:aa) (vi:V) (most:Int) (prog:List Pr) (dk:List V) (_:vs=[.ref co,.ref pg,vi,.int most]) (_:H co=some (.ins CC dc [])) (_:H pg=some (.tup dk)) (_:HeldL H (prog.map Pr.toD) dk) (_:(prog.map (·.f)).Nodup) (_:prog.length<=100) (_:(∀P∈prog,P.ds.length<=40)) (_:∀d1 d2 fl mV lI H',(∀b o,b≠co->H b=some o->H' b=some o)->H d1=none->H d2=none->H fl=none->H' co=some (.ins CC dc (qB d1 d2 vi 0 most 0 fl))->H' d1=some (.dK mV)->(∀P∈prog,∃pra,kK mV (Sum.inr P.f)=some (.ref pra)/\Held H' P.toD (.ref pra))->H' d2=some (.dK lI)->(∀P∈prog,∃sl ss,kK lI (Sum.inr P.f)=some (.ref sl)/\H' sl=some (.lst ss)/\sl≠fl/\HeldL H' (ql 0 P.ds) ss)->H' fl=some (.lst [])->Q .non H')
def yP(P:Pr)(nums:List Int)(held:List jB):Fm:=⟨P.ps.zip nums,P.rs.zip held,0,0⟩
structure RunAt(K:ai)(H:Hp)(pg nl rl il:aa)(P:Pr)(nums:List Int)(held:List jB)(inp:List Int):Prop where
 pg:∃dk,H pg=some (.tup dk)/\HeldL H [P.toD] dk
 nl:H nl=some (.lst (nums.map V.int))
 rl:∃ao,H rl=some (.lst ao)/\RowsAt K H held ao
 il:H il=some (.lst (inp.map V.int))
 sz:P.ds.length<=40
 ps:P.ps.length=nums.length
 rs:P.rs.length=held.length
 nps:P.ps.Nodup
 nrs:P.rs.Nodup
 lps:P.ps.length<=100
 lrs:P.rs.length<=100
 w0:∀q∈held,q.2.2.length<=0
inductive spRun(K:ai)(vs:List V)(H:Hp)(Q:VK)(E:XK):Prop
 | mk (pg nl rl il:aa) (P:Pr) (nums:List Int) (held:List jB) (inp:List Int) (most:Int) (_:vs=[.ref pg,.str P.f,.ref nl,.ref rl,.ref il,.int most]) (_:RunAt K H pg nl rl il P nums held inp) (_:∃k e u,Runs P inp most k (yP P nums held) (e,u)/\∀t v H',Same H H'->EndAt K H' e v->H' t=some (.tup [v,.int u])->Q (.ref t) H')
theorem EndAt.mono(s:Same H H'):∀{e:En} {v:V},EndAt K H e v->EndAt K H' e v
 | .done _ _,_,⟨t,hl,vs,h1,h2,h3,h4⟩=>⟨t,hl,vs,h1,s _ _ h2,s _ _ h3,h4.tk (TKF.same s)⟩
 | .spent,_,⟨t,h1,h2⟩=>⟨t,h1,s _ _ h2⟩
 | .asks,_,⟨t,h1,h2⟩=>⟨t,h1,s _ _ h2⟩
 | .untrue _ _,_,⟨t,vp,h1,h2,h3⟩=>⟨t,vp,h1,s _ _ h2,h3.mono s⟩
theorem EndAt.not:∀{e:En} {v:V},EndAt K H e v->v≠.non
 | .done _ _,_,⟨t,hl,vs,h1,_⟩=>by rw[h1];intro z;cases z
 | .spent,_,⟨t,h1,_⟩=>by rw[h1];intro z;cases z
 | .asks,_,⟨t,h1,_⟩=>by rw[h1];intro z;cases z
 | .untrue _ _,_,⟨t,vp,h1,_⟩=>by rw[h1];intro z;cases z
structure DoAt(K:ai)(CC CF:aa)(C:CA)(H:Hp)(A:FA)(F:Fm)(n:Nat)(st:aa)(d:Dx)(inp:List Int)(p1:V)(tk:Nat)(most:Int)(cu:Nat):Prop where
 co:H C.co=some (.ins CC C.dc (qB C.d1 C.d2 (.ref C.il) tk most cu C.fl))
 il:H C.il=some (.lst (inp.map V.int))
 fr:FrD K CF H n A F
 hn:n<=60
 pr:∃p0 p2 p3 p4 p5 p6,H A.pra=some (.tup [p0,p1,p2,p3,p4,p5,p6])
 st:Held H d.toD (.ref st)
 N:F.N.length<=900
 L:F.L.length<=100
 cf:C.co≠A.fa
 tk:tk<=inp.length
 nr:A.nm≠A.rw
def jhn(K:ai)(CC CF:aa)(C:CA)(H:Hp)(A:FA)(F:Fm)(n:Nat)(st:aa)(inp:List Int)(p1 vp:V)(tk:Nat)(most:Int)(cu:Nat)(Q:VK):Dx->Prop
 | .set x t c=>∀H',(∀b o,b≠A.nm->H b=some o->H' b=some o)->H' A.nm=some (.dK (nKV (kM F.N x (t.val F.N F.L+c))))->Q .non H'
 | .put r x d t c=>(lkA F.L r).isSome=true/\∀H',(∀b o,b≠A.rw->H b=some o->H' b=some o)->(∃ao,H' A.rw=some (.dK ao)/\RV K H' (n+1) ao (kM F.L r ((jR F.L r).1,(jR F.L r).2.1,(jR F.L r).2.2++[(kr F.N x+d,t.val F.N F.L+c)])))->Q .non H'
 | .any x=>(inp[tk]?=none->∀t H',Same H H'->H' t=some (.tup [.str "asks"])->Q (.ref t) H')/\
  ∀v,inp[tk]?=some v->∀H',(∀b o,b≠A.nm->b≠C.co->H b=some o->H' b=some o)->H' A.nm=some (.dK (nKV (kM F.N x v)))->H' C.co=some (.ins CC C.dc (qB C.d1 C.d2 (.ref C.il) (tk+1) most cu C.fl))->Q .non H'
 | .claim D=>Fit F.L/\(yC F.N F.L [D]=none->∀H',Same H H'->Q .non H')/\∀k,yC F.N F.L [D]=some k->∀t H',Same H H'->H' t=some (.tup [.str "untrue",p1,.str "claim",vp,.int k])->Q (.ref t) H'
inductive spDo(K:ai)(CC CF:aa)(vs:List V)(H:Hp)(Q:VK)(E:XK):Prop
 | mk (C:CA) (A:FA) (F:Fm) (n:Nat) (st:aa) (d:Dx) (inp:List Int) (p1 vp:V) (tk:Nat) (most:Int) (cu:Nat) (_:vs=[.ref C.co,.ref A.fa,.ref st,vp]) (_:DoAt K CC CF C H A F n st d inp p1 tk most cu) (_:jhn K CC CF C H A F n st inp p1 vp tk most cu Q d)
variable {N:List (Str×Int)}{C:Cl}
theorem jcS{k:Nat}(h:yC N L [C]=some k):k=0:=by
 unfold yC at h;obtain⟨hl,_⟩:=E2.mp h;have:[C].length=1:=rfl;omega
theorem Zr:yC N L [C]=if zH N L C=true then none else some 0:=by
 unfold yC;rw[List.findIdx?_cons]
 cases zH N L C <;> rfl
theorem Zs{x1 x2 y1 y2:V}(h1:LikeV K H n x1 y1)(h2:LikeV K H n x2 y2)(j:Nat)(x' y':V)(e1:[x1,x2][j]?=some x')(e2:[y1,y2][j]?=some y'):LikeV K H n x' y':=by
 match j with
 | 0=>cases e1;cases e2;exact h1
 | 1=>cases e1;cases e2;exact h2
 | j+2=>simp at e1
theorem jau{v v':V}{r:Int×List (Int×Int)}(h:RowAt K H v r)(h':RowAt K H v' r):LikeV K H 3 v v':=by
 obtain⟨a,b,qs,rfl,s1,s2,s3⟩:=h.ex;obtain⟨a',b',rY,rfl,t1,t2,t3⟩:=h'.ex;refine .inr (.inl ⟨a,a',_,_,rfl,rfl,s1,t1,rfl,Zs (qv _ _) (.inr (.inl ⟨b,b',qs,rY,rfl,rfl,s2,t2,by rw[s3.1,t3.1],fun j x' y' e1 e2=>?_⟩))⟩);have hj:j < r.2.length:=by
  have:=(aV.mp e1).1;rw[s3.1]at this;exact this
 obtain⟨c,f1,f2⟩:=s3.2 j hj;obtain⟨c',g1,g2⟩:=t3.2 j hj;rw[f1]at e1;rw[g1]at e2
 cases e1
 cases e2
 exact .inr (.inl ⟨c,c',_,_,rfl,rfl,f2,g2,rfl,Zs (qv _ _) (qv _ _)⟩)
theorem jbN{v v':V}(h:RowIs K H q v)(h':RowIs K H q v'):LikeV K H 3 v v':=by
 obtain⟨R,h1,c1,_,e1⟩:=h;obtain⟨R',h2,c2,_,e2⟩:=h';have:R=R':=jac c1 c2 fun z=>by rw[e1,e2]
 subst this;exact jau h1 h2
theorem Ku:∀(qs:List jB) (vs fM:List V),RowsAt K H qs vs->RowsAt K H qs fM->LikeL K H 3 vs fM:=by
 intro qs;induction qs with
 | nil=>
  intro vs fM h h'
  cases vs with
  | nil=>
   cases fM with
   | nil=>exact .nil
   | cons _ _=>exact h'.elim
  | cons _ _=>exact h.elim
 | cons q r ih=>
  intro vs fM h h'
  cases vs with
  | nil=>exact h.elim
  | cons v t=>
   cases fM with
   | nil=>exact h'.elim
   | cons v' t'=>exact .cons (jbN h.1 h'.1) (ih t t' h.2 h'.2)
abbrev Jr:au:=top 21
abbrev Jt:au:=top 22
abbrev qm:au:=top 19
abbrev zv:au:=jbp (top 28) 0
section
variable {P:av}
theorem ZH(F:Fun K "lay_body" "lay_body" Jt f fd)(B:Free0 mg)(iw:mg "enumerate" = none):FnOk P w K mg base CX0 1 f fd ["steps","body","around"] spLayZ:=by
 have sc:FnScope ["steps","body","around","k","statement","path"] ["steps","body","around"] (jn Jt):=fQ;refine F.okZ sc (fun az A outer s H vs Q E hr h=>?_);obtain⟨sl,vb,va,ds,rfl,hs,hb,ha,bd,q⟩:=h;refine⟨_,(jt (JT dS rfl (Ya (by rfl) iw (jd (zpv 1) jj)) (zG rfl (kn (ke (i:=3) sc.nd rfl oQ) (kn (ke (i:=4) sc.nd rfl oQ) qY))) (jh (jF (i:=5) sc.nd rfl oQ (jK yf (zpv 2) (jO (jd (zpv 3) jj))))
   (jt (j9 (jL j5 (jC jq (zpv 4) jf (fun _ _=>rfl)) jJ (ju _)) (jt (qb yq)) (jt (j9 (jL j5 (jC jq (zpv 4) jf (fun _ _=>rfl)) jJ (ju _)) (jt (qb yq)) (jt (qb (YE eU mD mC kR (zpv 0) (jd (jO (jd jJ (jd (zpv 4) (jd (zpv 5) jj)))) jj))))))))))),?_⟩
 obtain⟨ba,bs,rfl,eb,BU⟩:=jD hb;obtain⟨pa,rfl,Mi⟩:=jbV ha;have gg:=BU.length;rw[am]at gg;refine zU (σ':=[some (.ref sl),some (.ref ba),some (.ref pa),none,none,none]) rfl ?_
 try dsimp only[JQ]
 refine⟨_,rfl,ba,rfl,⟨_,SqT.of eb⟩,?_⟩;refine Yv (xs:=bs) (fun i σ G=>∃(u3 u4 u5:Option V) (gF:List V),σ=[some (.ref sl),some (.ref ba),some (.ref pa),u3,u4,u5]/\(∀b o,b≠sl->H b=some o->G b=some o)/\G sl=some (.lst gF)/\HeldL G (ql 0 (ds.take i)) gF) ⟨none,none,none,[],rfl,fun b o _ e=>e,hs,by rw[Po];exact jp⟩ ?_ ?_ ?_
 .rintro i σ G _ ⟨u3,u4,u5,gF,rfl,kG,_⟩
  exact SqT.of (kG _ _ (j6 eb hs (by intro z;cases z)) eb)
 .rintro i y σ G t hy ⟨u3,u4,u5,gF,rfl,kG,eS,sX⟩ ht
  have hi:i < ds.length:=by have:=(aV.mp hy).1;omega
  have bv:ds[i]?=some ds[i]:=aC hi;obtain⟨y',cS,uM⟩:=BU.get (show (ds.map Dx.toD)[i]?=some (Dx.toD ds[i]) by rw[bA,bv];rfl);rw[hy]at cS
  cases cS
  have m6:ds.take (i+1)=ds.take i++[ds[i]]:=by rw[cq,bv];rfl
  rw[m6];generalize ds[i]=st at *;obtain⟨kd,r,cj,vw,sP⟩:=jfq st;have s1:=jb ht (.tup [V.int i,y]);have Af:TK H G:=fun b xs e=>kG _ _ (j6 e hs (by intro z;cases z)) e
  have e1:upd G t (.tup [V.int i,y]) t=some (.tup [V.int i,y]):=ja;have CB:=s1 _ _ eS;have lK:=(Af.held uM).mono s1;have B4:=sX.mono s1;have Bc:=s1 _ _ (Af _ _ Mi);have k1:∀b o,b≠sl->H b=some o->upd G t (.tup [V.int i,y]) b=some o:=fun b o hb e=>s1 _ _ (kG b o hb e)
  generalize upd G t (.tup [V.int i,y])=G1 at *;rw[cj]at lK;obtain⟨ya,xs,rfl,tj,fU⟩:=Ys lK;rw[<- cj]at lK;refine⟨t,_,rfl,SqT.of e1,rfl,_,_,rfl,?_⟩;refine gQ ?_;refine⟨_,_,rfl,?_⟩;refine gQ ?_;refine⟨rfl,?_⟩;refine⟨_,rfl,_,rfl,sm rfl,fun c hc=>?_⟩;have s2:=jb hc (.tup [V.int i]);have e2:upd G1 c (.tup [V.int i]) c=some (.tup [V.int i]):=ja;generalize upd G1 c (.tup [V.int i])=G2 at *;refine⟨pa,c,_,_,rfl,rfl,s2 _ _ Bc,e2,sm rfl,fun pp G3 s3 Cv=>?_⟩;refine gQ ?_;have aS:=s2.trans s3;have HA:Held G3 (Jd [(i:Int)]) (.ref pp):=JC Cv;have Cs:=aS _ _ tj;have Cz:=aS _ _ CB;have G0:=lK.mono aS;have B3:=B4.mono aS;have k3:∀b o,b≠sl->H b=some o->G3 b=some o:=fun b o hb e=>aS _ _ (k1 b o hb e)
  clear s1 s2 s3 aS e1 e2 CB lK B4 Bc k1 fU tj Cv;refine⟨_,rfl,ya,_,_,_,rfl,rfl,SqT.of Cs,J4,rfl,_,rfl,j7 (fun d=>?_) (fun _=>?_)⟩
  .exact absurd (by have:=Qc d;injection this) vw
  refine⟨_,rfl,ya,_,_,_,rfl,rfl,SqT.of Cs,J4,rfl,_,rfl,j7 (fun d=>?_) (fun _=>?_)⟩
  .exact absurd (by have:=Qc d;injection this) sP
  refine⟨_,rfl,.inl ⟨rfl,_,SqL.of Cz⟩,_,rfl,_,rfl,sm rfl,fun nw HQ=>?_⟩;have s4:=jb HQ (.tup [V.str "do",V.ref ya,V.ref pp]);have e4:upd G3 nw (.tup [V.str "do",V.ref ya,V.ref pp]) nw=some (.tup [V.str "do",V.ref ya,V.ref pp]):=ja;have Cy:=s4 _ _ Cz;have GZ:=G0.mono s4;have Hz:=HA.mono s4;have Lv:=B3.mono s4;have dC:=B3.length;rw[Jn,a_]at dC;generalize upd G3 nw (.tup [V.str "do",V.ref ya,V.ref pp])=G4 at *;refine⟨sl,_,_,rfl,rfl,Cy,jw (by omega),?_⟩;have gD:TK G4 (upd G4 sl (.lst (gF++[.ref nw]))):=TK.upd Cy (fun _ z=>by cases z);refine⟨_,_,_,gF++[.ref nw],rfl,(fun b o hb e=>by rw[jl hb];exact s4 _ _ (k3 b o hb e)),ja,?_⟩;rw[Kb,tZ,a_,xO (cQ hi)];exact qg (gD.heldL Lv) (jv (gD _ _ e4) (jc jy (jc (gD.held GZ) (jc (gD.held Hz) jp))))
 .rintro σ G ⟨u3,u4,u5,gF,rfl,kG,eS,sX⟩
  rw[<- gg,ce]at sX;exact q G gF kG eS sX
theorem ZF(F:Fun K "steps_of" "steps_of" Jr f fd)(wG:Fn P w K mg base 1 "lay_body" ["steps","body","around"] spLayZ):FnOk P w K mg base CX0 2 f fd ["proc"] spStepsZ:=by
 have sc:FnScope ["proc","steps"] ["proc"] (jn Jr):=fQ;refine F.okZ sc (fun az A outer s H vs Q E hr h=>?_);obtain⟨pr,x0,x1,x2,x3,x4,x5,vb,ds,rfl,Mh,hb,bd,q⟩:=h;refine⟨_,(jh (jF (i:=1) sc.nd rfl oQ (qj jj))
   (jh (qb (jQ wG hr (jd (zpv 1) (jd (jC jq (zpv 0) jf (fun _ _=>rfl)) (jd (jO jj) jj)))))
   (jt (j8 (zpv 1))))),?_⟩
 refine⟨sm rfl,fun sl fT=>?_⟩;have s1:=jb fT (.lst []);have e1:upd H sl (.lst []) sl=some (.lst []):=ja;generalize upd H sl (.lst [])=H1 at *;refine⟨_,rfl,_,rfl,pr,_,_,_,rfl,rfl,SqT.of (s1 _ _ Mh),rfl,sm rfl,fun e he=>?_⟩;have s2:=jb he (.tup []);have e2:upd H1 e (.tup []) e=some (.tup []):=ja;generalize upd H1 e (.tup [])=H2 at *;refine⟨sl,_,_,ds,rfl,s2 _ _ e1,(hb.mono s1).mono s2,JC e2,bd,fun H3 ss k3 e3 h3=>?_⟩;exact⟨_,rfl,q sl ss H3 (fun b o z=>k3 b o (jo z fT) (s2 _ _ (s1 _ _ z))) fT e3 h3⟩
theorem jdC(F:Fun K "procs_by_name" "procs_by_name" qm f fd):FnOk P w K mg base CX0 1 f fd ["program"] spProcs:=by
 have sc:FnScope ["program"] ["program"] (jn qm):=fQ;refine F.okZ sc (fun az A outer s H vs Q E hr h=>?_);obtain⟨pg,prog,dk,rfl,iW,iU,nd,hl,q⟩:=h;have bC:=iU.length;rw[am]at bC;refine⟨_,(jt (j8 (Yb ["proc"] [] rfl (kz (sc:=jn qm) (N:=["program"]) rfl rfl (by decide +kernel)) (YD (zpv 0)) (fun s H ex=>⟨(ke (i:=0) (show bG (["proc"]:List Str) by decide +kernel) rfl oQ),zX,(jC (Jf (K:=K)) (zpv 0) jf (fun _ _=>rfl)),(zpv 0)⟩)))),?_⟩;refine⟨_,rfl,pg,rfl,⟨_,SqT.of iW⟩,fun d hd=>?_⟩;refine Yw (xs:=dk) (fun i σ' G=>(∃u,σ'=[u])/\Same H G/\∃kv,G d=some (.dK kv)/\kv.length<=i/\∀j (hj:j < prog.length),j < i->∃pra,kK kv (Sum.inr prog[j].f)=some (.ref pra)/\Held H prog[j].toD (.ref pra)) ⟨⟨none,rfl⟩,jb hd _,[],ja,ay _,fun j _ h=>absurd h (t0 _)⟩ ?_ ?_ ?_
 .rintro i σ' G _ ⟨_,sG,_⟩
  exact SqT.of (sG _ _ iW)
 .rintro i x σ' G hx ⟨⟨u,rfl⟩,sG,kv,eG,IA,dP⟩
  have hi:i < prog.length:=by have:=(aV.mp hx).1;omega
  obtain⟨x',cg,sq⟩:=iU.get (show (prog.map Pr.toD)[i]?=some prog[i].toD by rw[bA,aC hi];rfl);rw[hx]at cg
  cases cg
  obtain⟨pra,pt,rt,v4,v5,vb,rfl,dr,iV,gK,m5,oX,oV⟩:=yd sq;unfold kU yH;refine kL ?_;refine⟨_,rfl,pra,_,_,_,rfl,rfl,SqT.of (sG _ _ dr),rfl,_,rfl,kv,Sum.inr prog[i].f,rfl,eG,jw (by omega),⟨_,rfl⟩,fun b o e=>?_,_,ja,?_,fun j hj IF=>?_⟩
  .rw[jl (jo e hd)];exact sG _ _ e
  .exact aZ (ZB _ _ _) (by omega)
  .rw[Zp]
   by_cases g:j=i
   .subst g
    rw[Qg rfl];exact⟨pra,rfl,sq⟩
   .rw[Qf (fun z=>jhc nd hj hi g (ix z))]
    exact dP j hj (by omega)
 .rintro σ' G ⟨_,sG,kv,eG,_,dP⟩
  refine q d kv G sG hd eG fun P hP=>?_
  obtain⟨j,hj,rfl⟩:=di.mp hP;obtain⟨pra,h1,h2⟩:=dP j hj (by omega);exact⟨pra,h1,h2.mono sG⟩
theorem jb6(TC:ClsC K CC)(F:Fun K "__init__" "Course.__init__" zv f fd)(wC:Fn P w K mg base 1 "procs_by_name" ["program"] spProcs)(wx:Fn P w K mg base 2 "steps_of" ["proc"] spStepsZ):FnOk P w K mg base CX0 3 f fd ["self","program","inputs","most"] (spCourse CC):=by
 have sc:FnScope ["self","program","inputs","most"] ["self","program","inputs","most"] (jn zv):=fQ;refine F.okZ sc (fun az A outer s H vs Q E hr h=>?_);obtain⟨co,dc,pg,vi,most,prog,dk,rfl,er,iW,iU,nd,hl,hok,q⟩:=h;have bC:=iU.length;rw[am]at bC;refine⟨_,(jh (kZ (zpv 0) (jQ wC hr (jd (zpv 1) jj)) rfl)
   (jh (kZ (zpv 0) (Yb ["proc"] [] rfl (kz (sc:=jn zv) (N:=["self","program","inputs","most"]) rfl rfl (by decide +kernel)) (YD (zpv 1)) (fun s H ex=>⟨(ke (i:=0) (show bG (["proc"]:List Str) by decide +kernel) rfl oQ),zX,(jC (Jf (K:=K)) (zpv 0) jf (fun _ _=>rfl)),(jQ wx hr (jd (zpv 0) jj))⟩)) rfl)
   (jh (kZ (zpv 0) (zpv 2) rfl)
   (jh (kZ (zpv 0) jf rfl)
   (jh (kZ (zpv 0) (zpv 3) rfl)
   (jh (kZ (zpv 0) jf rfl)
   (jt (kZ (zpv 0) (qj jj) rfl)))))))),?_⟩
 refine⟨_,rfl,pg,prog,dk,rfl,iW,iU,nd,hl,fun d1 mV H1 s1 i5 e1 sO=>?_⟩;refine⟨_,rfl,co,CC,dc,[],rfl,s1 _ _ er,TC.c,TC.n1,by show 0 < 1000;decide,?_⟩;have iP:d1≠co:=fun z=>by rw[z,er]at i5;cases i5
 have k2:∀b o,b≠co->H b=some o->upd H1 co (.ins CC dc (j3 "procs" (.ref d1) [])) b=some o:=fun b o hb z=>by rw[jl hb];exact s1 _ _ z
 have c2:upd H1 co (.ins CC dc (j3 "procs" (.ref d1) [])) co=some (.ins CC dc (j3 "procs" (.ref d1) [])):=ja;have me:upd H1 co (.ins CC dc (j3 "procs" (.ref d1) [])) d1=some (.dK mV):=by rw[jl iP];exact e1
 have Aj:TK H1 (upd H1 co (.ins CC dc (j3 "procs" (.ref d1) []))):=TK.upd (s1 _ _ er) (fun _ z=>by cases z);generalize upd H1 co (.ins CC dc (j3 "procs" (.ref d1) []))=H2 at *;have uk:TK H H2:=(TK.same s1).trans Aj;have L_:∀b,H2 b=none->H b=none:=fun b hb=>by
  rcases hh:H b with _ | o
  .rfl
  .by_cases z:b=co
   .rw[z,c2]at hb;cases hb
   .rw[k2 b o z hh]at hb;cases hb
 refine⟨_,rfl,pg,rfl,⟨_,SqT.of (uk _ _ iW)⟩,fun d2 cG=>?_⟩;have La:=L_ d2 cG;refine Yw (xs:=dk) (fun i σ' G=>(∃u,σ'=[u])/\Same H2 G/\∃kv,G d2=some (.dK kv)/\kv.length<=i/\∀j (hj:j < prog.length),j < i->∃sl ss,kK kv (Sum.inr prog[j].f)=some (.ref sl)/\G sl=some (.lst ss)/\HeldL G (ql 0 prog[j].ds) ss) ⟨⟨none,rfl⟩,jb cG _,[],ja,ay _,fun j _ h=>absurd h (t0 _)⟩ ?_ ?_ ?_
 .rintro i σ' G _ ⟨_,sG,_⟩
  exact SqT.of (sG _ _ (uk _ _ iW))
 .rintro i x σ' G hx ⟨⟨u,rfl⟩,sG,kv,eG,IA,dP⟩
  have hi:i < prog.length:=by have:=(aV.mp hx).1;omega
  obtain⟨x',cg,sq⟩:=iU.get (show (prog.map Pr.toD)[i]?=some prog[i].toD by rw[bA,aC hi];rfl);rw[hx]at cg
  cases cg
  have GI:Held G prog[i].toD x:=(uk.held sq).mono sG;obtain⟨pra,pt,rt,v4,v5,vb,rfl,dr,iV,gK,m5,oX,oV⟩:=yd GI;have hP:=hok prog[i] (eW hi);unfold kU yH;refine kL ?_;refine⟨_,rfl,pra,_,_,_,rfl,rfl,SqT.of dr,rfl,_,rfl,pra,_,_,_,_,_,_,_,prog[i].ds,rfl,dr,oV,hP,fun sl ss G2 s2 fT e2 hH=>?_⟩;have wk:=s2 _ _ eG;have Ai:TK G2 (upd G2 d2 (.dK (kW kv (Sum.inr prog[i].f) (.ref sl)))):=TK.upd wk (fun _ z=>by cases z);have kd:∀b xs,G2 b=some (.lst xs)->upd G2 d2 (.dK (kW kv (Sum.inr prog[i].f) (.ref sl))) b=some (.lst xs):=fun b xs e=>by rw[jl (j6 e wk (by intro y;cases y))];exact e
  refine⟨kv,Sum.inr prog[i].f,rfl,wk,jw (by omega),⟨_,rfl⟩,fun b o e=>?_,_,ja,?_,fun j hj IF=>?_⟩
  .rw[jl (jo e cG)];exact s2 _ _ (sG _ _ e)
  .exact aZ (ZB _ _ _) (by omega)
  .rw[Zp]
   by_cases g:j=i
   .subst g
    rw[Qg rfl];exact⟨sl,ss,rfl,kd _ _ e2,Ai.heldL hH⟩
   .rw[Qf (fun z=>jhc nd hj hi g (ix z))]
    obtain⟨ut,gF,h1,b9,h3⟩:=dP j hj (by omega);exact⟨ut,gF,h1,kd _ _ (s2 _ _ b9),Ai.heldL (h3.mono s2)⟩
 rintro σ' G ⟨_,sG,lI,ed,_,nk⟩;have c3:=sG _ _ c2;have mf:=sG _ _ me;have k3:∀b o,b≠co->H b=some o->G b=some o:=fun b o hb z=>sG _ _ (k2 b o hb z)
 have FW:d2≠co:=fun z=>by rw[z,c2]at cG;cases cG
 refine⟨_,rfl,co,CC,dc,_,rfl,c3,TC.c,TC.n2,by show 1 < 1000;decide,?_⟩;refine⟨_,rfl,_,rfl,co,CC,dc,_,rfl,ja,TC.c,TC.n3,by show 2 < 1000;decide,?_⟩;refine⟨_,rfl,co,CC,dc,_,rfl,ja,TC.c,TC.n4,by show 3 < 1000;decide,?_⟩;refine⟨_,rfl,_,rfl,co,CC,dc,_,rfl,ja,TC.c,TC.n5,by show 4 < 1000;decide,?_⟩;refine⟨_,rfl,co,CC,dc,_,rfl,ja,TC.c,TC.n6,by show 5 < 1000;decide,?_⟩;refine⟨sm rfl,fun fl fj=>?_⟩;have sf:fl≠co:=fun z=>by rw[z,ja]at fj;cases fj
 have uI:∀b o,b≠co->G b=some o->b≠fl:=fun b o hb z y=>by
  rw[y]at z hb;rw[jl hb,jl hb,jl hb,jl hb,jl hb,z]at fj
  cases fj
 have pq:H fl=none:=by
  rcases hh:H fl with _ | o
  .rfl
  .exact absurd rfl (uI fl o sf (k3 fl o sf hh))
 refine⟨_,rfl,co,CC,dc,_,rfl,(by rw[jl (aO sf)];exact ja),TC.c,TC.n7,by show 6 < 1000;decide,?_⟩;rw[jcs];have mX:∀(A1 A2 A3 A4 A5:HO) b o,b≠co->G b=some o->upd (upd (upd (upd (upd (upd (upd G co A1) co A2) co A3) co A4) co A5) fl (.lst [])) co (.ins CC dc (qB d1 d2 vi 0 most 0 fl)) b=some o:=fun A1 A2 A3 A4 A5 b o hb z=>by
  rw[jl hb,jl (uI b o hb z),jl hb,jl hb,jl hb,jl hb,jl hb];exact z
 refine q d1 d2 fl mV lI _ (fun b o hb z=>mX _ _ _ _ _ b o hb (k3 b o hb z)) i5 La pq ja (mX _ _ _ _ _ _ _ iP mf) (fun P hP=>?_) (mX _ _ _ _ _ _ _ FW ed) (fun P hP=>?_) ?_
 .obtain⟨pra,h1,b9⟩:=sO P hP
  exact⟨pra,h1,Y9 (fun b xs z=>mX _ _ _ _ _ b _ (j6 z c3 (by intro y;cases y)) z) ((Aj.held b9).mono sG)⟩
 .obtain⟨j,hj,rfl⟩:=di.mp hP
  obtain⟨sl,ss,h1,b9,h3⟩:=nk j hj (by omega);have Aw:sl≠co:=j6 b9 c3 (by intro y;cases y);exact⟨sl,ss,h1,mX _ _ _ _ _ _ _ Aw b9,uI _ _ Aw b9,heldL_tk (fun b xs z=>mX _ _ _ _ _ b _ (j6 z c3 (by intro y;cases y)) z) h3⟩
 .rw[jl sf,ja]
end
abbrev zq:au:=top 32
abbrev jc7:au:=top 33
abbrev qo:au:=jbp (top 29) 0
section
variable {P:av}
theorem JN(T:ClsF K CF)(iw:mg "enumerate" = none)(F:Fun K "first_untrue" "first_untrue" zq f fd)(fD:Fn P w K mg base 5 "holds" ["claim","numbers","rows"] (spHoldsP (fun _=>True) K)):FnOk P w K mg base CX0 6 f fd ["claims","frame"] (spFirst K CF):=by
 have sc:FnScope ["claims","frame","k","claim"] ["claims","frame"] (jn zq):=fQ;refine F.okZ sc (fun az A outer s H vs Q E hr h=>?_);obtain⟨vc,cs,Ad,Fm,n,rfl,hc,hD,hn,vF,q⟩:=h;obtain⟨ca,xs,rfl,Cw,aY⟩:=jD hc;have hl:=aY.length;rw[am]at hl;refine⟨_,(jh (JT dS rfl (Ya (by rfl) iw (jd (zpv 0) jj)) (zG rfl (kn (ke (i:=2) sc.nd rfl oQ) (kn (ke (i:=3) sc.nd rfl oQ) qY))) (jt (j9 (YC (yp (jQ fD hr (jd (zpv 3) (jd (jZ (zpv 1) rfl) (jd (jZ (zpv 1) rfl) jj)))))) (jt (j8 (zpv 2))) jX)))
   (jt (j8 kD))),?_⟩
 refine zU (σ':=[some (.ref ca),some (.ref Ad.fa),none,none]) rfl ?_;refine⟨_,rfl,ca,rfl,⟨_,SqT.of Cw⟩,?_⟩;refine Yv (xs:=xs) (fun j σ G=>∃u2 u3,σ=[some (.ref ca),some (.ref Ad.fa),u2,u3]/\Same H G/\∀j' c,j' < j->cs[j']?=some c->zH Fm.N Fm.L c=true) ⟨none,none,rfl,Same.refl _,fun j' c h=>absurd h (t0 _)⟩ ?_ ?_ ?_
 .rintro j σ G _ ⟨u2,u3,rfl,sG,_⟩
  exact SqT.of (sG _ _ Cw)
 .rintro j y σ G t hy ⟨u2,u3,rfl,sG,eQ⟩ ht
  have hj:j < cs.length:=by have:=(aV.mp hy).1;omega
  have BQ:cs[j]?=some cs[j]:=aC hj;obtain⟨y',cS,uM⟩:=aY.get (show (cs.map Cl.toD)[j]?=some (Cl.toD cs[j]) by rw[bA,BQ];rfl);rw[hy]at cS
  cases cS
  have s1:=jb ht (.tup [V.int j,y]);have e1:upd G t (.tup [V.int j,y]) t=some (.tup [V.int j,y]):=ja;have dY:=sG.trans s1;generalize upd G t (.tup [V.int j,y])=G1 at *;refine⟨t,_,rfl,SqT.of e1,rfl,_,_,rfl,?_⟩;refine gQ ?_;refine⟨_,_,rfl,?_⟩;refine gQ ?_;refine⟨rfl,?_⟩;have eA:=hD.same dY;obtain⟨ao,bX,gk⟩:=eA.rw;refine⟨_,rfl,_,rfl,Ad.fa,CF,Ad.dx,_,_,rfl,eA.fa,T.c,T.n3,rfl,_,rfl,Ad.fa,CF,Ad.dx,_,_,rfl,eA.fa,T.c,T.n4,rfl,?_⟩;refine⟨y,cs[j],Ad.nm,Ad.rw,n,Fm.N,ao,Fm.L,rfl,uM.mono dY,trivial,eA.nm,bX,gk,hn,vF (fun z=>by rw[z]at hj;cases hj),fun b G2 s2 hb=>⟨_,rfl,?_⟩⟩;have aW:=Zt hb;subst aW;refine j7 (fun d=>?_) (fun d=>?_)
  .have IU:zH Fm.N Fm.L cs[j]=false:=by simpa using d
   have vG:yC Fm.N Fm.L cs=some j:=by
    unfold yC;rw[E2];refine⟨hj,by rw[IU];rfl,fun j' ip=>?_⟩;rw[eQ j' cs[j'] ip (aC (by omega))];simp
   refine⟨_,rfl,?_⟩;have:=q G2 (dY.trans s2);rw[vG]at this;exact this
  .have GV:zH Fm.N Fm.L cs[j]=true:=by simpa using d
   refine⟨_,_,rfl,dY.trans s2,fun j' c h1 h2=>?_⟩;rcases eJ j' j with g | g
   .exact eQ j' c g h2
   .have:j'=j:=by omega
    subst this;rw[BQ]at h2
    cases h2
    exact GV
 .rintro σ G ⟨u2,u3,rfl,sG,eQ⟩
  have vG:yC Fm.N Fm.L cs=none:=by
   unfold yC;rw[PK];intro c hc;obtain⟨j,hj⟩:=List.mem_iff_getElem?.mp hc;rw[eQ j c (by have:=(aV.mp hj).1;omega) hj];rfl
  have:=q G sG;rw[vG]at this;exact this
theorem je5(F:Fun K "look" "look" jc7 f fd)(nO:Fn P w K mg base 6 "first_untrue" ["claims","frame"] (spFirst K CF)):FnOk P w K mg base CX0 7 f fd ["f","kind","path","claims","frame"] (spLook K CF):=by
 have sc:FnScope ["f","kind","path","claims","frame","k"] ["f","kind","path","claims","frame"] (jn jc7):=fQ;refine F.okZ sc (fun az A outer s H vs Q E hr h=>?_);obtain⟨vf,vk,vp,vc,cs,Ad,Fm,n,rfl,hc,hD,hn,vF,q1,q2⟩:=h;refine⟨_,(jh (jF (i:=5) sc.nd rfl oQ (jQ nO hr (jd (zpv 3) (jd (zpv 4) jj))))
   (jh (j9 (jL Jx (zpv 5) kD (ju _)) (jt (j8 kD)) jX)
   (jt (j8 (jO (jd jJ (jd (zpv 0) (jd (zpv 1) (jd (zpv 2) (jd (zpv 5) jj)))))))))),?_⟩
 refine⟨_,rfl,_,rfl,vc,cs,Ad,Fm,n,rfl,hc,hD,hn,vF,fun G sG=>?_⟩
 cases hu:yC Fm.N Fm.L cs with
 | none=>
  refine⟨_,rfl,rfl,_,rfl,j7 (fun d=>?_) (fun d=>absurd (Qd (show jg9 none=V.non from rfl)) d)⟩;exact q1 hu G sG
 | some k=>
  refine⟨_,rfl,rfl,_,rfl,j7 (fun d=>?_) (fun d=>?_)⟩
  .have:=Qc d
   cases this
  .exact⟨_,rfl,_,rfl,_,rfl,_,rfl,sm rfl,fun t ht=>q2 k hu t _ (sG.trans (jb ht _)) ja⟩
theorem jdF(T:ClsF K CF)(F:Fun K "__init__" "Frame.__init__" qo f fd)(B:Free0 mg)(tF:mg "zip" = none):FnOk P w K mg base CX0 1 f fd ["self","proc","numbers","rows","called_by"] (spFrame K CF):=by
 have sc:FnScope ["self","proc","numbers","rows","called_by"] ["self","proc","numbers","rows","called_by"] (jn qo):=fQ;refine F.okZ sc (fun az A outer s H vs Q E hr h=>?_);obtain⟨fa,dx,pr,pt,rt,nl,rl,cb,p0,p1,p4,p5,p6,names,eM,nums,held,ao,n,rfl,fk,dr,iV,gK,nc,o6,A9,GK,sJ,HX,hl,sI,HW,aQ,q⟩:=h;have hrl0:=A9.len;refine⟨_,(jh (kZ (zpv 0) (zpv 1) rfl)
   (jh (kZ (zpv 0) (zpv 4) rfl)
   (jh (kZ (zpv 0) (Zj rfl (by rfl) B.dict_ jby (by rfl) tF jeg (jd (jC jq (zpv 1) jf (fun _ _=>rfl)) (jd (zpv 2) jj))) rfl)
   (jh (kZ (zpv 0) (Zj rfl (by rfl) B.dict_ jby (by rfl) tF jeg (jd (jC jq (zpv 1) jf (fun _ _=>rfl)) (jd (zpv 3) jj))) rfl)
   (jt (kZ (zpv 0) jf rfl)))))),?_⟩
 refine⟨_,rfl,_,rfl,fa,CF,dx,[],rfl,fk,T.c,T.n1,by show 0 < 1000;decide,?_⟩;refine⟨_,rfl,_,rfl,fa,CF,dx,_,rfl,ja,T.c,T.n2,by show 1 < 1000;decide,?_⟩;have k1:∀b o,b≠fa->H b=some o->upd (upd H fa (.ins CF dx (j3 "proc" (.ref pr) []))) fa (.ins CF dx (j3 "called_by" cb (j3 "proc" (.ref pr) []))) b=some o:=fun b o hb z=>by rw[jl hb,jl hb];exact z
 have c1:upd (upd H fa (.ins CF dx (j3 "proc" (.ref pr) []))) fa (.ins CF dx (j3 "called_by" cb (j3 "proc" (.ref pr) []))) fa=some (.ins CF dx (j3 "called_by" cb (j3 "proc" (.ref pr) []))):=ja;generalize upd (upd H fa (.ins CF dx (j3 "proc" (.ref pr) []))) fa (.ins CF dx (j3 "called_by" cb (j3 "proc" (.ref pr) [])))=H1 at *;have nf:∀{b o},H b=some o->(∀a b c,o≠.ins a b c)->b≠fa:=fun e n z=>by rw[z,fk]at e;cases e;exact n _ _ _ rfl
 have Bb:=k1 _ _ (nf dr (fun _ _ _ z=>by cases z)) dr;have Hw:=k1 _ _ (nf iV (fun _ _ _ z=>by cases z)) iV;have Hh:=k1 _ _ (nf gK (fun _ _ _ z=>by cases z)) gK;have HS:=k1 _ _ (nf nc (fun _ _ _ z=>by cases z)) nc;have Hl:=k1 _ _ (nf o6 (fun _ _ _ z=>by cases z)) o6;refine⟨_,rfl,pr,_,_,_,rfl,rfl,SqT.of Bb,rfl,_,rfl,pt,nl,names,nums.map V.int,rfl,SqT.of Hw,HS,by rw[am];exact sJ,HX,by omega,fun nm fi=>?_⟩;have s2:=jb fi (.dK (zKV names (nums.map V.int)));have e2:upd H1 nm (.dK (zKV names (nums.map V.int))) nm=some (.dK (zKV names (nums.map V.int))):=ja;generalize upd H1 nm (.dK (zKV names (nums.map V.int)))=H2 at *;have HR:H nm=none:=by
  rcases hh:H nm with _ | o
  .rfl
  .by_cases z:nm=fa
   .rw[z,c1]at fi;cases fi
   .rw[k1 nm o z hh]at fi;cases fi
 have uC:nm≠fa:=fun z=>by rw[z,c1]at fi;cases fi
 refine⟨_,rfl,fa,CF,dx,_,rfl,s2 _ _ c1,T.c,T.n3,by show 2 < 1000;decide,?_⟩;have k3:∀b o,b≠fa->H2 b=some o->upd H2 fa (.ins CF dx (j3 "numbers" (.ref nm) (j3 "called_by" cb (j3 "proc" (.ref pr) [])))) b=some o:=fun b o hb z=>by rw[jl hb];exact z
 have c3:upd H2 fa (.ins CF dx (j3 "numbers" (.ref nm) (j3 "called_by" cb (j3 "proc" (.ref pr) [])))) fa=some (.ins CF dx (j3 "numbers" (.ref nm) (j3 "called_by" cb (j3 "proc" (.ref pr) [])))):=ja;generalize upd H2 fa (.ins CF dx (j3 "numbers" (.ref nm) (j3 "called_by" cb (j3 "proc" (.ref pr) []))))=H3 at *;have Hy:=k3 _ _ (nf dr (fun _ _ _ z=>by cases z)) (s2 _ _ Bb);have Hg:=k3 _ _ (nf gK (fun _ _ _ z=>by cases z)) (s2 _ _ Hh);have Hk:=k3 _ _ (nf o6 (fun _ _ _ z=>by cases z)) (s2 _ _ Hl);have CD:=k3 _ _ uC e2;refine⟨_,rfl,pr,_,_,_,rfl,rfl,SqT.of Hy,rfl,_,rfl,rt,rl,eM,ao,rfl,SqT.of Hg,Hk,by omega,HW,by omega,fun rw bX=>?_⟩;have s4:=jb bX (.dK (zKV eM ao));have e4:upd H3 rw (.dK (zKV eM ao)) rw=some (.dK (zKV eM ao)):=ja;generalize upd H3 rw (.dK (zKV eM ao))=H4 at *;have Hf:H rw=none:=by
  rcases hh:H rw with _ | o
  .rfl
  .by_cases z:rw=fa
   .rw[z,c3]at bX;cases bX
   .rw[k3 rw o z (s2 _ _ (k1 rw o z hh))]at bX;cases bX
 have Ax:rw≠fa:=fun z=>by rw[z,c3]at bX;cases bX
 have iO:nm≠rw:=fun z=>by rw[<- z,CD]at bX;cases bX
 refine⟨_,rfl,fa,CF,dx,_,rfl,s4 _ _ c3,T.c,T.n4,by show 3 < 1000;decide,?_⟩;refine⟨_,rfl,fa,CF,dx,_,rfl,ja,T.c,T.n5,by show 4 < 1000;decide,?_⟩;rw[jci];have kk:∀b o,b≠fa->H b=some o->upd (upd H4 fa (.ins CF dx (j3 "rows" (.ref rw) (j3 "numbers" (.ref nm) (j3 "called_by" cb (j3 "proc" (.ref pr) [])))))) fa (.ins CF dx (JD pr cb nm rw 0)) b=some o:=fun b o hb z=>by
  rw[jl hb,jl hb];exact s4 _ _ (k3 b o hb (s2 _ _ (k1 b o hb z)))
 refine q nm rw _ kk HR Hf iO fun F hN hL hi=>?_
 refine⟨?_,?_,zKV eM ao,?_,?_⟩
 .rw[hi];exact ja
 .rw[hN,<- jet]
  show upd _ _ _ nm=_;rw[jl uC,jl uC];exact s4 _ _ CD
 .show upd _ _ _ rw=_
  rw[jl Ax,jl Ax];exact e4
 .rw[hL]
  refine jda (A9.tk ⟨fun b xs z=>kk b _ (nf z (fun _ _ _ y=>by cases y)) z,fun b o u z=>kk b _ (nf z (fun _ _ _ y=>by cases y)) z⟩) GK (by omega)
end
abbrev zZ:au:=top 38
abbrev sDo:au:=top 37
section
variable {P:av}
theorem K3(TC:ClsC K CC)(T:ClsF K CF)(F:Fun K "take_input" "take_input" zZ f fd)(B:Free0 mg):FnOk P w K mg base CX0 1 f fd ["course","frame","x"] (spTake K CC CF):=by
 have sc:FnScope ["course","frame","x"] ["course","frame","x"] (jn zZ):=fQ;refine F.okZ sc (fun az A outer s H vs Q E hr h=>?_);obtain⟨C,Ad,Fr,n,x,inp,tk,most,cu,rfl,er,cV,hD,hN,BR,oY,q1,q2⟩:=h;have hu:=qO hr;refine⟨_,(jh (j9 (jL j5 (jZ (zpv 0) rfl) (yG kl (by rfl) B.len_ zi (jd (jZ (zpv 0) rfl) jj)) (ju _)) (jt (j8 (jO (jd jJ jj)))) jX)
   (jh (qX hu (jZ (zpv 1) rfl) (zpv 2) (jC jG (jZ (zpv 0) rfl) (jZ (zpv 0) rfl) (fun _ _=>rfl)) rfl)
   (jh (yF (zpv 0) jf jaP)
   (jt (j8 kD))))),?_⟩
 refine⟨_,rfl,C.co,CC,C.dc,_,_,rfl,er,TC.c,TC.n4,rfl,_,rfl,C.co,CC,C.dc,_,_,rfl,er,TC.c,TC.n3,rfl,C.il,_,rfl,.inl (SqL.of cV),rfl,_,rfl,j7 (fun d=>?_) (fun d=>?_)⟩
 .have d':tk=inp.length:=by
   have:=Qc d;injection this with this;rw[am]at this;omega
  refine⟨sm rfl,fun t ht=>q1 (xX (by omega)) t _ (jb ht _) ja⟩
 .have d':tk < inp.length:=by
   rcases eJ tk inp.length with g | g
   .exact g
   .exact absurd (Qd (by rw[am,show tk=inp.length by omega])) d
  have gN:atI (inp.map V.int) (tk:Int)=some (.int inp[tk]):=qG (by rw[bA,aC d'];rfl);refine⟨_,rfl,C.co,CC,C.dc,_,_,rfl,er,TC.c,TC.n3,rfl,_,rfl,C.co,CC,C.dc,_,_,rfl,er,TC.c,TC.n4,rfl,C.il,_,_,_,rfl,rfl,SqL.of cV,gN,?_⟩;refine⟨_,rfl,Ad.fa,CF,Ad.dx,_,_,rfl,hD.fa,T.c,T.n3,rfl,_,rfl,Ad.nm,_,rfl,DPut.k (k:=Sum.inr x) hD.nm (jw (by unfold nKV;rw[am];omega)),?_⟩;rw[JZ];have bp:C.co≠Ad.nm:=j6 er hD.nm (by intro z;cases z);have BO:upd H Ad.nm (.dK (nKV (kM Fr.N x inp[tk]))) C.co=some (.ins CC C.dc (qB C.d1 C.d2 (.ref C.il) tk most cu C.fl)):=by rw[jl bp];exact er
  refine⟨_,rfl,C.co,CC,C.dc,_,_,rfl,BO,TC.c,TC.n4,rfl,_,_,rfl,rfl,_,_,BO,by show 7 < 1000;decide,?_⟩;rw[show ((tk:Int)+1)=((tk+1:Nat):Int) by omega,jav];refine q2 inp[tk] (aC d') _ (fun b o b1 b2 e=>by rw[jl b2,jl b1];exact e) ?_ ja;rw[jl (aO bp),ja]
theorem jhb(TC:ClsC K CC)(T:ClsF K CF)(F:Fun K "do" "do" sDo f fd)(nK:Fn P w K mg base 7 "look" ["f","kind","path","claims","frame"] (spLook K CF))(ww:Fn P w K mg base 1 "take_input" ["course","frame","x"] (spTake K CC CF))(mj:Fn P w K mg base 3 "term_at" ["term","numbers","rows"] (spTerm_at K))(wu:Fn P w K mg base 3 "written" ["row","p","v"] (spWritten K))(eB:Fn P w K mg base 2 "place_at" ["place","numbers"] spPlace_at):FnOk P w K mg base CX0 9 f fd ["course","frame","statement","path"] (spDo K CC CF):=by
 have sc:FnScope ["course","frame","statement","path","kind","a","c","value","r","place"] ["course","frame","statement","path"] (jn sDo):=fQ;refine F.okZ sc (fun az A outer s H vs Q E hr h=>?_);obtain⟨C,Ad,Fr,n,st,d,inp,p1,vp,tk,most,cu,rfl,hA,q⟩:=h;have hu:=qO hr;obtain⟨ao,bX,gk⟩:=hA.fr.rw;obtain⟨p0,p2,p3,p4,p5,p6,dr⟩:=hA.pr;refine⟨_,(jh (jF (i:=4) sc.nd rfl oQ (jC jq (zpv 2) jf (fun _ _=>rfl)))
   (jh (j9 (jL j5 (zpv 4) jJ (ju _)) (jt (j8 yq)) jX)
   (jh (j9 (jL j5 (zpv 4) jJ (ju _)) (jt (j8 (jQ nK hr (jd (jC jq (jZ (zpv 1) rfl) jf (fun _ _=>rfl)) (jd jJ (jd (zpv 3) (jd (qz zn (zpv 2) (kQ jf) Zh) (jd (zpv 1) jj)))))))) jX)
   (jh (j9 (jL j5 (zpv 4) jJ (ju _)) (jt (j8 (jQ ww hr (jd (zpv 0) (jd (zpv 1) (jd (jC jq (zpv 2) jf (fun _ _=>rfl)) jj)))))) jX)
   (jh (JU (qz zn (zpv 2) (kQ (J5 J9 jf)) Zh) (zG rfl (kn (ke (i:=5) sc.nd rfl oQ) (kn (ke (i:=6) sc.nd rfl oQ) qY))))
   (jh (jF (i:=7) sc.nd rfl oQ (jK jU (jQ mj hr (jd (zpv 5) (jd (jZ (zpv 1) rfl) (jd (jZ (zpv 1) rfl) jj)))) (zpv 6)))
   (jh (j9 (jL j5 (zpv 4) jJ (ju _)) (jt (qX hu (jZ (zpv 1) rfl) (jC jq (zpv 2) jf (fun _ _=>rfl)) (zpv 7) rfl)) (jh (JU (qz zn (zpv 2) (kQ jf) (kQ jf)) (zG rfl (kn (ke (i:=8) sc.nd rfl oQ) (kn (ke (i:=9) sc.nd rfl oQ) qY))))
   (jt (qX hu (jZ (zpv 1) rfl) (zpv 8) (jQ wu hr (jd (qk hu (jZ (zpv 1) rfl) (zpv 8) (fun _ _=>rfl)) (jd (jQ eB hr (jd (zpv 9) (jd (jZ (zpv 1) rfl) jj))) (jd (zpv 7) jj)))) rfl))))
   (jt (j8 kD))))))))),?_⟩
 refine zU (σ':=[some (.ref C.co),some (.ref Ad.fa),some (.ref st),some vp,none,none,none,none,none,none]) rfl ?_
 cases d with
 | set x t c=>
  obtain⟨bH,u,cj,bv,lM⟩:=jbb hA.st
  cases cj
  refine⟨_,rfl,st,_,_,_,rfl,rfl,SqT.of bv,rfl,?_⟩;refine gQ ?_;refine⟨_,rfl,rfl,_,rfl,j7 (fun d=>absurd (Qc d) (by decide)) (fun _=>?_)⟩;refine⟨_,rfl,rfl,_,rfl,j7 (fun d=>absurd (Qc d) (by decide)) (fun _=>?_)⟩;refine⟨_,rfl,rfl,_,rfl,j7 (fun d=>absurd (Qc d) (by decide)) (fun _=>?_)⟩;refine⟨_,rfl,_,rfl,_,rfl,st,_,rfl,SqT.of bv,(fun h=>absurd h.1 (by show ¬(HT.sIx 4 0 (some (-2))=0);decide)),fun t1 cL=>?_⟩;rw[show kN [V.str "set",V.str x,u,V.int c] (some (-2)) none=[u,V.int c] from rfl];have s1:=jb cL (.tup [u,V.int c]);have e1:upd H t1 (.tup [u,V.int c]) t1=some (.tup [u,V.int c]):=ja;generalize upd H t1 (.tup [u,V.int c])=H1 at *;refine⟨t1,_,rfl,SqT.of e1,rfl,_,_,rfl,?_⟩;refine gQ ?_;refine⟨_,_,rfl,?_⟩;refine gQ ?_;refine⟨rfl,?_⟩;have eA:=hA.fr.same s1;refine⟨_,rfl,_,rfl,Ad.fa,CF,Ad.dx,_,_,rfl,eA.fa,T.c,T.n3,rfl,_,rfl,Ad.fa,CF,Ad.dx,_,_,rfl,eA.fa,T.c,T.n4,rfl,u,t,Ad.nm,Ad.rw,n,Fr.N,ao,Fr.L,rfl,lM.mono s1,eA.nm,s1 _ _ bX,gk.tk (TKF.same s1),by have:=hA.hn;omega,_,rfl,_,_,rfl,rfl,?_⟩;refine gQ ?_;refine⟨_,rfl,rfl,_,rfl,j7 (fun _=>?_) (fun d=>absurd (Qd rfl) d)⟩;refine⟨_,rfl,_,rfl,Ad.fa,CF,Ad.dx,_,_,rfl,eA.fa,T.c,T.n3,rfl,_,rfl,st,_,_,_,rfl,rfl,SqT.of (s1 _ _ bv),rfl,Ad.nm,_,rfl,DPut.k (k:=Sum.inr x) eA.nm (jw (by unfold nKV;rw[am];have:=hA.N;omega)),?_⟩;rw[JZ];exact q _ (fun b o hb e=>by rw[jl hb];exact s1 _ _ e) ja
 | put r x d t c=>
  obtain⟨bH,b,u,cj,bv,hb,lM⟩:=jbg hA.st
  cases cj
  obtain⟨da,q⟩:=q;rcases gk.val r with⟨_,bN⟩ | ⟨v,qr,dq,dm,h_,m5⟩
  .rw[bN]at da;cases da
  have Mg:jR Fr.L r=qr:=by unfold jR;rw[dm];rfl
  obtain⟨R,g1,g2,g3,g5⟩:=h_;refine⟨_,rfl,st,_,_,_,rfl,rfl,SqT.of bv,rfl,?_⟩;refine gQ ?_;refine⟨_,rfl,rfl,_,rfl,j7 (fun d=>absurd (Qc d) (by decide)) (fun _=>?_)⟩;refine⟨_,rfl,rfl,_,rfl,j7 (fun d=>absurd (Qc d) (by decide)) (fun _=>?_)⟩;refine⟨_,rfl,rfl,_,rfl,j7 (fun d=>absurd (Qc d) (by decide)) (fun _=>?_)⟩;refine⟨_,rfl,_,rfl,_,rfl,st,_,rfl,SqT.of bv,(fun h=>absurd h.1 (by show ¬(HT.sIx 5 0 (some (-2))=0);decide)),fun t1 cL=>?_⟩;rw[show kN [V.str "put",V.str r,V.ref b,u,V.int c] (some (-2)) none=[u,V.int c] from rfl];have s1:=jb cL (.tup [u,V.int c]);have e1:upd H t1 (.tup [u,V.int c]) t1=some (.tup [u,V.int c]):=ja;generalize upd H t1 (.tup [u,V.int c])=H1 at *;refine⟨t1,_,rfl,SqT.of e1,rfl,_,_,rfl,?_⟩;refine gQ ?_;refine⟨_,_,rfl,?_⟩;refine gQ ?_;refine⟨rfl,?_⟩;have eA:=hA.fr.same s1;refine⟨_,rfl,_,rfl,Ad.fa,CF,Ad.dx,_,_,rfl,eA.fa,T.c,T.n3,rfl,_,rfl,Ad.fa,CF,Ad.dx,_,_,rfl,eA.fa,T.c,T.n4,rfl,u,t,Ad.nm,Ad.rw,n,Fr.N,ao,Fr.L,rfl,lM.mono s1,eA.nm,s1 _ _ bX,gk.tk (TKF.same s1),by have:=hA.hn;omega,_,rfl,_,_,rfl,rfl,?_⟩;refine gQ ?_;refine⟨_,rfl,rfl,_,rfl,j7 (fun d=>absurd (Qc d) (by decide)) (fun _=>?_)⟩;refine⟨_,rfl,_,rfl,_,rfl,st,_,rfl,SqT.of (s1 _ _ bv),(fun h=>absurd h.1 (by show ¬(HT.sIx 5 0 (some 1)=0);decide)),fun t2 ie=>?_⟩;rw[show kN [V.str "put",V.str r,V.ref b,u,V.int c] (some 1) (some 3)=[V.str r,V.ref b] from rfl];have s2:=jb ie (.tup [V.str r,V.ref b]);have e2:upd H1 t2 (.tup [V.str r,V.ref b]) t2=some (.tup [V.str r,V.ref b]):=ja;generalize upd H1 t2 (.tup [V.str r,V.ref b])=H2 at *;refine⟨t2,_,rfl,SqT.of e2,rfl,_,_,rfl,?_⟩;refine gQ ?_;refine⟨_,_,rfl,?_⟩;refine gQ ?_;refine⟨rfl,?_⟩;have bc:=s1.trans s2;have nB:=hA.fr.same bc;have m7:=bc _ _ bX;have iq:DGet H2 Ad.rw (kV (Sum.inr r)) (some v):=by
   have h:=DGet.k (k:=Sum.inr r) m7;rw[dq]at h;exact h
  refine⟨_,rfl,Ad.fa,CF,Ad.dx,_,_,rfl,nB.fa,T.c,T.n4,rfl,_,rfl,Ad.rw,v,rfl,iq,_,rfl,_,rfl,Ad.fa,CF,Ad.dx,_,_,rfl,nB.fa,T.c,T.n3,rfl,b,x,d,Ad.nm,Fr.N,rfl,bc _ _ hb,nB.nm,_,rfl,?_⟩;have hn:=hA.hn;refine⟨v,kr Fr.N x+d,t.val Fr.N Fr.L+c,qr.1,R,rfl,g1.mono bc,g2.up,by omega,fun R' v' H3 s3 c1 c2 c3 c4=>?_⟩;have aS:=bc.trans s3;have v0:=hA.fr.same aS;have sx:=aS _ _ bX;have hrvl:=gk.len;have hrvL:=hA.L;refine⟨_,rfl,Ad.fa,CF,Ad.dx,_,_,rfl,v0.fa,T.c,T.n4,rfl,_,rfl,Ad.rw,_,rfl,DPut.k (k:=Sum.inr r) sx (jw (by omega)),?_⟩;have t4:TKF H3 (upd H3 Ad.rw (.dK (kW ao (Sum.inr r) v'))):=TKF.updD sx;refine q _ (fun b o hb e=>by rw[jl hb];exact aS _ _ e) ⟨_,ja,?_⟩;rw[Mg];refine RV.put (((gk.tk (TKF.same aS)).tk t4).up (dX _)) ?_ ?_
  .refine RowIs.tk t4 ⟨R',yc c4,c1,?_,fun z=>?_⟩
   .show R'.length<=40+2 * (qr.2.2++[(kr Fr.N x+d,t.val Fr.N Fr.L+c)]).length
    rw[aP];show R'.length<=40+2 * (qr.2.2.length+1);omega
   .show jz qr.1 R' z=_
    rw[c2,g5,yO]
  .show (qr.2.2++[(kr Fr.N x+d,t.val Fr.N Fr.L+c)]).length<=n+1
   rw[aP];show qr.2.2.length+1<=n+1;omega
 | any x=>
  obtain⟨bH,xs,cj,bv,h1⟩:=jD hA.st
  cases cj
  obtain⟨v1,r1,rfl,e1,h2⟩:=jg h1;obtain⟨v2,r2,rfl,e2,h3⟩:=jg h2
  cases jP h3
  cases jE e1
  cases jE e2
  refine⟨_,rfl,st,_,_,_,rfl,rfl,SqT.of bv,rfl,?_⟩;refine gQ ?_;refine⟨_,rfl,rfl,_,rfl,j7 (fun d=>absurd (Qc d) (by decide)) (fun _=>?_)⟩;refine⟨_,rfl,rfl,_,rfl,j7 (fun d=>absurd (Qc d) (by decide)) (fun _=>?_)⟩;refine⟨_,rfl,rfl,_,rfl,j7 (fun _=>?_) (fun d=>absurd (Qd rfl) d)⟩;refine⟨_,rfl,_,rfl,_,rfl,st,_,_,_,rfl,rfl,SqT.of bv,rfl,C,Ad,Fr,n,x,inp,tk,most,cu,rfl,hA.co,hA.il,hA.fr,hA.N,hA.cf,hA.tk,fun h t H' s e=>q.1 h t H' s e,fun v hv H' k1 k2 k3=>q.2 v hv H' k1 k2 k3⟩
 | claim D=>
  obtain⟨bH,xs,cj,bv,h1⟩:=jD hA.st
  cases cj
  obtain⟨v1,r1,rfl,e1,h2⟩:=jg h1;obtain⟨v2,r2,rfl,e2,h3⟩:=jg h2
  cases jP h3
  cases jE e1
  refine⟨_,rfl,st,_,_,_,rfl,rfl,SqT.of bv,rfl,?_⟩;refine gQ ?_;refine⟨_,rfl,rfl,_,rfl,j7 (fun d=>absurd (Qc d) (by decide)) (fun _=>?_)⟩;refine⟨_,rfl,rfl,_,rfl,j7 (fun _=>?_) (fun d=>absurd (Qd rfl) d)⟩;refine⟨_,rfl,Ad.fa,CF,Ad.dx,_,_,rfl,hA.fr.fa,T.c,T.n1,rfl,Ad.pra,_,_,_,rfl,rfl,SqT.of dr,rfl,_,rfl,_,rfl,_,rfl,st,_,rfl,SqT.of bv,(fun h=>absurd h.1 (by show ¬(HT.sIx 2 0 (some 1)=0);decide)),fun t1 cL=>?_⟩;rw[show kN [V.str "claim",v2] (some 1) none=[v2] from rfl];have s1:=jb cL (.tup [v2]);have gp:upd H t1 (.tup [v2]) t1=some (.tup [v2]):=ja;generalize upd H t1 (.tup [v2])=H1 at *;refine⟨_,rfl,p1,.str "claim",vp,.ref t1,[D],Ad,Fr,n,rfl,jv gp (jc (e2.mono s1) jp),hA.fr.same s1,by have:=hA.hn;omega,fun _=>q.1,fun h H' s=>q.2.1 h H' (s1.trans s),fun k h t H' s e=>q.2.2 k h t H' (s1.trans s) e⟩
end
abbrev zK:au:=top 34
abbrev Kj:au:=top 31
section
variable {P:av}
theorem YX(TC:ClsC K CC)(T:ClsF K CF)(F:Fun K "come_back" "come_back" zK f fd)(nK:Fn P w K mg base 7 "look" ["f","kind","path","claims","frame"] (spLook K CF))(fC:Fn P w K mg base 1 "number_at" ["x","numbers"] spNumber_at):FnOk P w K mg base CX0 8 f fd ["course"] (spBack K CC CF):=by
 have sc:FnScope ["course","frame","f","rows","gives","end","out","held"] ["course"] (jn zK):=fQ;refine F.okZ sc (fun az A outer s H vs Q E hr h=>?_);obtain⟨Hs,C,Ad,Pp,inp,most,Fr,rfl,hS,hC,bN,q⟩:=h;have hu:=qO hr;have hF:=hC.fr;obtain⟨pra,pt,rt,v4,v5,vb,pU,dr,iV,gK,m5,oX,oV⟩:=yd hS.pr;have pT:pra=Ad.pra:=by cases pU;rfl
 subst pT;obtain⟨ao,bX,gk⟩:=hF.rw;have hi40:Fr.i<=100:=by have:=hC.i;have:=hS.sz;omega
 have fj:H C.fl=some (.lst ([]++[.ref Ad.fa])):=hC.fl;unfold mst at q;rw[bN]at q;dsimp only[jfx]at q;refine⟨_,(jh (jF (i:=1) sc.nd rfl oQ (jC jG (jZ (zpv 0) rfl) (J5 J9 jf) (fun _ _=>rfl)))
   (jh (jcD (i:=2) (j:=3) (l:=4) rfl sc.nd rfl rfl rfl (by decide) (by decide) (by decide) oQ oQ oQ (jd (jC jq (jZ (zpv 1) rfl) jf (fun _ _=>rfl)) (jd (jC jq (jZ (zpv 1) rfl) jf (fun _ _=>rfl)) (jd (jC jq (jZ (zpv 1) rfl) jf (fun _ _=>rfl)) jj))) (by rfl) oQ oQ oQ)
   (jh (jF (i:=5) sc.nd rfl oQ (jQ nK hr (jd (zpv 2) (jd jJ (jd (jO jj) (jd (zpv 4) (jd (zpv 1) jj)))))))
   (jh (j9 (jL jbi (zpv 5) kD (ju _)) (jt (j8 (zpv 5))) jX)
   (jh (jF (i:=6) sc.nd rfl oQ (jQ fC hr (jd jJ (jd (jZ (zpv 1) rfl) jj))))
   (jh (JG (i:=7) sc.nd rfl oQ ["r"] [1] rfl (kz (sc:=jn zK) (N:=["course","frame","f","rows","gives","end","out","held"]) rfl rfl (by decide +kernel)) (YD (zpv 3)) (fun s H ex=>⟨(ke (i:=0) (show bG (["r","frame"]:List Str) by decide +kernel) rfl oQ),zX,(qk hu (jcH (K:=K) (zpv 1) rfl) (zpv 0) (fun _ _=>rfl))⟩))
   (jh (j9 (jL Jx (jZ (zpv 1) rfl) kD (ju _)) (jt (j8 (jO (jd jJ (jd (zpv 6) (jd (zpv 7) jj)))))) jX)
   (jh (qb (jes eU PySem.F.slot_list_pop PySem.F.type_list_pop jgs (jZ (zpv 0) rfl)))
   (jh jbD
   (jt (j8 kD))))))))))),?_⟩
 refine zU (σ':=[some (.ref C.co),none,none,none,none,none,none,none]) rfl ?_;refine⟨_,rfl,C.co,CC,C.dc,_,_,rfl,hC.co,TC.c,TC.n7,rfl,_,rfl,C.fl,_,_,_,rfl,rfl,SqL.of fj,jae _ _,?_⟩;refine gQ ?_;have m9:=hC.sub _ _ dr;refine⟨_,rfl,Ad.fa,CF,Ad.dx,_,_,rfl,hF.fa,T.c,T.n1,rfl,Ad.pra,_,_,_,rfl,rfl,SqT.of m9,rfl,_,rfl,Ad.fa,CF,Ad.dx,_,_,rfl,hF.fa,T.c,T.n1,rfl,Ad.pra,_,_,_,rfl,rfl,SqT.of m9,rfl,_,rfl,Ad.fa,CF,Ad.dx,_,_,rfl,hF.fa,T.c,T.n1,rfl,Ad.pra,_,_,_,rfl,rfl,SqT.of m9,rfl,_,_,_,rfl,?_⟩;refine zU (σ':=[some (.ref C.co),some (.ref Ad.fa),some (.str Pp.f),some (.ref rt),some v5,none,none,none]) rfl ?_;refine⟨_,rfl,sm rfl,fun e he=>?_⟩;have s1:=jb he (.tup []);have e1:upd H e (.tup []) e=some (.tup []):=ja;generalize upd H e (.tup [])=H1 at *;refine⟨_,rfl,_,rfl,.str Pp.f,.str "give",.ref e,v5,[],Ad,Fr,Fr.i,rfl,(oX.mono hC.sub).mono s1,hF.same s1,by omega,fun z=>absurd rfl z,fun _ H2 s2=>?_,fun k GR=>by cases (show none=some k from GR)⟩
 .refine gQ ?_
  refine⟨_,rfl,rfl,_,rfl,j7 (fun d=>absurd d (by show ¬((!decide (V.non=V.non))=true);simp)) (fun _=>?_)⟩;have bc:=s1.trans s2;have nB:=hF.same bc;have BC:=hC.has
  .skip
   refine⟨_,rfl,Ad.fa,CF,Ad.dx,_,_,rfl,nB.fa,T.c,T.n3,rfl,"out",Ad.nm,Fr.N,rfl,nB.nm,?_⟩;refine gQ ?_;have A7:=bc _ _ (hC.sub _ _ gK);refine⟨_,rfl,rt,rfl,⟨_,SqT.of A7⟩,fun hl nq=>?_⟩;have lrs:Pp.rs.length<=900:=(by have:=hS.rs;omega)
   refine zC (xs:=Pp.rs.map V.str) (fun j σ' G=>∃u vs,σ'=[u,some (.ref Ad.fa)]/\Same H2 G/\G hl=some (.lst vs)/\RowsAt K G ((Pp.rs.take j).map (jR Fr.L)) vs/\vs.length=j) ⟨none,[],rfl,jb nq _,ja,trivial,rfl⟩ ?_ ?_ ?_
   .rintro j σ' G _ ⟨u,vs,rfl,sG,_⟩
    exact SqT.of (sG _ _ A7)
   .rintro j x σ' G hx ⟨u,vs,rfl,sG,hG,hR,fb⟩
    have hj:j < Pp.rs.length:=by
     have:=(aV.mp hx).1;rw[am]at this;exact this
    rw[bA,aC hj]at hx
    cases hx
    unfold kU yH;refine kL ?_;have lE:=bc.trans sG;have LS:=hF.same lE;have da:(lkA Fr.L Pp.rs[j]).isSome=true:=by
     unfold qU at BC;exact lA.mp BC _ (eW hj)
    rcases gk.val Pp.rs[j] with⟨_,bN⟩ | ⟨v,q',dq,dm,h_,hv4'⟩
    .rw[bN]at da;cases da
    have iq:DGet G Ad.rw (kV (Sum.inr Pp.rs[j])) (some v):=by
     have h:=DGet.k (k:=Sum.inr Pp.rs[j]) (lE _ _ bX);rw[dq]at h;exact h
    refine⟨_,rfl,Ad.fa,CF,Ad.dx,_,_,rfl,LS.fa,T.c,T.n4,rfl,_,rfl,Ad.rw,v,rfl,iq,?_⟩;have tk:TKF G (upd G hl (.lst (vs++[v]))):=TKF.updL hG;refine⟨_,hG,jw (by omega),_,vs++[v],rfl,fun b o e=>?_,ja,?_,by rw[aP,fb];rfl⟩
    .rw[jl (jo e nq)];exact sG _ _ e
    .rw[cq,aC hj,aX]
     have eq:jR Fr.L Pp.rs[j]=q':=by unfold jR;rw[dm];rfl
     show RowsAt K _ ((Pp.rs.take j).map (jR Fr.L)++[jR Fr.L Pp.rs[j]]) (vs++[v]);rw[eq];exact (hR.tk tk).snoc ((h_.tk (TKF.same lE)).tk tk)
   rintro σ' H3 ⟨u3,vs,rfl,s3,fW,B_,fb⟩;rw[am,ce]at B_;rw[am]at fb;refine gQ ?_;have aS:=bc.trans s3;have v0:=hF.same aS;refine⟨_,rfl,Ad.fa,CF,Ad.dx,_,_,rfl,v0.fa,T.c,T.n2,rfl,rfl,_,rfl,?_⟩;refine j7 (fun _=>?_) (fun d=>absurd (Qd hC.cb) d);refine⟨_,rfl,_,rfl,sm rfl,fun t ht=>?_⟩;have g:=jb ht (.tup [V.str "done",V.int (kr Fr.N "out"),V.ref hl]);exact q (.ref t) _ Fr.tk (hC.sub.trans (aS.trans g)) ((aS.trans g) _ _ hC.co) ⟨t,hl,vs,rfl,ja,g _ _ fW,B_.tk (TKF.same g)⟩
theorem jaE(B:Free0 mg)(TC:ClsC K CC)(T:ClsF K CF)(F:Fun K "gone_on" "gone_on" Kj f fd)(wO:Fn P w K mg base 8 "come_back" ["course"] (spBack K CC CF))(wM:Fn P w K mg base 9 "do" ["course","frame","statement","path"] (spDo K CC CF)):FnOk P w K mg base CX0 10 f fd ["course"] (spGo K CC CF):=by
 have sc:FnScope ["course","frame","steps","step"] ["course"] (jn Kj):=fQ;refine F.okZ sc (fun az A outer s H vs Q E hr h=>?_);obtain⟨Hs,C,Ad,Pp,inp,most,Fr,rfl,hS,hC,hok,q⟩:=h;have hu:=qO hr;have hF:=hC.fr;obtain⟨pra,pt,rt,v4,v5,vb,pU,dr,iV,gK,m5,oX,oV⟩:=yd hS.pr;have pT:pra=Ad.pra:=by cases pU;rfl
 subst pT;have fj:H C.fl=some (.lst ([]++[.ref Ad.fa])):=hC.fl;obtain⟨lI,sl,ss,cG,oW,fT,A0⟩:=hS.d2;have G_:=A0.length;rw[Jn]at G_;have A6:=hC.sub _ _ fT;have m9:=hC.sub _ _ dr;have hix:=hC.i;have hsz:=hS.sz;have hbN:=hC.N;have pF:=hC.L;have nd:=hC.nd;simp only[gz,bg,t_,or_false,not_or]at nd;have sg:C.co≠Ad.fa:=nd.1.2.1;have iO:Ad.nm≠Ad.rw:=nd.2.2.2.1;have AH:C.co≠Ad.nm:=nd.1.2.2.1;have uF:C.co≠Ad.rw:=nd.1.2.2.2;have uD:Ad.fa≠Ad.nm:=nd.2.2.1.1;have AF:Ad.fa≠Ad.rw:=nd.2.2.1.2;obtain⟨ao,bX,gk⟩:=hF.rw;refine⟨_,(jh (jF (i:=1) sc.nd rfl oQ (jC jG (jZ (zpv 0) rfl) (J5 J9 jf) (fun _ _=>rfl)))
   (jh (jF (i:=2) sc.nd rfl oQ (qk hu (jZ (zpv 0) rfl) (jC jq (jZ (zpv 1) rfl) jf (fun _ _=>rfl)) (fun _ _=>rfl)))
   (jh (j9 (jL j5 (jZ (zpv 1) rfl) (yG kl (by rfl) B.len_ zi (jd (zpv 2) jj)) (ju _)) (jt (j8 (jQ wO hr (jd (zpv 0) jj)))) jX)
   (jh (jF (i:=3) sc.nd rfl oQ (jC jG (zpv 2) (jZ (zpv 1) rfl) (fun _ _=>rfl)))
   (jh (j9 (jL j5 (jC jq (zpv 3) jf (fun _ _=>rfl)) jJ (ju _)) (jh (kZ (zpv 1) (jC jq (zpv 3) jf (fun _ _=>rfl)) rfl)
   (jt (j8 kD))) jX)
   (jh (j9 (jL j5 (jZ (zpv 0) rfl) (jZ (zpv 0) rfl) (ju _)) (jt (j8 (jO (jd jJ jj)))) jX)
   (jh (yF (zpv 0) jf jaP)
   (jh (j9 (jL j5 (jC jq (zpv 3) jf (fun _ _=>rfl)) jJ (ju _)) (jt (j8 yq)) jX)
   (jh (yF (zpv 1) jf jaP)
   (jh (j9 (jL j5 (jC jq (zpv 3) jf (fun _ _=>rfl)) jJ (ju _)) (jt (j8 (jQ wM hr (jd (zpv 0) (jd (zpv 1) (jd (jC jq (zpv 3) jf (fun _ _=>rfl)) (jd (jC jq (zpv 3) jf (fun _ _=>rfl)) jj))))))) jX)
   (jt (j8 kD)))))))))))),?_⟩
 refine zU (σ':=[some (.ref C.co),none,none,none]) rfl ?_;refine⟨_,rfl,C.co,CC,C.dc,_,_,rfl,hC.co,TC.c,TC.n7,rfl,_,rfl,C.fl,_,_,_,rfl,rfl,SqL.of fj,jae _ _,?_⟩;refine gQ ?_;have hg:DGet H C.d2 (kV (Sum.inr Pp.f)) (some (.ref sl)):=by
  have h:=DGet.k (k:=Sum.inr Pp.f) (hC.sub _ _ cG);rw[oW]at h;exact h
 refine⟨_,rfl,C.co,CC,C.dc,_,_,rfl,hC.co,TC.c,TC.n2,rfl,_,rfl,Ad.fa,CF,Ad.dx,_,_,rfl,hF.fa,T.c,T.n1,rfl,Ad.pra,_,_,_,rfl,rfl,SqT.of m9,rfl,C.d2,.ref sl,rfl,hg,?_⟩;refine gQ ?_;refine⟨_,rfl,Ad.fa,CF,Ad.dx,_,_,rfl,hF.fa,T.c,T.n5,rfl,_,rfl,sl,_,rfl,.inl (SqL.of A6),rfl,_,rfl,j7 (fun d=>?_) (fun d=>?_)⟩
 .have he:Fr.i=Pp.ds.length:=by
   have:=Qc d;injection this with this;omega
  exact⟨_,rfl,Hs,C,Ad,Pp,inp,most,Fr,rfl,hS,hC,xX (by omega),q⟩
 have aG:Fr.i < Pp.ds.length:=by
  rcases eJ Fr.i Pp.ds.length with g | g
  .exact g
  .exfalso
   apply d;apply Qd;rw[show Fr.i=ss.length by omega]
 have iS:Pp.ds[Fr.i]?=some Pp.ds[Fr.i]:=aC aG;obtain⟨v,hv,AU⟩:=A0.get (Yf (n:=0) iS);rw[tZ]at AU;refine⟨_,rfl,_,rfl,Ad.fa,CF,Ad.dx,_,_,rfl,hF.fa,T.c,T.n5,rfl,sl,_,_,_,rfl,rfl,SqL.of A6,qG hv,?_⟩;refine gQ ?_;have u9:=hok _ iS;generalize Pp.ds[Fr.i]=dd at *;unfold mst at q;rw[iS]at q;dsimp only at q;obtain⟨st,eX,vp,rfl,Me,I_,HD⟩:=jfr AU;have cj:=hC.sub _ _ Me;have hd:=I_.mono hC.sub;have HF:=HD.mono hC.sub;refine⟨_,rfl,st,_,_,_,rfl,rfl,SqT.of cj,rfl,rfl,_,rfl,j7 (fun d=>absurd (Qc d) (by decide)) (fun _=>?_)⟩;refine⟨_,rfl,C.co,CC,C.dc,_,_,rfl,hC.co,TC.c,TC.n6,rfl,_,rfl,C.co,CC,C.dc,_,_,rfl,hC.co,TC.c,TC.n5,rfl,rfl,_,rfl,j7 (fun d=>?_) (fun d=>?_)⟩
 .have d':(Fr.i:Int)=most:=by have:=Qc d;injection this
  rw[Qg d']at q;dsimp only[jfx]at q;refine⟨sm rfl,fun t ht=>q (.ref t) _ Fr.tk (hC.sub.trans (jb ht _)) ((jb ht _) _ _ hC.co) ⟨t,rfl,ja⟩⟩
 have d':¬(Fr.i:Int)=most:=fun z=>d (Qd (Qi V.int z))
 rw[Qf d']at q;refine⟨_,rfl,C.co,CC,C.dc,_,_,rfl,hC.co,TC.c,TC.n6,rfl,_,_,rfl,rfl,_,_,hC.co,by show 7 < 1000;decide,?_⟩;rw[show ((Fr.i:Int)+1)=((Fr.i+1:Nat):Int) by omega,jbO];have t1:TKF H (upd H C.co (.ins CC C.dc (qB C.d1 C.d2 (.ref C.il) Fr.tk most (Fr.i+1) C.fl))):=TKF.upd hC.co (fun _ z=>by cases z) fun _ _ z=>by cases z
 have k1:∀b o,b≠C.co->H b=some o->upd H C.co (.ins CC C.dc (qB C.d1 C.d2 (.ref C.il) Fr.tk most (Fr.i+1) C.fl)) b=some o:=fun b o hb e=>by rw[jl hb];exact e
 have c1:upd H C.co (.ins CC C.dc (qB C.d1 C.d2 (.ref C.il) Fr.tk most (Fr.i+1) C.fl)) C.co=some (.ins CC C.dc (qB C.d1 C.d2 (.ref C.il) Fr.tk most (Fr.i+1) C.fl)):=ja;generalize upd H C.co (.ins CC C.dc (qB C.d1 C.d2 (.ref C.il) Fr.tk most (Fr.i+1) C.fl))=H1 at *;have sT:=k1 _ _ (aO sg) hF.fa;refine⟨_,rfl,st,_,_,_,rfl,rfl,SqT.of (t1.1 _ _ cj),rfl,rfl,_,rfl,j7 (fun d=>absurd (Qc d) (by decide)) (fun _=>?_)⟩;refine⟨_,rfl,Ad.fa,CF,Ad.dx,_,_,rfl,sT,T.c,T.n5,rfl,_,_,rfl,rfl,_,_,sT,by show 5 < 1000;decide,?_⟩;rw[show ((Fr.i:Int)+1)=((Fr.i+1:Nat):Int) by omega,jeH];have t2:TKF H1 (upd H1 Ad.fa (.ins CF Ad.dx (JD Ad.pra Ad.cbv Ad.nm Ad.rw (Fr.i+1)))):=TKF.upd sT (fun _ z=>by cases z) fun _ _ z=>by cases z
 have k2:∀b o,b≠C.co->b≠Ad.fa->H b=some o->upd H1 Ad.fa (.ins CF Ad.dx (JD Ad.pra Ad.cbv Ad.nm Ad.rw (Fr.i+1))) b=some o:=fun b o b1 b2 e=>by rw[jl b2];exact k1 b o b1 e
 have i8:upd H1 Ad.fa (.ins CF Ad.dx (JD Ad.pra Ad.cbv Ad.nm Ad.rw (Fr.i+1))) C.co=some (.ins CC C.dc (qB C.d1 C.d2 (.ref C.il) Fr.tk most (Fr.i+1) C.fl)):=by rw[jl sg];exact c1
 have pS:upd H1 Ad.fa (.ins CF Ad.dx (JD Ad.pra Ad.cbv Ad.nm Ad.rw (Fr.i+1))) Ad.fa=some (.ins CF Ad.dx (JD Ad.pra Ad.cbv Ad.nm Ad.rw (Fr.i+1))):=ja;have um:=t1.trans t2;generalize upd H1 Ad.fa (.ins CF Ad.dx (JD Ad.pra Ad.cbv Ad.nm Ad.rw (Fr.i+1)))=H2 at *;clear c1 k1 sT t1 t2;have wm:=um.1 _ _ cj;have vU:TK H H2:=um.1;refine⟨_,rfl,st,_,_,_,rfl,rfl,SqT.of wm,rfl,rfl,_,rfl,j7 (fun _=>?_) (fun d=>absurd (Qd rfl) d)⟩;have M:∀b o,Hs b=some o->b≠C.co/\b≠Ad.fa:=fun b o e=>by
  refine⟨fun z=>?_,fun z=>?_⟩ <;> (rw[z,hC.new _ (by simp)]at e;cases e)
 have uo:Same Hs H2:=fun b o e=>k2 b o (M b o e).1 (M b o e).2 (hC.sub b o e)
 have oM:=k2 _ _ (aO AH) (aO uD) hF.nm;have m7:=k2 _ _ (aO uF) (aO AF) bX;have s_:=gk.tk um;have LN:FrD K CF H2 Fr.i Ad ⟨Fr.N,Fr.L,Fr.i+1,Fr.tk⟩:=⟨pS,oM,ao,m7,s_⟩
 refine⟨_,rfl,_,rfl,_,rfl,st,_,_,_,rfl,rfl,SqT.of wm,rfl,_,rfl,st,_,_,_,rfl,rfl,SqT.of wm,rfl,?_⟩;refine⟨C,Ad,⟨Fr.N,Fr.L,Fr.i+1,Fr.tk⟩,Fr.i,eX,dd,inp,.str Pp.f,vp,Fr.tk,most,Fr.i+1,rfl,⟨i8,uo _ _ hS.il,LN,by omega,⟨_,_,_,_,_,_,vU _ _ m9⟩,vU.held hd,by dsimp only;omega,pF,sg,hC.tk,iO⟩,?_⟩;have HE:=vU.held HF;have rR:∀{H':Hp} {s':Fm},(∀b o,b≠C.co->b≠Ad.fa->b≠Ad.nm->b≠Ad.rw->H2 b=some o->H' b=some o)->H' C.co=some (.ins CC C.dc (qB C.d1 C.d2 (.ref C.il) s'.tk most s'.i C.fl))->FrD K CF H' s'.i Ad s'->s'.tk<=inp.length->s'.i<=Pp.ds.length->s'.N.length<=100+s'.i->s'.L.length<=100->qU s'.L Pp.rs=true->Conf K CC CF Hs C Ad Pp inp most H' s':=fun kk a b c d e f g=>hC.step (fun b o b1 b2 b3 b4 e=>kk b o b1 b2 b3 b4 (k2 b o b1 b2 e)) a b c d e f g
 have Ae:∀{H':Hp},(∀b o,b≠Ad.nm->b≠C.co->H2 b=some o->H' b=some o)->TKF H2 H':=fun k'=>⟨fun b xs e=>k' b _ (j6 e oM (by intro y;cases y)) (j6 e i8 (by intro y;cases y)) e,fun b o u e=>k' b _ (j6 e oM (by intro y;cases y)) (j6 e i8 (by intro y;cases y)) e⟩
 cases dd with
 | set x t c=>
  intro H' k' wj;exact q H' (rR (fun b o b1 b2 b3 b4 e=>k' b o b3 e) (k' _ _ AH i8) ⟨k' _ _ uD pS,wj,ao,k' _ _ (aO iO) m7,(s_.tk (Ae fun b o b1 _ e=>k' b o b1 e)).up (dX _)⟩ hC.tk aG (aZ (Ja _ _ _) (by dsimp only;omega)) pF hC.has)
 | put r x d t c=>
  refine⟨u9,fun H' k' Mf=>?_⟩;obtain⟨FE,sx,Ly⟩:=Mf;refine q H' (rR (fun b o b1 b2 b3 b4 e=>k' b o b4 e) (k' _ _ uF i8) ⟨k' _ _ AF pS,k' _ _ iO oM,FE,sx,Ly⟩ hC.tk aG (by dsimp only;omega) ?_ (jfk hC.has));show (kM Fr.L r _).length<=100;rw[jdj u9];exact pF
 | any x=>
  dsimp only at q;refine⟨fun hn t H' s' ht=>?_,fun v hv H' k' wj Ml=>?_⟩
  .rw[hn]at q
   exact q (.ref t) H' Fr.tk (uo.trans s') (s' _ _ i8) ⟨t,rfl,ht⟩
  .rw[hv]at q
   have oY:Fr.tk+1<=inp.length:=(aV.mp hv).1;exact q H' (rR (fun b o b1 b2 b3 b4 e=>k' b o b3 b1 e) Ml ⟨k' _ _ uD (aO sg) pS,wj,ao,k' _ _ (aO iO) (aO uF) m7,(s_.tk (Ae k')).up (dX _)⟩ oY aG (aZ (Ja _ _ _) (by dsimp only;omega)) pF hC.has)
 | claim D=>
  dsimp only at q;refine⟨u9,fun hn H' s'=>?_,fun k hn t H' s' ht=>?_⟩
  .rw[hn]at q
   exact q H' (rR (fun b o _ _ _ _ e=>s' b o e) (s' _ _ i8) ⟨s' _ _ pS,s' _ _ oM,ao,s' _ _ m7,(s_.tk (TKF.same s')).up (dX _)⟩ hC.tk aG (by dsimp only;omega) pF hC.has)
  .rw[hn]at q
   cases jcS hn
   exact q (.ref t) H' Fr.tk (uo.trans s') (s' _ _ i8) ⟨t,vp,rfl,ht,HE.mono s'⟩
end
abbrev jf1:au:=top 30
theorem jfj{rs:List Str}{held:List jB}(h:rs.length=held.length):qU (rs.zip held) rs=true:=by
 unfold qU;rw[lA];intro x hx;obtain⟨i,hi,rfl⟩:=di.mp hx;unfold lkA;rw[rB,ug];exact⟨(rs[i],held[i]),di.mpr ⟨i,by rw[uc];omega,by rw[List.getElem_zip]⟩,Qd rfl⟩
section
variable {P:av}
theorem jgm(TC:ClsC K CC)(T:ClsF K CF)(F:Fun K "run" "run" jf1 f fd)(wt:MkFn P w K mg base 3 "Course" CC ["self","program","inputs","most"] (spCourse CC))(wq:MkFn P w K mg base 1 "Frame" CF ["self","proc","numbers","rows","called_by"] (spFrame K CF))(nO:Fn P w K mg base 6 "first_untrue" ["claims","frame"] (spFirst K CF))(wH:Fn P w K mg base 10 "gone_on" ["course"] (spGo K CC CF)):FnOk P w K mg base CX0 11 f fd ["program","f","numbers","rows","inputs","most"] (spRun K):=by
 have sc:FnScope ["program","f","numbers","rows","inputs","most","course","first","k","end"] ["program","f","numbers","rows","inputs","most"] (jn jf1):=fQ;refine F.okZ sc (fun az A outer s H vs Q E hr h=>?_);obtain⟨pg,nl,rl,il,Pp,nums,held,inp,most,rfl,hR,kk,e,u,sy,q⟩:=h;have hu:=qO hr;obtain⟨dk,iW,iU⟩:=hR.pg;obtain⟨ao,o6,Hi⟩:=hR.rl;refine⟨_,(jh (jF (i:=6) sc.nd rfl oQ (jcG wt hr (jd (zpv 0) (jd (zpv 4) (jd (zpv 5) jj)))))
   (jh (jF (i:=7) sc.nd rfl oQ (jcG wq hr (jd (qk hu (jZ (zpv 6) rfl) (zpv 1) (fun _ _=>rfl)) (jd (zpv 2) (jd (zpv 3) (jd kD jj))))))
   (jh (jF (i:=8) sc.nd rfl oQ (jQ nO hr (jd (jC jq (jZ (zpv 7) rfl) jf (fun _ _=>rfl)) (jd (zpv 7) jj))))
   (jh (j9 (jL jbi (zpv 8) kD (ju _)) (jt (j8 (jO (jd (jO (jd jJ (jd (zpv 8) jj))) (jd jf jj))))) jX)
   (jh (qb (YE eU mD mC kR (jZ (zpv 6) rfl) (jd (zpv 7) jj)))
   (jh (jF (i:=9) sc.nd rfl oQ kD)
   (jh (jbC dS (jL Jx (zpv 9) kD (ju _)) (jt (jF (i:=9) sc.nd rfl oQ (jQ wH hr (jd (zpv 6) jj)))))
   (jt (j8 (jO (jd (zpv 9) (jd (jZ (zpv 6) rfl) jj)))))))))))),?_⟩
 refine zU (σ':=[some (.ref pg),some (.str Pp.f),some (.ref nl),some (.ref rl),some (.ref il),some (.int most),none,none,none,none]) rfl ?_;refine⟨_,rfl,_,rfl,_,rfl,fun co dc er I0 ndc=>?_⟩;have s1:Same H (upd (upd H dc (.own co)) co (.ins CC dc [])):=fun b o z=>by rw[jl (jo z er),jl (jo z I0)];exact z
 have c1:upd (upd H dc (.own co)) co (.ins CC dc []) co=some (.ins CC dc []):=ja;generalize upd (upd H dc (.own co)) co (.ins CC dc [])=H1 at *;refine⟨co,dc,pg,.ref il,most,[Pp],dk,rfl,c1,s1 _ _ iW,iU.mono s1,gz.mpr ⟨(fun z=>by cases z),xV⟩,by show 1<=100;decide,fun P hP=>by rw[bu.mp hP];exact hR.sz,fun d1 d2 fl mV lI H2 k2 i5 cG fj c2 mf sO me nk pV=>⟨rfl,?_⟩⟩;have s2:Same H H2:=fun b o z=>k2 b o (jo z er) (s1 _ _ z)
 refine gQ ?_;obtain⟨pra,oW,Ba⟩:=sO Pp (bu.mpr rfl);obtain⟨FJ,pt,rt,v4,v5,vb,pU,dr,iV,gK,m5,oX,oV⟩:=yd Ba;have pT:pra=FJ:=by cases pU;rfl
 subst pT;have hg:DGet H2 d1 (kV (Sum.inr Pp.f)) (some (.ref pra)):=by
  have h:=DGet.k (k:=Sum.inr Pp.f) mf;rw[oW]at h;exact h
 refine⟨_,rfl,co,CC,dc,_,_,rfl,c2,TC.c,TC.n1,rfl,_,rfl,d1,.ref pra,rfl,hg,_,rfl,_,rfl,fun fa dx fk vK ndx=>?_⟩;have s3:Same H2 (upd (upd H2 dx (.own fa)) fa (.ins CF dx [])):=fun b o z=>by rw[jl (jo z fk),jl (jo z vK)];exact z
 have f3:upd (upd H2 dx (.own fa)) fa (.ins CF dx []) fa=some (.ins CF dx []):=ja;generalize upd (upd H2 dx (.own fa)) fa (.ins CF dx [])=H3 at *;have mS:=s2.trans s3;refine⟨fa,dx,pra,pt,rt,nl,rl,.non,.str "proc",.str Pp.f,v4,v5,vb,Pp.ps,Pp.rs,nums,held,ao,0,rfl,f3,s3 _ _ dr,s3 _ _ iV,s3 _ _ gK,mS _ _ hR.nl,mS _ _ o6,Hi.tk (TKF.same mS),hR.w0,hR.ps,hR.nps,hR.lps,hR.rs,hR.nrs,hR.lrs,fun nm rw H4 k4 fi bX iO LM=>⟨rfl,?_⟩⟩;have s4:Same H2 H4:=fun b o z=>k4 b o (jo z fk) (s3 _ _ z)
 have oz:=s2.trans s4;have tf:FrD K CF H4 0 ⟨fa,dx,nm,rw,pra,.non⟩ (yP Pp nums held):=LM _ rfl rfl rfl;refine gQ ?_;refine⟨_,rfl,fa,CF,dx,_,_,rfl,tf.fa,T.c,T.n1,rfl,pra,_,_,_,rfl,rfl,SqT.of (s4 _ _ dr),rfl,_,rfl,v4,[],⟨fa,dx,nm,rw,pra,.non⟩,yP Pp nums held,0,rfl,m5.mono s4,tf,by decide,fun z=>absurd rfl z,fun H5 s5=>?_⟩;have rX:=oz.trans s5;refine gQ ?_
 .skip
  refine⟨_,rfl,rfl,_,rfl,j7 (fun d=>absurd d (by show ¬((!decide (V.non=V.non))=true);simp)) (fun _=>?_)⟩;have c5:=(s4.trans s5) _ _ c2;have tu:=(s4.trans s5) _ _ pV;have Ck:=tf.same s5;refine⟨_,rfl,co,CC,dc,_,_,rfl,c5,TC.c,TC.n7,rfl,.inl ⟨rfl,_,SqL.of tu⟩,_,rfl,fl,_,_,rfl,rfl,tu,jw (by decide),?_⟩;have n1:co≠fl:=fun z=>by rw[z,pV]at c2;cases c2
  have n2:co≠fa:=fun z=>by rw[<- z,c2]at fk;cases fk
  have wf:∀b o,H2 b=some o->b≠fa/\b≠nm/\b≠rw:=fun b o e=>⟨(fun z=>by rw[<- z,e]at fk;cases fk),(fun z=>by have:=s3 _ _ e;rw[z,fi]at this;cases this),fun z=>by have:=s3 _ _ e;rw[z,bX]at this;cases this⟩
  have n3:=wf _ _ c2;have n4:=wf _ _ pV;have n5:fa≠nm:=fun z=>by rw[<- z,f3]at fi;cases fi
  have n6:fa≠rw:=fun z=>by rw[<- z,f3]at bX;cases bX
  have rP:TKF H5 (upd H5 fl (.lst ([]++[.ref fa]))):=TKF.updL tu;have k6:∀b o,b≠fl->H5 b=some o->upd H5 fl (.lst ([]++[.ref fa])) b=some o:=fun b o hb z=>by rw[jl hb];exact z
  have e6:upd H5 fl (.lst ([]++[.ref fa])) fl=some (.lst [.ref fa]):=ja;have Cj:FrD K CF (upd H5 fl (.lst ([]++[.ref fa]))) 0 ⟨fa,dx,nm,rw,pra,.non⟩ (yP Pp nums held):=Ck.keep (ay _) rP fun b hb o e=>k6 b o (fun z=>by
   simp only[FA.own,bg,t_,or_false]at hb;rcases hb with y | y | y
   .exact n4.1 (z.symm.trans y)
   .exact n4.2.1 (z.symm.trans y)
   .exact n4.2.2 (z.symm.trans y)) e
  have pq:H fl=none:=s1.free fj;have Ar:Same H (upd H5 fl (.lst ([]++[.ref fa]))):=fun b o z=>k6 b o (jo z pq) (rX _ _ z)
  have Aq:∀b o,b≠fl->H2 b=some o->upd H5 fl (.lst ([]++[.ref fa])) b=some o:=fun b o hb z=>k6 b o hb ((s4.trans s5) _ _ z)
  have c6:=k6 _ _ n1 c5;generalize upd H5 fl (.lst ([]++[.ref fa]))=H6 at *;have M0:∀b,b∈[co,fl,fa,nm,rw]↔b=co\/b=fl\/b=fa\/b=nm\/b=rw:=fun b=>by simp
  have cF:∀b o,b≠co->b≠fl->H2 b=some o->JR H6 [co,fl,fa,nm,rw] b=some o:=fun b o b1 b2 z=>Z8 (Aq b o b2 z) (fun hb=>by
   obtain⟨g1,g2,g3⟩:=wf b o z;rcases (M0 b).mp hb with y | y | y | y | y
   .exact b1 y
   .exact b2 y
   .exact g1 y
   .exact g2 y
   .exact g3 y)
  have uq:TK H2 (JR H6 [co,fl,fa,nm,rw]):=fun b xs z=>cF b _ (j6 z c2 (by intro y;cases y)) (j6 z pV (by intro y;cases y)) z
  obtain⟨sl,ss,k1,AN,Gs,Gr⟩:=nk Pp (bu.mpr rfl);have B2:Sta (JR H6 [co,fl,fa,nm,rw]) ⟨co,dc,d1,d2,il,fl⟩ ⟨fa,dx,nm,rw,pra,.non⟩ Pp inp:=by
   refine⟨uq.held Ba,⟨lI,sl,ss,cF _ _ (j6 me c2 (by intro y;cases y)) (j6 me pV (by intro y;cases y)) me,k1,cF _ _ (j6 AN c2 (by intro y;cases y)) Gs AN,uq.heldL Gr⟩,?_,hR.sz,hR.lrs⟩;have:=s2 _ _ hR.il;exact cF _ _ (j6 this c2 (by intro y;cases y)) (fun z=>by have h:=hR.il;rw[show il=fl from z,pq]at h;cases h) this
  have Io:=uc (l₁:=Pp.rs) (l₂:=held);have LU:Conf K CC CF (JR H6 [co,fl,fa,nm,rw]) ⟨co,dc,d1,d2,il,fl⟩ ⟨fa,dx,nm,rw,pra,.non⟩ Pp inp most H6 (yP Pp nums held):=by
   refine⟨jfs,c6,e6,Cj,?_,fun b hb=>jgC hb,rfl,bE _,bE _,?_,?_,?_⟩
   .simp[n1,n2,n3.2.1,n3.2.2,n4.1,n4.2.1,n4.2.2,n5,n6,iO]
   .show (Pp.ps.zip nums).length<=_
    rw[uc];exact aZ (Pg _ _) (by have:=hR.lps;omega)
   .show (Pp.rs.zip held).length<=_
    rw[Io];exact aZ (Pg _ _) hR.lrs
   .exact jfj hR.rs
  have LK:∀G,Same (JR H6 [co,fl,fa,nm,rw]) G->Same H G:=fun G sG b o z=>sG b o (Z8 (Ar _ _ z) (fun hb=>by
   rcases (M0 b).mp hb with y | y | y | y | y
   .rw[y,er]at z;cases z
   .rw[y,pq]at z;cases z
   .rw[y,s2.free fk]at z;cases z
   .rw[y,mS.free fi]at z;cases z
   .rw[y,mS.free bX]at z;cases z))
  generalize JR H6 [co,fl,fa,nm,rw]=Hs at *;clear uq cF M0 Aq Ar Cj e6 k6 rP Ck tu c5 rX tf oz s4 mS f3 s3 hg sO nk;refine⟨fun m σ G=>∃v9,σ=[some (.ref pg),some (.str Pp.f),some (.ref nl),some (.ref rl),some (.ref il),some (.int most),some (.ref co),some (.ref fa),some .non,some v9]/\((∃k s,m=k+1/\v9=.non/\Conf K CC CF Hs ⟨co,dc,d1,d2,il,fl⟩ ⟨fa,dx,nm,rw,pra,.non⟩ Pp inp most G s/\Runs Pp inp most k s (e,u))\/(m=0/\Same Hs G/\EndAt K G e v9/\∃tk,G co=some (.ins CC dc (qB d1 d2 (.ref il) tk most u fl)))),⟨kk+1,.non,rfl,.inl ⟨kk,_,rfl,rfl,LU,sy⟩⟩,?_⟩;rintro m σ G ⟨v9,rfl,hG⟩;rcases hG with⟨k',s,rfl,rfl,Co,Lx⟩ | ⟨rfl,sG,hE,tk,Lc⟩
  .refine⟨_,rfl,rfl,_,rfl,j7 (fun _=>?_) (fun d=>absurd (Qd rfl) d)⟩
   refine⟨fun σ' G'=>∃m',m' < k'+1/\∃v9,σ'=[some (.ref pg),some (.str Pp.f),some (.ref nl),some (.ref rl),some (.ref il),some (.int most),some (.ref co),some (.ref fa),some .non,some v9]/\((∃k s,m'=k+1/\v9=.non/\Conf K CC CF Hs ⟨co,dc,d1,d2,il,fl⟩ ⟨fa,dx,nm,rw,pra,.non⟩ Pp inp most G' s/\Runs Pp inp most k s (e,u))\/(m'=0/\Same Hs G'/\EndAt K G' e v9/\∃tk,G' co=some (.ins CC dc (qB d1 d2 (.ref il) tk most u fl)))),fun σ' G' z=>z,?_⟩
   cases Lx with
   | stop o h=>
    refine⟨_,rfl,Hs,⟨co,dc,d1,d2,il,fl⟩,⟨fa,dx,nm,rw,pra,.non⟩,Pp,inp,most,s,rfl,B2,Co,o,?_⟩;rw[h];intro v G' tk a b c;refine gQ ?_;exact⟨0,Nat.succ_pos _,v,rfl,.inr ⟨rfl,a,c,tk,b⟩⟩
   | @more k'' _ lF _ o h t=>
    refine⟨_,rfl,Hs,⟨co,dc,d1,d2,il,fl⟩,⟨fa,dx,nm,rw,pra,.non⟩,Pp,inp,most,s,rfl,B2,Co,o,?_⟩;rw[h];intro G' LY;refine gQ ?_;exact⟨k''+1,xP _,.non,rfl,.inl ⟨k'',lF,rfl,rfl,LY,t⟩⟩
  .refine⟨_,rfl,rfl,_,rfl,j7 (fun d=>absurd (Qc d) hE.not) (fun _=>?_)⟩
   refine⟨_,rfl,_,rfl,co,CC,dc,_,_,rfl,Lc,TC.c,TC.n6,rfl,sm rfl,fun t ht=>?_⟩;have g:=jb ht (.tup [v9,.int u]);exact q t v9 _ ((LK G sG).trans g) (hE.mono g) ja
end
abbrev jf2:au:=top 57
abbrev jc8:au:=top 59
def Dx.num(v:Int)(N:List (Str×Int))(L:List (Str×jB)):Dx->List (Str×Int)
 | .set x t c=>kM N x (t.val N L+c)
 | .any x=>kM N x v
 | _=>N
def Dx.row(N:List (Str×Int))(L:List (Str×jB)):Dx->List (Str×jB)
 | .put r x d t c=>kM L r (jcB (jR L r) (kr N x+d) (t.val N L+c))
 | _=>L
inductive spPut(vs:List V)(H:Hp)(Q:VK)(E:XK):Prop
 | mk (n:aa) (r:Str) (p x:Int) (k:Nat) (aA:List (Key×V)) (L:List (Str×jB)) (_:vs=[.ref n,.str r,.int p,.int x]) (_:H n=some (.dK aA)) (_:RP (LF H k) aA L) (_:(lkA L r).isSome=true) (_:L.length<=500) (_:k<=100) (_:∀cR H',jhB n H H'->H' n=some (.dK cR)->RP (LF H' (k+1)) cR (kM L r (jcB (jR L r) p x))->Q .non H')
inductive spDone(vs:List V)(H:Hp)(Q:VK)(E:XK):Prop
 | mk (v:V) (d:Dx) (m n:aa) (oH:Int) (k:Nat) (N:List (Str×Int)) (aA:List (Key×V)) (L:List (Str×jB)) (_:vs=[v,.ref m,.ref n,.int oH]) (_:Held H d.toD v) (_:H m=some (.dK (nKV N))) (_:H n=some (.dK aA)) (_:RP (LF H k) aA L) (_:m≠n) (_:N.length<=100) (_:L.length<=100) (_:k<=90) (_:(∀r x p t c,d=.put r x p t c->(lkA L r).isSome=true)) (_:∀cR H',(∀b o,b≠m->b≠n->H b=some o->H' b=some o)->H' m=some (.dK (nKV (d.num oH N L)))->H' n=some (.dK cR)->RP (LF H' (k+1)) cR (d.row N L)->Q .non H')
variable {x:Str}
theorem jfu{v:V}(h:Held H (Dx.any x).toD v):∃a,v=.ref a/\H a=some (.tup [.str "any",.str x]):=by
 obtain⟨a,xs,rfl,ha,h1⟩:=jD h;obtain⟨v1,r1,rfl,e1,h2⟩:=jg h1;obtain⟨v2,r2,rfl,e2,h3⟩:=jg h2
 cases jP h3
 cases jE e1
 cases jE e2
 exact⟨a,rfl,ha⟩
theorem jct{v:V}(h:Held H (Dx.claim C).toD v):∃a u,v=.ref a/\H a=some (.tup [.str "claim",u]):=by
 obtain⟨a,xs,rfl,ha,h1⟩:=jD h;obtain⟨v1,r1,rfl,e1,h2⟩:=jg h1;obtain⟨v2,r2,rfl,e2,h3⟩:=jg h2
 cases jP h3
 cases jE e1
 exact⟨a,v2,rfl,ha⟩
section
variable {P:av}
theorem jgn(F:Fun K "_law_put" "_law_put" jf2 f fd):FnOk P w K mg base CX0 1 f fd ["_law_rows","_law_r","_law_place_here","_law_value"] spPut:=by
 have sc:FnScope ["_law_rows","_law_r","_law_place_here","_law_value","_law_base","_law_steps","_law_writes"] ["_law_rows","_law_r","_law_place_here","_law_value"] (jn jf2):=fQ;refine F.okZ sc (fun az A outer s H vs Q E hr h=>?_);obtain⟨n,r,p,x,k,aA,L,rfl,hn,hV,da,hL,hk,q⟩:=h;have hu:=qO hr;refine⟨_,(jh (JU (qk hu (zpv 0) (zpv 1) (fun _ _=>rfl)) (zG rfl (kn (ke (i:=4) sc.nd rfl oQ) (kn (ke (i:=5) sc.nd rfl oQ) (kn (ke (i:=6) sc.nd rfl oQ) qY)))))
   (jt (qX hu (zpv 0) (zpv 1) (jO (jd (zpv 4) (jd (zpv 5) (jd (jK yf (zpv 6) (jO (jd (jO (jd (zpv 2) (jd (zpv 3) jj))) jj))) jj)))) rfl))),?_⟩
 rcases hV.val r with⟨_,bN⟩ | ⟨v,lq,f1,f2,db⟩
 .rw[bN]at da;cases da
 have Ir:jR L r=lq:=by unfold jR;rw[f2];rfl
 rw[Ir]at q;have iq:DGet H n (kV (Sum.inr r)) (some v):=by
  have h:=DGet.k (k:=Sum.inr r) hn;rw[f1]at h;exact h
 refine⟨_,rfl,_,rfl,n,v,rfl,iq,?_⟩;obtain⟨b,ps,ws⟩:=lq;obtain⟨h1,h2,h3,h4⟩:=db;dsimp only at h2 h3 h4 q;obtain⟨a,c,e,qs,us,rfl,ha,hc,iT,he,em⟩:=Je h1;dsimp only at ha iT em;have GS:=em.length;rw[am]at GS;refine⟨a,_,rfl,SqT.of ha,rfl,_,_,rfl,_,_,rfl,_,_,rfl,rfl,?_⟩;refine⟨_,rfl,_,rfl,_,rfl,_,rfl,_,rfl,sm rfl,fun t4 uZ=>?_⟩;have s4:=jb uZ (.tup [V.int p,V.int x]);have e4:upd H t4 (.tup [V.int p,V.int x]) t4=some (.tup [V.int p,V.int x]):=ja;generalize upd H t4 (.tup [V.int p,V.int x])=H4 at *;refine⟨sm rfl,fun t5 fR=>?_⟩;have s5:=jb fR (.tup [V.ref t4]);have e5:upd H4 t5 (.tup [V.ref t4]) t5=some (.tup [V.ref t4]):=ja;generalize upd H4 t5 (.tup [V.ref t4])=H5 at *;have mQ:=s4.trans s5;refine⟨e,t5,_,_,rfl,rfl,mQ _ _ he,e5,Kd (by simp only[bi,lv];omega),fun t6 H6 s6 e6=>?_⟩;refine⟨sm rfl,fun t7 uX=>?_⟩;have s7:=jb uX (.tup [V.int b,V.ref c,V.ref t6]);have e7:upd H6 t7 (.tup [V.int b,V.ref c,V.ref t6]) t7=some (.tup [V.int b,V.ref c,V.ref t6]):=ja;generalize upd H6 t7 (.tup [V.int b,V.ref c,V.ref t6])=H7 at *;have mR:=mQ.trans (s6.trans s7);have pd:=mR _ _ hn;refine⟨_,rfl,_,rfl,n,_,rfl,DPut.k (k:=Sum.inr r) pd (jw (by rw[hV.len];omega)),?_⟩;have pc:Held H7 (yD (b,ps,ws++[(p,x)])) (.ref t7):=by
  refine jv e7 (jc jT (jc (jv (mR _ _ hc) (iT.mono mR)) (jc (jv (s7 _ _ e6) ?_) jp)));show HeldL H7 ((ws++[(p,x)]).map pD) _;rw[aX];exact qg (em.mono mR) (jv ((s5.trans (s6.trans s7)) _ _ e4) (jc jT (jc jT jp)))
 have tk:TK H7 (upd H7 n (.dK (kW aA (Sum.inr r) (.ref t7)))):=TK.upd pd (by intro xs z;cases z);refine q _ _ (fun z o hz e=>by rw[jl hz];exact mR _ _ e) ja ?_;refine RP.put (RP.imp (fun lq v h=>((h.tk (TK.same mR)).tk tk).up (dX _)) hV) ⟨tk.held pc,h2,h3,?_⟩;show (ws++[(p,x)]).length<=k+1;rw[aP];show ws.length+1<=k+1;omega
theorem je8(F:Fun K "_law_done" "_law_done" jc8 f fd)(fw:Fn P w K mg base 2 "_law_worth" ["_law_term_here","_law_numbers","_law_rows"] spWorth)(dF:Fn P w K mg base 1 "_law_number" ["_law_x","_law_numbers"] spNumber_at)(wB:Fn P w K mg base 1 "_law_put" ["_law_rows","_law_r","_law_place_here","_law_value"] spPut):FnOk P w K mg base CX0 3 f fd ["_law_statement_here","_law_numbers","_law_rows","_law_pick"] spDone:=by
 have sc:FnScope ["_law_statement_here","_law_numbers","_law_rows","_law_pick","_law_place_here"] ["_law_statement_here","_law_numbers","_law_rows","_law_pick"] (jn jc8):=fQ;refine F.okZ sc (fun az A outer s H vs Q E hr h=>?_);obtain⟨v,d,m,n,oH,k,N,aA,L,rfl,hd,hm,hn,hV,lR,hN,hL,hk,Hb,q⟩:=h;have hu:=qO hr;refine⟨_,(jt (j9 (jL j5 (jC jq (zpv 0) jf (fun _ _=>rfl)) jJ (ju _)) (jt (qX hu (zpv 1) (jC jq (zpv 0) jf (fun _ _=>rfl)) (jK jU (jQ fw hr (jd (jC jq (zpv 0) jf (fun _ _=>rfl)) (jd (zpv 1) (jd (zpv 2) jj)))) (jC jq (zpv 0) jf (fun _ _=>rfl))) rfl)) (jt (j9 (jL j5 (jC jq (zpv 0) jf (fun _ _=>rfl)) jJ (ju _)) (jh (jF (i:=4) sc.nd rfl oQ (jK jU (jQ dF hr (jd (jC jq (jC jq (zpv 0) jf (fun _ _=>rfl)) jf (fun _ _=>rfl)) (jd (zpv 1) jj))) (jC jq (jC jq (zpv 0) jf (fun _ _=>rfl)) jf (fun _ _=>rfl))))
   (jt (qb (jQ wB hr (jd (zpv 2) (jd (jC jq (zpv 0) jf (fun _ _=>rfl)) (jd (zpv 4) (jd (jK jU (jQ fw hr (jd (jC jq (zpv 0) jf (fun _ _=>rfl)) (jd (zpv 1) (jd (zpv 2) jj)))) (jC jq (zpv 0) jf (fun _ _=>rfl))) jj)))))))) (jt (j9 (jL j5 (jC jq (zpv 0) jf (fun _ _=>rfl)) jJ (ju _)) (jt (qX hu (zpv 1) (jC jq (zpv 0) jf (fun _ _=>rfl)) (zpv 3) rfl)) jX)))))),?_⟩
 try dsimp only[JQ]
 have LD:(nKV N).length<=100:=by unfold nKV;rw[am];exact hN
 cases d with
 | set x t c=>
  obtain⟨a,u,rfl,ha,lM⟩:=jbb hd;refine⟨_,rfl,a,_,_,_,rfl,rfl,SqT.of ha,rfl,rfl,_,rfl,j7 (fun _=>?_) (fun d=>absurd (Qd rfl) d)⟩;refine⟨_,rfl,a,_,_,_,rfl,rfl,SqT.of ha,rfl,_,rfl,_,rfl,u,t,m,n,k,N,aA,L,rfl,lM,hm,hn,hV,fun H1 s1=>?_⟩;refine⟨_,rfl,a,_,_,_,rfl,rfl,SqT.of (s1 _ _ ha),rfl,_,_,rfl,rfl,_,rfl,_,rfl,a,_,_,_,rfl,rfl,SqT.of (s1 _ _ ha),rfl,m,_,rfl,DPut.k (k:=Sum.inr x) (s1 _ _ hm) (jw (by omega)),?_⟩;rw[JZ];have tk:TK H1 (upd H1 m (.dK (nKV (kM N x (t.val N L+c))))):=TK.upd (s1 _ _ hm) (by intro xs z;cases z);exact q aA _ (fun b o b1 b2 e=>by rw[jl b1];exact s1 _ _ e) ja (by rw[jl (aO lR)];exact s1 _ _ hn) (RP.imp (fun _ _ h=>((h.tk (TK.same s1)).tk tk).up (dX _)) hV)
 | put r x p t c=>
  obtain⟨a,b,u,rfl,ha,hb,lM⟩:=jbg hd;refine⟨_,rfl,a,_,_,_,rfl,rfl,SqT.of ha,rfl,rfl,_,rfl,j7 (fun d=>absurd (Qc d) (by decide)) (fun _=>?_)⟩;refine⟨_,rfl,a,_,_,_,rfl,rfl,SqT.of ha,rfl,rfl,_,rfl,j7 (fun _=>?_) (fun d=>absurd (Qd rfl) d)⟩;refine⟨_,rfl,a,_,_,_,rfl,rfl,SqT.of ha,rfl,b,_,_,_,rfl,rfl,SqT.of hb,rfl,_,rfl,x,m,N,rfl,hm,?_⟩;refine⟨_,rfl,a,_,_,_,rfl,rfl,SqT.of ha,rfl,b,_,_,_,rfl,rfl,SqT.of hb,rfl,_,_,rfl,rfl,?_⟩;refine gQ ?_;refine⟨_,rfl,_,rfl,a,_,_,_,rfl,rfl,SqT.of ha,rfl,_,rfl,_,rfl,a,_,_,_,rfl,rfl,SqT.of ha,rfl,_,rfl,_,rfl,u,t,m,n,k,N,aA,L,rfl,lM,hm,hn,hV,fun H1 s1=>?_⟩;refine⟨_,rfl,a,_,_,_,rfl,rfl,SqT.of (s1 _ _ ha),rfl,_,_,rfl,rfl,?_⟩;refine⟨n,r,_,_,k,aA,L,rfl,s1 _ _ hn,RP.imp (fun _ _ h=>LF.tk (TK.same s1) h) hV,Hb _ _ _ _ _ rfl,by omega,by omega,fun cR H2 k2 ng Ls=>?_⟩;exact q cR H2 (fun b o b1 b2 e=>k2 b o b2 (s1 _ _ e)) (k2 _ _ lR (s1 _ _ hm)) ng Ls
 | any x=>
  obtain⟨a,rfl,ha⟩:=jfu hd;refine⟨_,rfl,a,_,_,_,rfl,rfl,SqT.of ha,rfl,rfl,_,rfl,j7 (fun d=>absurd (Qc d) (by decide)) (fun _=>?_)⟩;refine⟨_,rfl,a,_,_,_,rfl,rfl,SqT.of ha,rfl,rfl,_,rfl,j7 (fun d=>absurd (Qc d) (by decide)) (fun _=>?_)⟩;refine⟨_,rfl,a,_,_,_,rfl,rfl,SqT.of ha,rfl,rfl,_,rfl,j7 (fun _=>?_) (fun d=>absurd (Qd rfl) d)⟩;refine⟨_,rfl,_,rfl,_,rfl,a,_,_,_,rfl,rfl,SqT.of ha,rfl,m,_,rfl,DPut.k (k:=Sum.inr x) hm (jw (by omega)),?_⟩;rw[JZ];have tk:TK H (upd H m (.dK (nKV (kM N x oH)))):=TK.upd hm (by intro xs z;cases z);exact q aA _ (fun b o b1 b2 e=>by rw[jl b1];exact e) ja (by rw[jl (aO lR)];exact hn) (RP.imp (fun _ _ h=>(h.tk tk).up (dX _)) hV)
 | claim C=>
  obtain⟨a,u,rfl,ha⟩:=jct hd;refine⟨_,rfl,a,_,_,_,rfl,rfl,SqT.of ha,rfl,rfl,_,rfl,j7 (fun d=>absurd (Qc d) (by decide)) (fun _=>?_)⟩;refine⟨_,rfl,a,_,_,_,rfl,rfl,SqT.of ha,rfl,rfl,_,rfl,j7 (fun d=>absurd (Qc d) (by decide)) (fun _=>?_)⟩;refine⟨_,rfl,a,_,_,_,rfl,rfl,SqT.of ha,rfl,rfl,_,rfl,j7 (fun d=>absurd (Qc d) (by decide)) (fun _=>?_)⟩;exact q aA H (fun b o b1 b2 e=>e) hm hn (RP.imp (fun _ _ h=>h.up (dX _)) hV)
end
abbrev jc5:au:=top 58
def Dx.Ok(ws:List Str)(near:Int)(N:List (Str×Int))(L:List (Str×jB))(wr:Bool):Dx->Prop
 | .set x _ _=>wr=false/\(x=ws.getD 2 ""\/x = "out")
 | .put r x d _ _=>wr=false/\(∃j,j < 3/\r=ws.getD (3+j) "")/\jgK ws near x d
 | .any x=>wr=false/\(x=ws.getD 2 ""\/x = "out")
 | .claim C=>zH N L C=!wr
inductive spStat(vs:List V)(H:Hp)(Q:VK)(E:XK):Prop
 | mk (s near:Int) (l m n:aa) (wr:Bool) (k:Nat) (ws:List Str) (N:List (Str×Int)) (aA:List (Key×V)) (L:List (Str×jB)) (_:vs=[.int s,.ref l,.int near,.ref m,.ref n,.bl wr]) (_:jgJ H l ws near) (_:H m=some (.dK (nKV N))) (_:H n=some (.dK aA)) (_:RP (LF H k) aA L) (_:k<=100) (_:Fit L) (_:∀u d H',Same H H'->Held H' (Dx.toD d) u->d.Ok ws near N L wr->Q u H')
def leC(c:Int):Cl:=.least (.is "") (.is "") c
theorem jbo{c:Int}:(leC c).Tru N L↔c<=0:=by
 show kr N "" + c<=kr N ""↔c<=0;omega
theorem YH{b:Bool}(h:b=true↔C.Tru N L):zH N L C=b:=(Zt h).symm
variable {ws:List Str}
theorem jfS(h:ws.length=7):kN (ws.map V.str) (some 3) (some 6)=(ws.extract 3 6).map V.str:=by
 match ws,h with
 | [a,b,c,d,e,f,g],_=>rfl
theorem jhk(h:ws.length=7):(ws.extract 3 6).length<=10:=by
 match ws,h with
 | [a,b,c,d,e,f,g],_=>show 3<=10;decide
variable {G:Hp}
theorem Kv{a t:aa}{c:Int}(ha:G a=none)(hb:upd G a (.tup [.str "is",.str ""]) b=none)(ht:upd (upd G a (.tup [.str "is",.str ""])) b (.tup [.str "is",.str ""]) t=none):
  Same G (upd (upd (upd G a (.tup [.str "is",.str ""])) b (.tup [.str "is",.str ""])) t (.tup [.str "least",.ref a,.ref b,.int c]))/\Held (upd (upd (upd G a (.tup [.str "is",.str ""])) b (.tup [.str "is",.str ""])) t (.tup [.str "least",.ref a,.ref b,.int c])) (leC c).toD (.ref t):=by
 have s1:=jb ha (.tup [.str "is",.str ""])
 have s2:=jb hb (.tup [.str "is",.str ""])
 have s3:=jb ht (.tup [.str "least",.ref a,.ref b,.int c])
 have i1:Held (upd G a (.tup [.str "is",.str ""])) (Tm.is "").toD (.ref a):=jv ja (jc jy (jc jy jp))
 have i2:Held (upd (upd G a (.tup [.str "is",.str ""])) b (.tup [.str "is",.str ""])) (Tm.is "").toD (.ref b):=jv ja (jc jy (jc jy jp))
 exact⟨s1.trans (s2.trans s3),jv ja (jc jy (jc (i1.mono (s2.trans s3)) (jc (i2.mono s3) (jc jT jp))))⟩
theorem jcV(a b:Str){i:Int}(h0:0<=i)(h1:i < 2):∃z,atI [V.str a,V.str b] i=some (.str z)/\(z=a\/z=b):=by
 obtain rfl | rfl:i=0\/i=1:=by omega
 .exact⟨_,rfl,.inl rfl⟩
 .exact⟨_,rfl,.inr rfl⟩
variable {wr:Bool}
theorem jgi{k:Bool}{T1 T2 R:Prop}(h1:T1)(h2:wr=false->k=false->T2)(hR:(if k=true then T1 else T2)->R):if wr=true then (if true=true then T1 else T2) else R:=by
 cases wr with
 | true=>rw[Qg rfl,Qg rfl];exact h1
 | false=>
  rw[Qf (by decide)];refine hR ?_
  cases k with
  | true=>rw[Qg rfl];exact h1
  | false=>rw[Qf (by decide)];exact h2 rfl rfl
section
variable {P:av}
theorem je2(F:Fun K "_law_statement" "_law_statement" jc5 f fd)(B:Free0 mg)(cP:Fn P w K mg base 1 "_law_mix" ["_law_seed","_law_k"] spMix)(wP:Fn P w K mg base 3 "_law_claim" ["_law_seed","_law_w","_law_near","_law_free"] spClaim)(wI:Fn P w K mg base 3 "_law_fitted" ["_law_claim_here","_law_untrue","_law_numbers","_law_rows"] spFitted)(tG:Fn P w K mg base 3 "_law_true" ["_law_claim_here","_law_numbers","_law_rows"] spTrue)(fB:Fn P w K mg base 1 "_law_place" ["_law_seed","_law_w","_law_near"] spPlaceS)(ml:Fn P w K mg base 2 "_law_term" ["_law_seed","_law_w","_law_near"] spTerm):FnOk P w K mg base CX0 4 f fd ["_law_seed","_law_w","_law_near","_law_numbers","_law_rows","_law_wrong"] spStat:=by
 have sc:FnScope ["_law_seed","_law_w","_law_near","_law_numbers","_law_rows","_law_wrong","_law_kind","_law_claim_here","_law_more","_law_term_here"] ["_law_seed","_law_w","_law_near","_law_numbers","_law_rows","_law_wrong"] (jn jc5):=fQ;refine F.okZ sc (fun az A outer s H vs Q E hr h=>?_);obtain⟨sd,near,l,m,n,wr,k,ws,N,aA,L,rfl,⟨hl,hw,dO,cU⟩,hm,hn,hV,hk,hF,q⟩:=h;have hu:=qO hr;refine⟨_,(jh (jF (i:=6) sc.nd rfl oQ (jK jM (zpv 0) jf))
   (jh (j9 (jcC (yp (zpv 5)) (ja3 (jL j5 (zpv 6) jf (ju _)))).pt (jh (jF (i:=7) sc.nd rfl oQ (jQ wI hr (jd (jQ wP hr (jd (jQ cP hr (jd (zpv 0) (jd jf jj))) (jd (zpv 1) (jd (zpv 2) (jd (qz JW (zpv 1) (kQ jf) (kQ jf)) jj))))) (jd (J7 zE (by rfl) B.int_ KO (jd (zpv 5) jj)) (jd (zpv 3) (jd (zpv 4) jj))))))
   (jh (qi (j9 (yo (yp (zpv 5)) (zt (yp (jQ tG hr (jd (zpv 7) (jd (zpv 3) (jd (zpv 4) jj))))))).pt (jt (jF (i:=7) sc.nd rfl oQ (jO (jd jJ (jd (jO (jd jJ (jd jJ jj))) (jd (jO (jd jJ (jd jJ jj))) (jd jf jj))))))) jX))
   (jh (qi (j9 (yo (YC (yp (zpv 5))) (zt (YC (yp (jQ tG hr (jd (zpv 7) (jd (zpv 3) (jd (zpv 4) jj)))))))).pt (jt (jF (i:=7) sc.nd rfl oQ (jO (jd jJ (jd (jO (jd jJ (jd jJ jj))) (jd (jO (jd jJ (jd jJ jj))) (jd jf jj))))))) jX))
   (jt (j8 (jO (jd jJ (jd (zpv 7) jj)))))))) jX)
   (jh (jF (i:=8) sc.nd rfl oQ (jC jG (qj (jd (jK kO (jK jM (jK jS (zpv 0) jf) jf) jf) (jd (jK kO (jK jM (jK kP (zpv 0) jf) (jK kP jf (jK ze jf jf))) (jK ze jf jf)) jj))) (jK jM (jK jS (zpv 0) jf) jf) (fun _ _=>rfl)))
   (jh (jF (i:=9) sc.nd rfl oQ (jQ ml hr (jd (jQ cP hr (jd (zpv 0) (jd jf jj))) (jd (zpv 1) (jd (zpv 2) jj)))))
   (jh (j9 (jL Kr (zpv 6) jf (ju _)) (jt (j8 (jO (jd jJ (jd (jC jG (qj (jd (jC jG (zpv 1) jf (fun _ _=>rfl)) (jd jJ jj))) (jK jM (jK jS (zpv 0) jf) jf) (fun _ _=>rfl)) (jd (zpv 9) (jd (zpv 8) jj))))))) jX)
   (jh (j9 (jL j5 (zpv 6) jf (ju _)) (jt (j8 (jO (jd jJ (jd (jC jG (zpv 1) (jK jU jf (jK jM (jK jS (zpv 0) jf) jf)) (fun _ _=>rfl)) (jd (jQ fB hr (jd (jQ cP hr (jd (zpv 0) (jd jf jj))) (jd (zpv 1) (jd (zpv 2) jj)))) (jd (zpv 9) (jd (zpv 8) jj)))))))) jX)
   (jt (j8 (jO (jd jJ (jd (jC jG (qj (jd (jC jG (zpv 1) jf (fun _ _=>rfl)) (jd jJ jj))) (jK jM (jK jS (zpv 0) jf) jf) (fun _ _=>rfl)) jj))))))))))),?_⟩
 refine zU (σ':=[some (.int sd),some (.ref l),some (.int near),some (.ref m),some (.ref n),some (.bl wr),none,none,none,none]) rfl ?_
 try dsimp only[JQ]
 refine⟨_,rfl,_,_,rfl,rfl,(by show (0:Int) < _;decide),?_⟩;refine gQ ?_;have Ms:∀(c:Cl) (p:aa) (u:V) (G:Hp),Same H G->Held G c.toD u->zH N L c=(!wr)->G p=none->Q (.ref p) (upd G p (.tup [V.str "claim",u])):=fun c p u G sG hu ht hp=>
  q (.ref p) (.claim c) _ (sG.trans (jb hp _)) (jv ja (jc jy (jc (hu.mono (jb hp _)) jp))) ht
 refine⟨_,rfl,wr,rfl,?_⟩;refine jgi (k:=decide (V.int (sd % 5)=V.int 4)) ?_ ?_ (fun z=>⟨_,rfl,rfl,_,rfl,z⟩)
 .refine⟨_,rfl,sd,1,rfl,fun s2=>?_⟩
  refine⟨_,rfl,_,rfl,_,rfl,3,rfl,6,rfl,l,_,rfl,SqL.of hl,fun p hp=>?_⟩;have s1:=jb hp (.lst (kN (ws.map V.str) (some 3) (some 6)));have e1:upd H p (.lst (kN (ws.map V.str) (some 3) (some 6))) p=some (.lst ((ws.extract 3 6).map V.str)):=by
   rw[ja,jfS hw]
  generalize upd H p (.lst (kN (ws.map V.str) (some 3) (some 6)))=H1 at *;refine⟨s2,near,l,p,ws,ws.extract 3 6,rfl,⟨s1 _ _ hl,hw,dO,cU⟩,e1,jhk hw,fun u C H2 t2 hC lL=>?_⟩;refine⟨_,rfl,.inr ⟨wr,rfl,?_⟩⟩;have bc:=s1.trans t2;refine⟨_,rfl,_,rfl,u,_,C,m,n,k,N,aA,L,rfl,hC,lL,bc _ _ hm,bc _ _ hn,RP.imp (fun _ _ h=>LF.tk (TK.same bc) h) hV,hk,hF,fun u2 C2 H3 t3 wa uR=>?_⟩;have aS:=bc.trans t3;refine gQ ?_;have ph:=aS _ _ hm;have H_:=aS _ _ hn;have Lr:=RP.imp (fun _ _ h=>LF.tk (TK.same aS) h) hV;refine⟨fun σ G=>∃u C,σ=[some (.int sd),some (.ref l),some (.int near),some (.ref m),some (.ref n),some (.bl wr),some (.int (sd % 5)),some u,none,none]/\Same H G/\Held G C.toD u/\Zo C/\(wr=true->zH N L C=false),?_,?_⟩
  .refine⟨_,rfl,wr,rfl,?_⟩
   cases wr with
   | false=>exact kT (kT ⟨u2,C2,rfl,aS,wa,uR,fun h=>by cases h⟩)
   | true=>
    refine kL ?_;refine⟨_,rfl,_,rfl,_,rfl,u2,C2,m,n,k,N,aA,L,rfl,wa,uR,ph,H_,Lr,hk,hF,fun b H4 t4 hb=>⟨b,rfl,j7 (fun Lh=>?_) (fun vM=>?_)⟩⟩
    .refine⟨sm rfl,fun a ha=>⟨sm rfl,fun b aW=>⟨sm rfl,fun t ht=>?_⟩⟩⟩
     obtain⟨z1,z2⟩:=Kv (c:=1) ha aW ht;exact⟨.ref t,leC 1,rfl,(aS.trans t4).trans z1,z2,trivial,fun _=>YH (b:=false) (by rw[jbo];simp)⟩
    .exact⟨u2,C2,rfl,aS.trans t4,wa.mono t4,uR,fun _=>by rw[YH hb];simpa using vM⟩
  rintro σ G ⟨u4,C4,rfl,sG,v_,GL,uZ⟩;refine⟨fun σ G=>∃u C,σ=[some (.int sd),some (.ref l),some (.int near),some (.ref m),some (.ref n),some (.bl wr),some (.int (sd % 5)),some u,none,none]/\Same H G/\Held G C.toD u/\zH N L C=!wr,?_,?_⟩
  .refine⟨_,rfl,wr,rfl,?_⟩
   cases wr with
   | true=>exact kT (kT ⟨u4,C4,rfl,sG,v_,uZ rfl⟩)
   | false=>
    refine kL ?_;refine⟨_,rfl,_,rfl,_,rfl,u4,C4,m,n,k,N,aA,L,rfl,v_,GL,sG _ _ hm,sG _ _ hn,RP.imp (fun _ _ h=>LF.tk (TK.same sG) h) hV,hk,hF,fun b H4 t4 hb=>⟨b,rfl,j7 (fun Lh=>?_) (fun vM=>?_)⟩⟩
    .refine⟨sm rfl,fun a ha=>⟨sm rfl,fun b aW=>⟨sm rfl,fun t ht=>?_⟩⟩⟩
     obtain⟨z1,z2⟩:=Kv (c:=0) ha aW ht;exact⟨.ref t,leC 0,rfl,(sG.trans t4).trans z1,z2,YH (b:=true) (by rw[jbo];simp)⟩
    .exact⟨u4,C4,rfl,sG.trans t4,v_.mono t4,by rw[YH hb];simpa using vM⟩
  rintro σ G5 ⟨u5,C5,rfl,mO,LX,fR⟩;refine⟨_,rfl,sm rfl,fun p5 HG=>?_⟩;exact Ms C5 p5 u5 G5 mO LX fR HG
 .intro GN i0
  subst GN;have mY:=kH (xs:=ws) (i:=2) (by decide) (by rw[hw];decide);have m0:=bR (sd / 5) (b:=3) (by decide);have m1:=cr (sd / 5) (b:=3) (by decide);have hy:=kH (xs:=ws) (i:=3+sd / 5 % 3) (by omega) (by rw[hw];omega);have GA:∃j,j < 3/\ws.getD (3+sd / 5 % 3).toNat "" = ws.getD (3+j) "":=⟨(sd / 5 % 3).toNat,by omega,by rw[show (3+sd / 5 % 3).toNat=3+(sd / 5 % 3).toNat by omega]⟩
  generalize ws.getD (3+sd / 5 % 3).toNat "" = y at *;refine⟨_,rfl,_,_,rfl,rfl,⟨by decide,by decide⟩,_,_,rfl,rfl,(by show (0:Int) < _;decide),_,_,rfl,rfl,_,rfl,_,_,rfl,rfl,.inr ⟨by decide,by decide⟩,_,_,rfl,rfl,⟨by decide,by decide,by decide⟩,_,_,rfl,rfl,.inl ⟨by decide,by decide⟩,_,_,rfl,rfl,(by show (0:Int) < _;decide),_,_,rfl,rfl,⟨by decide,by decide,by decide⟩,_,_,rfl,rfl,sm rfl,fun l1 aT=>?_⟩;dsimp only;generalize sd / 6 % 7 - 3=c1 at *;generalize sd * 7919 % (2 * 10 ^ aL 15) - 10 ^ aL 15=c2 at *;have s1:=jb aT (.lst [V.int c1,V.int c2]);have e1:upd H l1 (.lst [V.int c1,V.int c2]) l1=some (.lst [V.int c1,V.int c2]):=ja;generalize upd H l1 (.lst [V.int c1,V.int c2])=H1 at *;refine⟨_,rfl,_,_,rfl,rfl,⟨by decide,by decide⟩,_,_,rfl,rfl,(by show (0:Int) < _;decide),?_⟩;obtain⟨mo,io⟩:=yY c1 c2 (i:=sd / 42 % 2) (bR _ (by decide)) (cr _ (by decide));refine⟨l1,_,_,_,rfl,rfl,SqL.of e1,io,?_⟩;clear io e1 aT;refine gQ ?_;refine⟨_,rfl,sd,2,rfl,fun s2=>?_⟩;refine⟨_,rfl,_,rfl,s2,near,l,ws,rfl,s1 _ _ hl,hw,dO,cU,fun u tm H2 t2 hu=>?_⟩;have bL:=s1.trans t2;clear s1 t2;refine gQ ?_;obtain⟨x,aY,gJ⟩:=jcV (ws.getD (aL 2) "") "out" (i:=sd / 5 % 2) (bR _ (by decide)) (cr _ (by decide));refine⟨_,rfl,_,_,rfl,rfl,_,rfl,j7 (fun c=>?_) (fun c=>?_)⟩
  .refine⟨_,rfl,l,_,_,_,rfl,rfl,SqL.of (bL _ _ hl),mY,sm rfl,fun l2 aQ=>?_⟩
   have s3:=jb aQ (.lst [V.str (ws.getD (aL 2) ""),V.str "out"]);have e3:upd H2 l2 (.lst [V.str (ws.getD (aL 2) ""),V.str "out"]) l2=some (.lst [V.str (ws.getD (aL 2) ""),V.str "out"]):=ja;generalize upd H2 l2 (.lst [V.str (ws.getD (aL 2) ""),V.str "out"])=H3 at *;refine⟨_,rfl,_,_,rfl,rfl,⟨by decide,by decide⟩,_,_,rfl,rfl,(by show (0:Int) < _;decide),l2,_,_,_,rfl,rfl,SqL.of e3,aY,_,rfl,_,rfl,sm rfl,fun t ht=>?_⟩;have s4:=jb ht (.tup [V.str "set",V.str x,u,V.int mo]);exact q _ (.set x tm mo) _ (bL.trans (s3.trans s4)) (jv ja (jc jy (jc jy (jc (hu.mono (s3.trans s4)) (jc jT jp))))) ⟨rfl,gJ⟩
  refine⟨_,rfl,rfl,_,rfl,j7 (fun c=>?_) (fun c=>?_)⟩
  .refine⟨_,rfl,_,rfl,_,_,rfl,rfl,⟨by decide,by decide⟩,_,_,rfl,rfl,(by show (0:Int) < _;decide),_,_,rfl,rfl,l,_,_,_,rfl,rfl,SqL.of (bL _ _ hl),hy,?_⟩
   refine⟨_,rfl,sd,3,rfl,fun s3=>?_⟩;refine⟨_,rfl,_,rfl,s3,near,l,ws,rfl,bL _ _ hl,hw,dO,cU,fun a z d H3 t3 ha bC=>?_⟩;refine⟨_,rfl,_,rfl,sm rfl,fun t ht=>?_⟩;have s4:=jb ht (.tup [V.str "put",V.str y,V.ref a,u,V.int mo]);exact q _ (.put y z d tm mo) _ (bL.trans (t3.trans s4)) (jv ja (jc jy (jc jy (jc (jv (s4 _ _ ha) (jc jy (jc jT jp))) (jc (hu.mono (t3.trans s4)) (jc jT jp)))))) ⟨rfl,GA,bC⟩
  .refine⟨_,rfl,l,_,_,_,rfl,rfl,SqL.of (bL _ _ hl),mY,sm rfl,fun l2 aQ=>?_⟩
   have s3:=jb aQ (.lst [V.str (ws.getD (aL 2) ""),V.str "out"]);have e3:upd H2 l2 (.lst [V.str (ws.getD (aL 2) ""),V.str "out"]) l2=some (.lst [V.str (ws.getD (aL 2) ""),V.str "out"]):=ja;generalize upd H2 l2 (.lst [V.str (ws.getD (aL 2) ""),V.str "out"])=H3 at *;refine⟨_,rfl,_,_,rfl,rfl,⟨by decide,by decide⟩,_,_,rfl,rfl,(by show (0:Int) < _;decide),l2,_,_,_,rfl,rfl,SqL.of e3,aY,sm rfl,fun t ht=>?_⟩;have s4:=jb ht (.tup [V.str "any",V.str x]);exact q _ (.any x) _ (bL.trans (s3.trans s4)) (jv ja (jc jy (jc jy jp))) ⟨rfl,gJ⟩
end
def qH:List (Str×jB)->Nat
 | []=>0
 | z :: L=>z.2.2.2.length+qH L
theorem YT(h:(lkA L r).isSome=true):kM L r q=L.map fun z=>if z.1=r then (z.1,q) else z:=by
 have ha:(L.any fun z=>decide (z.1=r))=true:=by
  unfold lkA at h;rw[rB,ug]at h;obtain⟨z,hz,e⟩:=h;exact E7.mpr ⟨z,hz,e⟩
 unfold kM;rw[Qg ha]
theorem kS(z:Str×jB)(L:List (Str×jB))(r:Str):jR (z :: L) r=if z.1=r then z.2 else jR L r:=by
 unfold jR;rw[yz];split <;> rfl
theorem jbn{r r':Str}{q:jB}:∀L:List (Str×jB),(lkA L r).isSome=true->jR (L.map fun z=>if z.1=r then (z.1,q) else z) r'=if r'=r then q else jR L r'
 | [],h=>by cases h
 | z :: L,h=>by
  rw[yz]at h;rw[bW,kS,kS];by_cases c:z.1=r
  .rw[Qg c]
   dsimp only;by_cases d:r'=r
   .rw[Qg d,Qg (by rw[c,d])]
   .rw[Qf d,Qf (fun e=>d (by rw[<- e,c]))]
    rw[Qf (fun e=>d (by rw[<- e,c]))];exact (lk_id L (fun e=>d e)).symm ▸ rfl
  .rw[Qf c]at h
   rw[Qf c];by_cases e:z.1=r'
   .rw[Qg e,Qg e,Qf (fun y=>c (by rw[e,y]))]
   .rw[Qf e,Qf e]
    exact jbn L h
where
 lk_id {r r':Str} {q:jB}:∀L:List (Str×jB),r'≠r->jR (L.map fun z=>if z.1=r then (z.1,q) else z) r'=jR L r'
 | [],_=>rfl
 | z :: L,h=>by
  rw[bW,kS,kS];by_cases c:z.1=r
  .rw[Qg c]
   dsimp only;rw[Qf (fun e=>h (by rw[<- e,c])),Qf (fun e=>h (by rw[<- e,c]))];exact lk_id L h
  .rw[Qf c,lk_id L h]
theorem ZO{r':Str}(h:(lkA L r).isSome=true):jR (kM L r q) r'=if r'=r then q else jR L r':=by rw[YT h,jbn L h]
theorem jdU(h:(lkA L r).isSome=true):(kM L r q).map (·.1)=L.map (·.1):=by
 rw[YT h,ln];refine EW fun z _=>?_
 show (if z.1=r then (z.1,q) else z).1=z.1;split <;> rfl
theorem jfd(h:r ∉ L.map (·.1)):(L.map fun z=>if z.1=r then (z.1,q) else z)=L:=by
 induction L with
 | nil=>rfl
 | cons z L ih=>
  rw[bW,bg,not_or]at h;rw[bW,Qf (fun e=>h.1 e.symm),ih h.2]
theorem Zl{r:Str}{p v:Int}:∀{L:List (Str×jB)},(L.map (·.1)).Nodup->(lkA L r).isSome=true->qH (L.map fun z=>if z.1=r then (z.1,jcB (jR L r) p v) else z)=qH L+1
 | [],_,h=>by cases h
 | z :: L,nd,h=>by
  rw[bW]at nd;have iP:=gz.mp nd;rw[kS,bW];rw[yz]at h;by_cases c:z.1=r
  .rw[Qg c,Qg c,jfd (by rw[<- c];exact iP.1)]
   show (z.2.2.2++[(p,v)]).length+qH L=z.2.2.2.length+qH L+1;rw[aP];show z.2.2.2.length+1+qH L=_;omega
  .rw[Qf c]at h
   rw[Qf c,Qf c];show z.2.2.2.length+qH _=z.2.2.2.length+qH L+1;rw[Zl iP.2 h];omega
theorem jcO{p:Int}(nd:(L.map (·.1)).Nodup)(h:(lkA L r).isSome=true):qH (kM L r (jcB (jR L r) p v))=qH L+1:=by rw[YT h,Zl nd h]
theorem yW(r:Str):∀L:List (Str×jB),(jR L r).2.2.length<=qH L
 | []=>ay 0
 | z :: L=>by
  rw[kS];have:=yW r L;unfold qH;split <;> omega
theorem Zk{r r':Str}(h:r≠r'):∀L:List (Str×jB),(jR L r).2.2.length+(jR L r').2.2.length<=qH L
 | []=>ay 0
 | z :: L=>by
  rw[kS,kS];have h1:=yW r L;have h2:=yW r' L;have h3:=Zk h L;unfold qH;by_cases c:z.1=r
  .rw[Qg c,Qf (fun e=>h (by rw[<- c,e]))];omega
  .rw[Qf c]
   split <;> omega
def nmL(ws:List Str)(j:Nat):Str:=((("" : Str) :: ws).getD j "")
def P0(ws:List Str)(near:Int)(N:List (Str×Int)):List Int:=(bm 4).flatMap fun j=>(bm 5).map fun e=>kr N (nmL ws j)+(((e:Nat):Int) - 2+if nmL ws j = "" then near else 0)
theorem jgM(ws:List Str)(near:Int)(N:List (Str×Int)):(P0 ws near N).length=20:=rfl
variable {near:Int}
theorem jgL{d:Int}(h:jgK ws near x d):kr N x+d∈P0 ws near N:=by
 obtain⟨j,e,hj,he,rfl,rfl⟩:=h;exact ub.mpr ⟨j,iI.mpr hj,bf.mpr ⟨e,iI.mpr he,rfl⟩⟩
structure LInv(ks ws:List Str)(near:Int)(N0:List (Str×Int))(s:Fm):Prop where
 keys:s.L.map (·.1)=ks
 st3:∀r,(jR s.L r).2.1.length<=3
 N:s.N.length<=2+s.i
 w:qH s.L<=s.i
 all:qH s.L=s.i->s.N=N0/\∀r,∀z∈(jR s.L r).2.2,z.1∈P0 ws near N0
variable {ks:List Str}
theorem LInv.fit{N0:List (Str×Int)}(h:LInv ks ws near N0 s)(hi:s.i<=29):Fit s.L:=by
 intro r r';have h1:=h.st3 r;have h2:=h.st3 r';have h3:=yW r s.L;by_cases c:qH s.L<=28
 .by_cases e:r=r'
  .subst e
   refine⟨kA (jR s.L r).2.1 (jR s.L r).2.2,?_,fun x hx=>hx.elim id id⟩;rw[zB];omega
  .have:=Zk e s.L
   refine⟨kA (jR s.L r).2.1 (jR s.L r).2.2++kA (jR s.L r').2.1 (jR s.L r').2.2,?_,fun x hx=>cZ.mpr hx⟩;rw[aP,zB,zB];omega
 .have hw:=h.w
  obtain⟨_,hP⟩:=h.all (by omega);refine⟨((jR s.L r).2.1.map (·.1)++(jR s.L r').2.1.map (·.1))++(P0 ws near N0++(P0 ws near N0).map (·+1)),?_,fun x hx=>?_⟩
  .rw[aP,aP,aP,am,am,am,jgM];omega
  .have key:∀q,x∈kA (jR s.L q).2.1 (jR s.L q).2.2->x∈(jR s.L q).2.1.map (·.1)\/x∈P0 ws near N0++(P0 ws near N0).map (·+1):=fun q hq=>by
    rcases yl.mp hq with⟨z,hz,rfl⟩ | ⟨z,hz,rfl | rfl⟩
    .exact .inl (bf.mpr ⟨z,hz,rfl⟩)
    .exact .inr (iJ _ (hP q z hz))
    .exact .inr (cE _ (bf.mpr ⟨z.1,hP q z hz,rfl⟩))
   rcases hx with hx | hx
   .rcases key r hx with g | g
    .exact iJ _ (iJ _ g)
    .exact cE _ g
   .rcases key r' hx with g | g
    .exact iJ _ (cE _ g)
    .exact cE _ g
theorem some_of(h:L.map (·.1)=ks)(hr:r∈ks):(lkA L r).isSome=true:=by
 rw[<- h]at hr;obtain⟨z,hz,e⟩:=bf.mp hr;unfold lkA;rw[rB,ug];exact⟨z,hz,Qd e⟩
def KR(ks ws:List Str):Prop:=ks.Nodup/\∀j,j < 3->ws.getD (3+j) ""∈ks
def kY:Dx->Bool
 | .any _=>true
 | _=>false
theorem LInv.step{N0:List (Str×Int)}{tk:Nat}(h:LInv ks ws near N0 s)(K:KR ks ws)(ok:d.Ok ws near s.N s.L wr):LInv ks ws near N0 ⟨d.num v s.N s.L,d.row s.N s.L,s.i+1,tk⟩:=by
 have hN:=h.N;have hw:=h.w
 cases d with
 | set x t c=>exact⟨h.keys,h.st3,aZ (Ja _ _ _) (by dsimp only;omega),xQ hw,fun e=>absurd e (by show qH s.L≠s.i+1;omega)⟩
 | any x=>exact⟨h.keys,h.st3,aZ (Ja _ _ _) (by dsimp only;omega),xQ hw,fun e=>absurd e (by show qH s.L≠s.i+1;omega)⟩
 | claim C=>exact⟨h.keys,h.st3,(by show s.N.length<=2+(s.i+1);omega),xQ hw,fun e=>absurd e (by show qH s.L≠s.i+1;omega)⟩
 | put r x p t c=>
  obtain⟨_,⟨j,hj,rfl⟩,bC⟩:=ok;have hs:=some_of h.keys (K.2 j hj);have hsum:=jcO (p:=kr s.N x+p) (v:=t.val s.N s.L+c) (by rw[h.keys];exact K.1) hs;refine⟨(jdU hs).trans h.keys,fun r'=>?_,(by show s.N.length<=2+(s.i+1);omega),(by show qH (kM _ _ _)<=s.i+1;omega),fun e=>?_⟩
  .show (jR (kM _ _ _) r').2.1.length<=3
   rw[ZO hs];split
   .exact h.st3 _
   .exact h.st3 _
  .have e':qH s.L=s.i:=by
    have:qH (kM s.L _ _)=s.i+1:=e;omega
   obtain⟨h1,h2⟩:=h.all e';refine⟨h1,fun r' z hz=>?_⟩;have lJ:z∈(jR (kM s.L (ws.getD (3+j) "") (jcB (jR s.L (ws.getD (3+j) "")) (kr s.N x+p) (t.val s.N s.L+c))) r').2.2:=hz;rw[ZO hs]at lJ;split at lJ
   .rcases cZ.mp lJ with g | g
    .exact h2 _ z g
    .rw[bu.mp g,h1]
     exact jgL bC
   .exact h2 _ z lJ
section
variable {P:Pr}{inp:List Int}
theorem jdN(h:P.ds[s.i]?=some d)(hv:kY d=true->inp[s.tk]?=some v)(hc:∀C,d=.claim C->zH s.N s.L C=true):mst P inp (-1) s=.inr ⟨d.num v s.N s.L,d.row s.N s.L,s.i+1,s.tk+if kY d=true then 1 else 0⟩:=by
 unfold mst;rw[h];dsimp only;rw[Qf (by omega)]
 cases d with
 | set x t c=>rfl
 | put r x p t c=>rfl
 | any x=>dsimp only;rw[hv rfl];rfl
 | claim C=>dsimp only;rw[Zr,Qg (hc C rfl)];rfl
theorem jdO(h:P.ds[s.i]?=some (.any x))(hv:inp[s.tk]?=none):mst P inp (-1) s=.inl (.asks,s.i+1):=by
 unfold mst;rw[h];dsimp only;rw[Qf (by omega),hv]
theorem jaI(h:P.ds[s.i]?=some (.claim C))(hv:zH s.N s.L C=false):mst P inp (-1) s=.inl (.untrue P.f s.i,s.i+1):=by
 unfold mst;rw[h];dsimp only;rw[Qf (by omega),Zr,Qf (by rw[hv];decide)]
theorem yy:(∃r,mst P inp (-1) s=.inl r/\((P.ds[s.i]?=none/\r.2=s.i/\∀most,mst P inp most s=.inl r)\/((P.ds[s.i]?).isSome=true/\r.2=s.i+1)))\/∃s',mst P inp (-1) s=.inr s'/\s'.i=s.i+1/\(P.ds[s.i]?).isSome=true:=by
 unfold mst
 cases h:P.ds[s.i]? with
 | none=>exact .inl ⟨_,rfl,.inl ⟨rfl,rfl,fun _=>rfl⟩⟩
 | some d=>
  dsimp only;rw[Qf (by omega)]
  cases d with
  | set x t c=>exact .inr ⟨_,rfl,rfl,rfl⟩
  | put r x p t c=>exact .inr ⟨_,rfl,rfl,rfl⟩
  | any x=>
   dsimp only
   cases inp[s.tk]? with
   | none=>exact .inl ⟨_,rfl,.inr ⟨rfl,rfl⟩⟩
   | some v=>exact .inr ⟨_,rfl,rfl,rfl⟩
  | claim C=>
   dsimp only
   cases yC s.N s.L [C] with
   | some k=>exact .inl ⟨_,rfl,.inr ⟨rfl,rfl⟩⟩
   | none=>exact .inr ⟨_,rfl,rfl,rfl⟩
theorem ZK(h:(s.i:Int)≠most):mst P inp most s=mst P inp (-1) s:=by
 unfold mst
 cases P.ds[s.i]? with
 | none=>rfl
 | some d=>dsimp only;rw[Qf h,Qf (by omega)]
theorem Yk(h:(P.ds[s.i]?).isSome=true):mst P inp (s.i:Int) s=.inl (.spent,s.i):=by
 unfold mst
 cases e:P.ds[s.i]? with
 | none=>rw[e]at h;cases h
 | some d=>dsimp only;rw[Qg rfl]
theorem jeB{k:Nat}{r:En×Nat}(h:Runs P inp (-1) k s r):s.i<=r.2:=by
 induction h with
 | @stop s r o h=>
  rcases yy (P:=P) (inp:=inp) (s:=s) with⟨r',h1,h2⟩ | ⟨s',h1,_⟩
  .rw[h]at h1;cases h1
   rcases h2 with⟨_,h2,_⟩ | ⟨_,h2⟩ <;> omega
  .rw[h]at h1;cases h1
 | @more k s s' r o h t ih=>
  rcases yy (P:=P) (inp:=inp) (s:=s) with⟨r',h1,h2⟩ | ⟨lF,h1,h2,_⟩
  .rw[h]at h1;cases h1
  .rw[h]at h1;cases h1;omega
theorem ZA{k:Nat}{r:En×Nat}(h:Runs P inp (-1) k s r)(most:Nat):s.i<=most->(r.2<=most->∃k,Runs P inp most k s r)/\(most < r.2->∃k,Runs P inp most k s (.spent,most)):=by
 induction h with
 | @stop s r o h=>
  intro hi;rcases yy (P:=P) (inp:=inp) (s:=s) with⟨r',h1,h2⟩ | ⟨s',h1,_⟩
  .rw[h]at h1;cases h1
   rcases h2 with⟨_,h2,h3⟩ | ⟨h2,h3⟩
   .exact⟨fun _=>⟨0,.stop o (h3 _)⟩,fun z=>by omega⟩
   .rcases EO hi with c | c
    .exact⟨fun _=>⟨0,.stop o (by rw[ZK (by omega)];exact h)⟩,fun z=>by omega⟩
    .subst c
     exact⟨fun z=>by omega,fun _=>⟨0,.stop o (Yk h2)⟩⟩
  .rw[h]at h1;cases h1
 | @more k s s' r o h t ih=>
  intro hi;rcases yy (P:=P) (inp:=inp) (s:=s) with⟨r',h1,h2⟩ | ⟨lF,h1,h2,h3⟩
  .rw[h]at h1;cases h1
  .rw[h]at h1;cases h1
   have fV:=jeB t;rcases EO hi with c | c
   .obtain⟨a,b⟩:=ih (by omega)
    have hm:mst P inp most s=.inr s':=by rw[ZK (by omega)];exact h
    exact⟨fun z=>let ⟨k,t⟩:=a z;⟨k+1,.more o hm t⟩,fun z=>let ⟨k,t⟩:=b z;⟨k+1,.more o hm t⟩⟩
   .subst c
    exact⟨fun z=>by omega,fun _=>⟨0,.stop o (Yk h3)⟩⟩
end
abbrev jc9:au:=top 60
def RX(P:Pr)(inp:List Int)(s:Fm)(r:En×Nat):Prop:=∃k,Runs P inp (-1) k s r
def Ky:En->Bool
 | .done _ _=>true
 | _=>false
structure LC where
 f:Str
 ps:List Str
 rs:List Str
 ks:List Str
 ws:List Str
 near:Int
 N0:List (Str×Int)
 L0:List (Str×jB)
 lack:Nat
def LC.P(c:LC)(ds:List Dx):Pr:=⟨c.f,c.ps,c.rs,ds⟩
def LC.s0(c:LC):Fm:=⟨c.N0,c.L0,0,0⟩
structure BInv(c:LC)(ds:List Dx)(P:List Int)(s:Fm)(e:Option (En×Nat)):Prop where
 len:s.i=ds.length
 tk:s.tk=P.length
 tki:P.length<=ds.length
 inv:LInv c.ks c.ws c.near c.N0 s
 go:e=none->P.length<=c.lack/\∀kh more r,RX (c.P (ds++kh)) (P++more) s r->RX (c.P (ds++kh)) (P++more) c.s0 r
 end_:∀en u,e=some (en,u)->u<=ds.length/\Ky en=false/\∀kh more,(c.lack < P.length->more=[])->RX (c.P (ds++kh)) (P.take c.lack++more) c.s0 (en,u)
variable {c:LC}
theorem BInv.init(h:LInv c.ks c.ws c.near c.N0 c.s0):BInv c [] [] c.s0 none:=⟨rfl,rfl,ay _,h,fun _=>⟨bE _,fun _ _ _ z=>z⟩,fun _ _ z=>by cases z⟩
variable {ds:List Dx}
theorem Z3{kh:List Dx}(h:s.i=ds.length):(c.P (ds++d :: kh)).ds[s.i]?=some d:=by
 show (ds++d :: kh)[s.i]?=some d;rw[h,rF (ay _),Pd];rfl
theorem jdy(K:KR c.ks c.ws)(h:LInv c.ks c.ws c.near c.N0 s)(hi:s.i<=29)(ok:d.Ok c.ws c.near s.N s.L wr):okD s d:=by
 cases d with
 | set _ _ _=>trivial
 | any _=>trivial
 | claim _=>exact h.fit hi
 | put r x p t c'=>
  obtain⟨_,⟨j,hj,rfl⟩,_⟩:=ok;exact some_of h.keys (K.2 j hj)
theorem BInv.next{P P':List Int}{e e':Option (En×Nat)}(K:KR c.ks c.ws)(h:BInv c ds P s e)(hi:ds.length<=29)(ok:d.Ok c.ws c.near s.N s.L wr)(hP:P'=if kY d=true then P++[v] else P)
  (he:e'=match e with
   | some x=>some x
   | none=>if kY d=true/\P.length=c.lack then some (.asks,ds.length+1) else if wr=true then some (.untrue c.f ds.length,ds.length+1) else none) :
  BInv c (ds++[d]) P' ⟨d.num v s.N s.L,d.row s.N s.L,s.i+1,P'.length⟩ e':=by
 have iS:s.i<=29:=by rw[h.len];exact hi
 have r9:=fun (kh:List Dx) (d':Dx) (z:(c.P (ds++d :: kh)).ds[s.i]?=some d')=>by
  rw[Z3 h.len]at z;exact (dW z) ▸ jdy K h.inv iS ok
 have sV:∀kh,ds++[d]++kh=ds++d :: kh:=fun kh=>by rw[dI];rfl
 have Fj:wr=true->∃C,d=.claim C/\zH s.N s.L C=false:=fun z=>by
  cases d with
  | set _ _ _=>exact absurd ok.1 (by rw[z];decide)
  | any _=>exact absurd ok.1 (by rw[z];decide)
  | put _ _ _ _ _=>exact absurd ok.1 (by rw[z];decide)
  | claim C=>exact⟨C,rfl,by have:zH s.N s.L C=!wr:=ok;rw[this,z];rfl⟩
 have CJ:wr=false->∀C,d=.claim C->zH s.N s.L C=true:=fun z C y=>by
  subst y;have:zH s.N s.L C=!wr:=ok;rw[this,z];rfl
 have fm:P'.length=P.length+if kY d=true then 1 else 0:=by
  rw[hP];split
  .rw[aP];rfl
  .rfl
 have uH:(ds++[d]).length=ds.length+1:=by rw[aP];rfl
 refine⟨by rw[uH,h.len],rfl,?_,h.inv.step K ok,fun z=>?_,fun en u z=>?_⟩
 .rw[fm,uH]
  have:=h.tki
  split <;> omega
 ·-- no end so far
  cases e with
  | some x=>rw[z]at he;cases he
  | none=>
   rw[z]at he
   dsimp only at he
   by_cases c1:kY d=true/\P.length=c.lack
   .rw[Qg c1]at he;cases he
   rw[Qf c1]at he
   have c2:wr=false:=by
    cases wr with
    | true=>rw[Qg rfl]at he;cases he
    | false=>rfl
   obtain⟨g1,g2⟩:=h.go rfl
   refine⟨?_,fun kh more r hr=>?_⟩
   .rw[fm]
    split
    .next a=>have:P.length≠c.lack:=fun y=>c1 ⟨a,y⟩;omega
    .omega
   .rw[sV]at hr |-
    by_cases a:kY d=true
    .rw[Qg a]at hP
     rw[hP,dI]at hr |-
     refine g2 (d :: kh) ([v]++more) r ?_
     obtain⟨k,hr⟩:=hr
     refine⟨k+1,.more (r9 kh) (jdN (v:=v) (Z3 h.len) (fun _=>?_) (CJ c2)) ?_⟩
     .rw[h.tk,rF (ay _),Pd];rfl
     .rw[Qg a,h.tk]
      rw[aP]at hr
      exact hr
    .rw[Qf a]at hP
     rw[hP]at hr |-
     refine g2 (d :: kh) more r ?_
     obtain⟨k,hr⟩:=hr
     refine⟨k+1,.more (r9 kh) (jdN (v:=v) (Z3 h.len) (fun y=>absurd y a) (CJ c2)) ?_⟩
     rw[Qf a,h.tk]
     exact hr
 ·-- an end
  rw[uH]
  cases e with
  | some x=>
   rw[z]at he
   cases he
   obtain⟨g1,g2,g3⟩:=h.end_ en u rfl
   refine⟨by omega,g2,fun kh more hm=>?_⟩
   rw[sV]
   by_cases a:kY d=true
   .rw[Qg a]at hP
    rw[Qg a]at fm
    rcases eJ P.length c.lack with b | b
    .rw[hP,iH (by rw[<- hP,fm];omega),dI]
     have:=g3 (d :: kh) ([v]++more) (fun y=>by omega)
     rw[iH (cQ b)]at this
     exact this
    .rw[hP,ES b]
     exact g3 (d :: kh) more (fun y=>hm (by omega))
   .rw[Qf a]at hP fm
    rw[hP]
    exact g3 (d :: kh) more (fun y=>hm (by omega))
  | none=>
   obtain⟨g1,g2⟩:=h.go rfl
   rw[z]at he
   dsimp only at he
   by_cases c1:kY d=true/\P.length=c.lack
   .rw[Qg c1]at he
    cases he
    refine⟨ay _,rfl,fun kh more hm=>?_⟩
    rw[Qg c1.1]at hP fm
    have io:=hm (by omega)
    subst io
    rw[sV,hP,ES (by omega),iH (by omega)]
    refine g2 (d :: kh) [] _ ?_
    obtain⟨x,rfl⟩:∃x,d=.any x:=by
     cases d with
     | any x=>exact⟨x,rfl⟩
     | set _ _ _=>exact absurd c1.1 bB
     | put _ _ _ _ _=>exact absurd c1.1 bB
     | claim _=>exact absurd c1.1 bB
    have:=jdO (P:=c.P (ds++.any x :: kh)) (inp:=P++[]) (Z3 h.len) (by rw[h.tk,dj];exact xX (ay _))
    rw[h.len]at this
    exact⟨0,.stop (r9 kh) this⟩
   .rw[Qf c1]at he
    have c2:wr=true:=by
     cases wr with
     | true=>rfl
     | false=>rw[Qf (by decide)]at he;cases he
    rw[Qg c2]at he
    cases he
    obtain⟨C,rfl,hC⟩:=Fj c2
    refine⟨ay _,rfl,fun kh more hm=>?_⟩
    have LA:P'=P:=by rw[hP];exact Qf bB
    rw[sV,LA,iH g1]
    refine g2 (.claim C :: kh) more _ ?_
    have:=jaI (P:=c.P (ds++.claim C :: kh)) (inp:=P++more) (Z3 h.len) hC
    rw[h.len]at this
    exact⟨0,.stop (r9 kh) this⟩
theorem jec(ns:List Int):∃ms:List Int,kN (ns.map V.int) (some 4) (some 34)=ms.map V.int/\ms.length<=30:=by
 refine⟨(ns.drop (HT.sIx (ns.map V.int).length 0 (some 4))).take (HT.sIx (ns.map V.int).length (ns.map V.int).length (some 34) - HT.sIx (ns.map V.int).length 0 (some 4)),by unfold kN;rw[List.map_take,List.map_drop],?_⟩;rw[a_];generalize (ns.map V.int).length=n;have h:HT.sIx n n (some 34) - HT.sIx n 0 (some 4)<=30:=by
  unfold HT.sIx;dsimp only;rw[Qf (by decide),Qf (by decide)];have e1:aL 34=34:=rfl;have e2:aL 4=4:=rfl;rw[e1,e2];omega
 omega
def EvIs(K:ai)(G:Hp)(ev:V):Option (En×Nat)->Prop
 | none=>ev=.non
 | some (en,u)=>Ky en=false/\∃t a,ev=.ref t/\G t=some (.tup [a,.int u])/\EndAt K G en a
variable {G':Hp}
theorem EndAt.tk(t:TK G G'):∀{e:En} {v:V},Ky e=false->EndAt K G e v->EndAt K G' e v
 | .done _ _,_,h,_=>by cases h
 | .spent,_,_,⟨a,h1,h2⟩=>⟨a,h1,t _ _ h2⟩
 | .asks,_,_,⟨a,h1,h2⟩=>⟨a,h1,t _ _ h2⟩
 | .untrue _ _,_,_,⟨a,vp,h1,h2,h3⟩=>⟨a,vp,h1,t _ _ h2,t.held h3⟩
variable {ev:V}
theorem EvIs.tk(t:TK G G'):∀{e:Option (En×Nat)},EvIs K G ev e->EvIs K G' ev e
 | none,h=>h
 | some (en,u),⟨h0,a,b,h1,h2,h3⟩=>⟨h0,a,b,h1,t _ _ h2,h3.tk t h0⟩
theorem Kc{a:aa}{xs:List V}(s:Same H H')(h:SqL K H a xs):SqL K H' a xs:=by
 rcases h with (h | ⟨o,h⟩) | h
 .exact .inl (.inl (s _ _ h))
 .exact .inl (.inr ⟨o,s _ _ h⟩)
 .exact .inr h
theorem jgA(d:Dx):∃k r,d.toD=.tup (.str k :: r)/\(k = "any"↔kY d=true):=by
 cases d
 .exact⟨"set",_,rfl,fun h=>absurd h (by decide),fun h=>by cases h⟩
 .exact⟨"put",_,rfl,fun h=>absurd h (by decide),fun h=>by cases h⟩
 .exact⟨"any",_,rfl,fun _=>rfl,fun _=>rfl⟩
 .exact⟨"claim",_,rfl,fun h=>absurd h (by decide),fun h=>by cases h⟩
def aE(c:LC)(d:Dx)(P:List Int)(i:Nat):Option (En×Nat)->Option (En×Nat)
 | some x=>some x
 | none=>if kY d=true/\P.length=c.lack then some (.asks,i+1) else none
def wE(c:LC)(wr:Bool)(i:Nat):Option (En×Nat)->Option (En×Nat)
 | some x=>some x
 | none=>if wr=true then some (.untrue c.f i,i+1) else none
theorem EvIs.non:∀{e:Option (En×Nat)},EvIs K G ev e->(ev=.non↔e=none)
 | none,h=>⟨fun _=>rfl,fun _=>h⟩
 | some (en,u),⟨_,t,a,h,_⟩=>⟨fun z=>(by rw[h]at z;cases z),fun z=>(by cases z)⟩
structure BLoc where
 m:aa
 n:aa
 il:aa
 bl:aa
def BLoc.Kp(q:BLoc)(H G:Hp):Prop:=∀b o,b≠q.m->b≠q.n->b≠q.il->b≠q.bl->H b=some o->G b=some o
structure LAt(K:ai)(c:LC)(q:BLoc)(H0:Hp)(i:Nat)(G:Hp)(ev:V)(ds:List Dx)(P:List Int)(s:Fm)(e:Option (En×Nat))(aA:List (Key×V))(bD:List V):Prop where
 kp:q.Kp H0 G
 bl:G q.bl=some (.lst bD)
 held:HeldL G (ds.map Dx.toD) bD
 len:ds.length=i
 inv:BInv c ds P s e
 m:G q.m=some (.dK (nKV s.N))
 n:G q.n=some (.dK aA)
 rows:RP (LF G i) aA s.L
 il:G q.il=some (.lst ((P.take c.lack).map V.int))
 ev:EvIs K G ev e
theorem LAt.same{q:BLoc}{H0:Hp}{P:List Int}{e:Option (En×Nat)}{aA:List (Key×V)}{bD:List V}(h:LAt K c q H0 i G ev ds P s e aA bD)(z:Same G G'):LAt K c q H0 i G' ev ds P s e aA bD:=
 ⟨fun b o b1 b2 b3 b4 y=>z _ _ (h.kp b o b1 b2 b3 b4 y),z _ _ h.bl,h.held.mono z,h.len,h.inv,z _ _ h.m,z _ _ h.n,RP.imp (fun _ _ y=>LF.tk (TK.same z) y) h.rows,z _ _ h.il,h.ev.tk (TK.same z)⟩
inductive spBody(K:ai)(vs:List V)(H:Hp)(Q:VK)(E:XK):Prop
 | mk (c:LC) (a l m n il:aa) (ns:List Int) (aA:List (Key×V)) (_:vs=[.ref a,.ref l,.int c.near,.ref m,.ref n,.ref il,.int c.lack]) (_:SqL K H a (ns.map V.int)) (_:jgJ H l c.ws c.near) (_:c.f=c.ws.getD 6 "") (_:H m=some (.dK (nKV c.N0))) (_:H n=some (.dK aA)) (_:RP (LF H 0) aA c.L0) (_:H il=some (.lst [])) (_:m≠n) (_:LInv c.ks c.ws c.near c.N0 c.s0) (_:c.ks.length<=3) (_:KR c.ks c.ws) (_:∀(r bl:aa) (ev:V) (ds:List Dx) (P:List Int) (s:Fm) (e:Option (En×Nat)) (cR:List (Key×V)) (bD:List V) (H':Hp),(∀b o,b≠m->b≠n->b≠il->H b=some o->H' b=some o)->H' r=some (.tup [.ref bl,ev])->H' bl=some (.lst bD)->HeldL H' (ds.map Dx.toD) bD->ds.length<=30->BInv c ds P s e->H' m=some (.dK (nKV s.N))->H' n=some (.dK cR)->RP (LF H' s.i) cR s.L->H' il=some (.lst ((P.take c.lack).map V.int))->EvIs K H' ev e->Q (.ref r) H')
section
variable {P:av}
theorem jfa(F:Fun K "_law_body" "_law_body" jc9 f fd)(B:Free0 mg)(iw:mg "enumerate" = none)(eC:Fn P w K mg base 1 "_law_cell_at" ["_law_script","_law_k"] (spCell K))(cP:Fn P w K mg base 1 "_law_mix" ["_law_seed","_law_k"] spMix)(wy:Fn P w K mg base 4 "_law_statement" ["_law_seed","_law_w","_law_near","_law_numbers","_law_rows","_law_wrong"] spStat)(wL:Fn P w K mg base 3 "_law_done" ["_law_statement_here","_law_numbers","_law_rows","_law_pick"] spDone):FnOk P w K mg base CX0 5 f fd ["_law_script","_law_w","_law_near","_law_numbers","_law_rows","_law_inputs","_law_lacking"] (spBody K):=by
 have sc:FnScope ["_law_script","_law_w","_law_near","_law_numbers","_law_rows","_law_inputs","_law_lacking","_law_body_here","_law_end_here","_law_wrong","_law_used","_law_k","_law_cell","_law_seed","_law_statement_here","_law_pick"] ["_law_script","_law_w","_law_near","_law_numbers","_law_rows","_law_inputs","_law_lacking"] (jn jc9):=fQ;refine F.okZ sc (fun az A outer s H vs Q E hr h=>?_);obtain⟨c,a,l,m,n,il,ns,aA,rfl,ha,⟨hl,uS,dO,cU⟩,BR,hm,hn,hV,cV,lR,hI,lT,hK,q⟩:=h;have hu:=qO hr;refine⟨_,(jh (jF (i:=7) sc.nd rfl oQ (qj jj))
   (jh (jF (i:=8) sc.nd rfl oQ kD)
   (jh (jF (i:=9) sc.nd rfl oQ (J5 J9 jf))
   (jh (qi (j9 (jL j5 (jK jM (jQ eC hr (jd (zpv 0) (jd jf jj))) jf) jf (ju _)) (jt (jF (i:=9) sc.nd rfl oQ (jK jM (jK jS (jQ eC hr (jd (zpv 0) (jd jf jj))) jf) jf))) jX))
   (jh (jF (i:=10) sc.nd rfl oQ jf)
   (jh (JT dS rfl (jcF (by rfl) iw (jd (qz JW (zpv 0) (kQ jf) (kQ jf)) jj)) (zG rfl (kn (ke (i:=11) sc.nd rfl oQ) (kn (ke (i:=12) sc.nd rfl oQ) qY))) (jh (jF (i:=13) sc.nd rfl oQ (jQ cP hr (jd (jK jM (zpv 12) jf) (jd (zpv 11) jj))))
   (jh (jF (i:=14) sc.nd rfl oQ (jQ wy hr (jd (zpv 13) (jd (zpv 1) (jd (zpv 2) (jd (zpv 3) (jd (zpv 4) (jd (J6 j5 (zpv 11) (zpv 9) (ju _)) jj))))))))
   (jh (qb (YE eU mD mC kR (zpv 7) (jd (zpv 14) jj)))
   (jh (jF (i:=15) sc.nd rfl oQ (jK kO (jK jU (zpv 2) (jK jM (zpv 13) jf)) jf))
   (jh (qi (j9 (jL j5 (jC jq (zpv 14) jf (fun _ _=>rfl)) jJ (ju _)) (jh (qi (j9 (yo (jL j5 (zpv 10) (zpv 6) (ju _)) (zt (jL Jx (zpv 8) kD (ju _)))).pt (jt (jF (i:=8) sc.nd rfl oQ (jO (jd (jO (jd jJ jj)) (jd (jK jU (zpv 11) jf) jj))))) jX))
   (jh (jF (i:=10) sc.nd rfl oQ (jK jU (zpv 10) jf))
   (jt (j9 (jL zV (zpv 10) (zpv 6) (ju _)) (jt (qb (YE eU mD mC kR (zpv 5) (jd (zpv 15) jj)))) jX)))) jX))
   (jh (qi (j9 (yo (jL j5 (zpv 11) (zpv 9) (ju _)) (zt (jL Jx (zpv 8) kD (ju _)))).pt (jt (jF (i:=8) sc.nd rfl oQ (jO (jd (jO (jd jJ (jd (jC jG (zpv 1) jf (fun _ _=>rfl)) (jd jJ (jd (jO (jd (zpv 11) jj)) (jd jf jj)))))) (jd (jK jU (zpv 11) jf) jj))))) jX))
   (jt (qb (jQ wL hr (jd (zpv 14) (jd (zpv 3) (jd (zpv 4) (jd (zpv 15) jj))))))))))))))
   (jt (j8 (jO (jd (zpv 7) (jd (zpv 8) jj))))))))))),?_⟩
 refine zU (σ':=[some (.ref a),some (.ref l),some (.int c.near),some (.ref m),some (.ref n),some (.ref il),some (.int c.lack),none,none,none,none,none,none,none,none,none]) rfl ?_
 try dsimp only[JQ]
 refine⟨sm rfl,fun bl gg=>?_⟩;have s1:=jb gg (.lst []);have e1:upd H bl (.lst []) bl=some (.lst []):=ja;generalize upd H bl (.lst [])=H1 at *;refine gQ ?_;refine⟨_,rfl,?_⟩;refine gQ ?_;refine⟨fun σ G=>∃W:Int,σ=[some (.ref a),some (.ref l),some (.int c.near),some (.ref m),some (.ref n),some (.ref il),some (.int c.lack),some (.ref bl),some .non,some (.int W),none,none,none,none,none,none]/\Same H1 G,?_,?_⟩
 .refine⟨_,rfl,a,ns,2,rfl,Kc s1 ha,by decide,by decide,fun c1=>?_⟩
  refine⟨_,_,rfl,rfl,(by show (0:Int) < _;decide),rfl,_,rfl,j7 (fun _=>?_) (fun _=>⟨_,rfl,Same.refl _⟩)⟩;refine⟨_,rfl,a,ns,2,rfl,Kc s1 ha,by decide,by decide,fun c2=>?_⟩;exact⟨_,_,rfl,rfl,⟨by decide,by decide⟩,_,_,rfl,rfl,(by show (0:Int) < _;decide),_,rfl,Same.refl _⟩
 rintro σ G ⟨W,rfl,sG⟩;have uy:=s1.trans sG;have BW:=sG _ _ e1;have Lo:=Kc uy ha;refine⟨_,rfl,4,rfl,34,rfl,a,_,rfl,Lo,fun p hp=>?_⟩;obtain⟨cs,Mj,Lf⟩:=jec ns;rw[Mj];have s2:=jb hp (.lst (cs.map V.int));have e2:upd G p (.lst (cs.map V.int)) p=some (.lst (cs.map V.int)):=ja;have bL:=uy.trans s2;have BV:=s2 _ _ BW;have gI:∀b o,H b=some o->b≠bl:=fun b o z y=>by rw[y,gg]at z;cases z
 have FU:p≠bl:=fun z=>by rw[z,BW]at hp;cases hp
 have uB:∀b o,H b=some o->b≠p:=fun b o z y=>by have:=uy _ _ z;rw[y,hp]at this;cases this
 generalize upd G p (.lst (cs.map V.int))=H2 at *;have LI:LAt K c ⟨m,n,il,bl⟩ H2 0 H2 .non [] [] c.s0 none aA []:=⟨fun b o _ _ _ _ z=>z,BV,jp,rfl,.init hI,bL _ _ hm,bL _ _ hn,RP.imp (fun _ _ y=>LF.tk (TK.same bL) y) hV,by rw[List.take_nil];exact bL _ _ cV,rfl⟩
 have Fp:∀{G':Hp},BLoc.Kp ⟨m,n,il,bl⟩ H2 G'->TK H2 G':=fun k b xs z=>k b _ (j6 z (bL _ _ hm) (by intro y;cases y)) (j6 z (bL _ _ hn) (by intro y;cases y)) (j6 z (bL _ _ cV) (by intro y;cases y)) (j6 z BV (by intro y;cases y)) z
 have sD:p≠m/\p≠n/\p≠il/\p≠bl:=⟨fun y=>uB _ _ hm y.symm,fun y=>uB _ _ hn y.symm,fun y=>uB _ _ cV y.symm,FU⟩
 refine⟨p,rfl,⟨_,SqL.of e2⟩,?_⟩;let Pv:Nat->L2.St->Hp->Prop:=fun i σ G=>∃(ev:V) (rN rK om oj oh:Option V) (ds:List Dx) (P:List Int) (s:Fm) (e:Option (En×Nat)) (cR:List (Key×V)) (bD:List V),σ=[some (.ref a),some (.ref l),some (.int c.near),some (.ref m),some (.ref n),some (.ref il),some (.int c.lack),some (.ref bl),some ev,some (.int W),some (.int (P.length:Int)),rN,rK,om,oj,oh]/\LAt K c ⟨m,n,il,bl⟩ H2 i G ev ds P s e cR bD
 refine jd4 (xs:=cs.map V.int) Pv ⟨.non,none,none,none,none,none,[],[],c.s0,none,aA,[],rfl,LI⟩ ?_ ?_ ?_
 .rintro i σ G' _ ⟨ev,rN,rK,om,oj,oh,ds,P,s,e,cR,bD,rfl,hA⟩
  exact SqL.of (hA.kp _ _ sD.1 sD.2.1 sD.2.2.1 sD.2.2.2 e2)
 .rintro i y σ G' t hy ⟨ev,rN,rK,om,oj,oh,ds,P,s,e,cR,bD,rfl,hA⟩ ht
  have hi:i < cs.length:=by have:=(aV.mp hy).1;rwa [am]at this
  rw[bA,aC hi]at hy
  cases hy
  generalize cs[i]=cv at *;have s3:=jb ht (.tup [V.int i,V.int cv]);have e3:upd G' t (.tup [V.int i,V.int cv]) t=some (.tup [V.int i,V.int cv]):=ja;have cn:=hA.same s3;generalize upd G' t (.tup [V.int i,V.int cv])=G3 at *;clear hA s3;refine⟨t,_,rfl,SqT.of e3,rfl,_,_,rfl,_,_,rfl,rfl,?_⟩;refine zU (σ':=[some (.ref a),some (.ref l),some (.int c.near),some (.ref m),some (.ref n),some (.ref il),some (.int c.lack),some (.ref bl),some ev,some (.int W),some (.int (P.length:Int)),some (.int i),some (.int cv),om,oj,oh]) rfl ?_;refine⟨_,rfl,_,_,rfl,rfl,(by show (0:Int) < _;decide),_,rfl,_,_,rfl,fun sd=>?_⟩;refine gQ ?_;have hws:=(Fp cn.kp)
  have nl:l≠m/\l≠n/\l≠il/\l≠bl:=⟨j6 hl hm (by intro y;cases y),j6 hl hn (by intro y;cases y),(fun y=>by rw[y,cV]at hl;have:=Qi (fun o=>match o with | some (.lst xs)=>xs.length | _=>0) hl;dsimp only at this;rw[am,uS]at this;cases this),gI _ _ hl⟩
  have vn:G3 l=some (.lst (c.ws.map V.str)):=cn.kp _ _ nl.1 nl.2.1 nl.2.2.1 nl.2.2.2 (bL _ _ hl);have iS:s.i=i:=cn.inv.len.trans cn.len;have Bz:s.i<=29:=by omega
  refine⟨_,rfl,_,rfl,_,rfl,_,rfl,_,rfl,_,rfl,_,rfl,rfl,sd,c.near,l,m,n,decide (V.int (i:Int)=V.int W),i,c.ws,s.N,cR,s.L,rfl,⟨vn,uS,dO,cU⟩,cn.m,cn.n,cn.rows,by omega,cn.inv.inv.fit Bz,fun u d G4 t4 hd hok=>?_⟩;generalize hwr:decide (V.int (i:Int)=V.int W)=wr at *;refine gQ ?_;have ci:=cn.same t4;have Br:=t4 _ _ vn;clear cn t4 e3 vn;have Lj:=ci.held.length;rw[am,ci.len]at Lj;refine⟨_,rfl,.inl ⟨rfl,_,SqL.of ci.bl⟩,_,rfl,bl,_,_,rfl,rfl,ci.bl,jw (by omega),?_⟩;have gD:TK G4 (upd G4 bl (.lst (bD++[u]))):=TK.upd ci.bl (fun _ z=>by cases z);have k5:∀b o,b≠bl->G4 b=some o->upd G4 bl (.lst (bD++[u])) b=some o:=fun b o hb z=>by rw[jl hb];exact z
  have e5:upd G4 bl (.lst (bD++[u])) bl=some (.lst (bD++[u])):=ja;generalize upd G4 bl (.lst (bD++[u]))=G5 at *;refine⟨_,rfl,_,rfl,_,_,rfl,rfl,(by show (0:Int) < _;decide),_,_,rfl,rfl,_,_,rfl,rfl,?_⟩;dsimp only;generalize c.near+sd % 7 - 3=v at *;refine gQ ?_;obtain⟨kd,r',ed,Bu⟩:=jgA d;have K_:=gD.held hd;obtain⟨ya,xs,rfl,tj,aY⟩:=Ys (ed ▸ K_);refine⟨fun σ G6=>∃dE,σ=[some (.ref a),some (.ref l),some (.int c.near),some (.ref m),some (.ref n),some (.ref il),some (.int c.lack),some (.ref bl),some dE,some (.int W),some (.int ((if kY d=true then P++[v] else P).length:Int)),some (.int i),some (.int cv),some (.int sd),some (.ref ya),some (.int v)]/\(∀b o,b≠il->G5 b=some o->G6 b=some o)/\G6 il=some (.lst (((if kY d=true then P++[v] else P).take c.lack).map V.int))/\EvIs K G6 dE (aE c d P i e),?_,?_⟩
  .refine⟨_,rfl,ya,_,_,_,rfl,rfl,SqT.of tj,J4,rfl,_,rfl,j7 (fun z=>?_) (fun z=>?_)⟩
   .have pG:kY d=true:=Bu.mp (by have:=Qc z;injection this)
    rw[Qg pG];have sU:=ci.ev.tk gD;have i3:=k5 _ _ (fun y=>gI _ _ cV y) ci.il;refine⟨fun σ G6=>∃dE,σ=[some (.ref a),some (.ref l),some (.int c.near),some (.ref m),some (.ref n),some (.ref il),some (.int c.lack),some (.ref bl),some dE,some (.int W),some (.int (P.length:Int)),some (.int i),some (.int cv),some (.int sd),some (.ref ya),some (.int v)]/\Same G5 G6/\EvIs K G6 dE (aE c d P i e),?_,?_⟩
    .have bN:¬(P.length=c.lack/\e=none)->EvIs K G5 ev (aE c d P i e):=fun y=>by
      cases e with
      | some x=>exact sU
      | none=>
       unfold aE;rw[Qf (fun z=>y ⟨z.2,rfl⟩)];exact sU
     refine⟨_,rfl,_,rfl,rfl,_,rfl,j7 (fun z1=>?_) (fun z1=>?_)⟩
     .have fm:P.length=c.lack:=by have:=Qc z1;injection this with this;omega
      refine⟨_,rfl,rfl,_,rfl,j7 (fun z2=>?_) (fun z2=>?_)⟩
      .have he:e=none:=sU.non.mp (Qc z2)
       refine⟨sm rfl,fun t1 cL=>?_⟩;have s6:=jb cL (.tup [V.str "asks"]);have e6:upd G5 t1 (.tup [V.str "asks"]) t1=some (.tup [V.str "asks"]):=ja;generalize upd G5 t1 (.tup [V.str "asks"])=G6 at *;refine⟨_,rfl,_,_,rfl,rfl,sm rfl,fun t2 ie=>?_⟩;have s7:=jb ie (.tup [V.ref t1,V.int ((i:Int)+1)]);refine⟨_,rfl,s6.trans s7,?_⟩;subst he;unfold aE;rw[Qg ⟨pG,fm⟩];exact⟨rfl,t2,_,rfl,ja,t1,rfl,s7 _ _ e6⟩
      .exact⟨ev,rfl,Same.refl _,bN fun y=>z2 (Qd (sU.non.mpr y.2))⟩
     .exact⟨ev,rfl,Same.refl _,bN fun y=>z1 (Qd (by rw[y.1]))⟩
    rintro σ G6 ⟨dE,rfl,s6,lW⟩;have nn:=s6 _ _ i3;refine⟨_,rfl,_,_,rfl,rfl,?_⟩;refine gQ ?_;have aT:((P.length:Int)+1)=((P++[v]).length:Int):=by rw[aP];rfl
    refine⟨_,rfl,_,rfl,_,_,rfl,rfl,_,rfl,j7 (fun z1=>?_) (fun z1=>?_)⟩
    .have fm:P.length+1<=c.lack:=by have:=Qc z1;omega
     refine⟨_,rfl,.inl ⟨rfl,_,SqL.of nn⟩,_,rfl,il,_,_,rfl,rfl,nn,jw (by rw[am,a_];have:=ci.inv.tki;have:=ci.len;omega),?_⟩;refine⟨dE,by rw[aT],fun b o hb y=>by rw[jl hb];exact s6 _ _ y,?_,lW.tk (TK.upd nn (fun _ z=>by cases z))⟩;rw[ja,iH (by omega),iH (by rw[aP];show P.length+1<=_;omega),aX];rfl
    .have fm:c.lack<=P.length:=by
      rcases eJ P.length c.lack with g | g
      .exact absurd (Qd (by omega)) z1
      .exact g
     refine⟨dE,by rw[aT],fun b o _ y=>s6 _ _ y,?_,lW⟩;rw[ES fm];exact nn
   .have pG:¬kY d=true:=fun y=>z (Qd (by rw[Bu.mpr y]))
    rw[Qf pG];have i3:=k5 _ _ (fun y=>gI _ _ cV y) ci.il;refine⟨ev,rfl,fun b o _ z=>z,i3,?_⟩;have:=ci.ev.tk gD
    cases e with
    | some x=>exact this
    | none=>
     unfold aE;rw[Qf (fun y=>pG y.1)];exact this
  rintro σ G6 ⟨dE,rfl,k6,nn,lW⟩;have i3:=k5 _ _ (fun y=>gI _ _ cV y) ci.il;have AC:il≠m:=j6 cV hm (by intro y;cases y);have AB:il≠n:=j6 cV hn (by intro y;cases y);have Iw:=k6 _ _ nl.2.2.1 (k5 _ _ nl.2.2.2 Br);have uP:=kH (xs:=c.ws) (i:=6) (by decide) (by rw[uS];decide);have rP:TK G5 G6:=fun b xs z=>k6 b _ (j6 z i3 (by intro y;cases y)) z
  generalize hP1:(if kY d=true then P++[v] else P)=P1 at *;generalize lX:aE c d P i e=e1 at *;clear Br;refine⟨fun σ G7=>∃fu,σ=[some (.ref a),some (.ref l),some (.int c.near),some (.ref m),some (.ref n),some (.ref il),some (.int c.lack),some (.ref bl),some fu,some (.int W),some (.int (P1.length:Int)),some (.int i),some (.int cv),some (.int sd),some (.ref ya),some (.int v)]/\Same G6 G7/\EvIs K G7 fu (wE c wr i e1),?_,?_⟩
  .have bN:¬(wr=true/\e1=none)->EvIs K G6 dE (wE c wr i e1):=fun y=>by
    cases e1 with
    | some x=>exact lW
    | none=>
     unfold wE;rw[Qf (fun z=>y ⟨z,rfl⟩)];exact lW
   refine⟨_,rfl,_,rfl,rfl,_,rfl,j7 (fun z1=>?_) (fun z1=>?_)⟩
   .have sr:wr=true:=by rw[<- hwr];exact z1
    refine⟨_,rfl,rfl,_,rfl,j7 (fun z2=>?_) (fun z2=>?_)⟩
    .have he:e1=none:=lW.non.mp (Qc z2)
     refine⟨_,rfl,l,_,_,_,rfl,rfl,SqL.of Iw,uP,_,rfl,sm rfl,fun t1 cL=>?_⟩;have s7:=jb cL (.tup [V.int (i:Int)]);have e7:upd G6 t1 (.tup [V.int (i:Int)]) t1=some (.tup [V.int (i:Int)]):=ja;generalize upd G6 t1 (.tup [V.int (i:Int)])=G7 at *;refine⟨sm rfl,fun t2 ie=>?_⟩;have s8:=jb ie (.tup [V.str "untrue",V.str (c.ws.getD (aL 6) ""),V.str "claim",V.ref t1,V.int 0]);have e8:upd G7 t2 (.tup [V.str "untrue",V.str (c.ws.getD (aL 6) ""),V.str "claim",V.ref t1,V.int 0]) t2=some (.tup [V.str "untrue",V.str (c.ws.getD (aL 6) ""),V.str "claim",V.ref t1,V.int 0]):=ja;generalize upd G7 t2 (.tup [V.str "untrue",V.str (c.ws.getD (aL 6) ""),V.str "claim",V.ref t1,V.int 0])=G8 at *;refine⟨_,rfl,_,_,rfl,rfl,sm rfl,fun t3 sv=>?_⟩;have s9:=jb sv (.tup [V.ref t2,V.int ((i:Int)+1)]);refine⟨_,rfl,s7.trans (s8.trans s9),?_⟩;rw[he];unfold wE;rw[Qg sr];refine⟨rfl,t3,_,rfl,ja,t2,.ref t1,rfl,?_,JC ((s8.trans s9) _ _ e7)⟩;rw[BR];exact s9 _ _ e8
    .exact⟨dE,rfl,Same.refl _,bN fun y=>z2 (Qd (lW.non.mpr y.2))⟩
   .exact⟨dE,rfl,Same.refl _,bN fun y=>z1 (by rw[hwr];exact y.1)⟩
  rintro σ G7 ⟨fu,rfl,s7,IY⟩;have uj:TK G4 G7:=fun b xs z=>s7 _ _ (rP _ _ (gD _ _ z))
  have Bg:=s7 _ _ (k6 _ _ (aO AC) (k5 _ _ (gI _ _ hm) ci.m));have pd:=s7 _ _ (k6 _ _ (aO AB) (k5 _ _ (gI _ _ hn) ci.n));have Li:=s7 _ _ (k6 _ _ (aO (gI _ _ cV)) e5);have II:=s7 _ _ nn;have hLl:s.L.length<=3:=by have:=Qi lz ci.inv.inv.keys;rw[am]at this;omega
  have LD:=ci.inv.inv.N;refine⟨_,rfl,_,rfl,_,rfl,_,rfl,.ref ya,d,m,n,v,i,s.N,cR,s.L,rfl,uj.held hd,Bg,pd,RP.imp (fun _ _ y=>LF.tk uj y) ci.rows,lR,by omega,by omega,by omega,fun r x p t c' y=>by have:=jdy hK ci.inv.inv Bz hok;rw[y]at this;exact this,fun Gb G8 k8 Ii HY Lq=>?_⟩;have Ag:TK G7 G8:=fun b xs z=>k8 b _ (j6 z Bg (by intro y;cases y)) (j6 z pd (by intro y;cases y)) z
  have Ah:TK G4 G8:=fun b xs z=>Ag _ _ (uj _ _ z)
  refine⟨fu,_,_,_,_,_,ds++[d],P1,⟨d.num v s.N s.L,d.row s.N s.L,s.i+1,P1.length⟩,wE c wr i e1,Gb,bD++[.ref ya],rfl,fun b o b1 b2 b3 b4 z=>k8 b o b1 b2 (s7 _ _ (k6 _ _ b3 (k5 _ _ b4 (ci.kp b o b1 b2 b3 b4 z)))),k8 _ _ (aO (gI _ _ hm)) (aO (gI _ _ hn)) Li,?_,by rw[aP,ci.len];rfl,?_,Ii,HY,Lq,k8 _ _ AC AB II,IY.tk Ag⟩
  .rw[aX]
   exact qg (Ah.heldL ci.held) (Ah.held hd)
  .refine ci.inv.next hK (by have:=ci.len;omega) hok hP1.symm ?_
   rw[<- lX];have:=ci.len
   cases e with
   | some x=>rfl
   | none=>
    unfold aE;rw[this];by_cases y:kY d=true/\P.length=c.lack
    .rw[Qg y,Qg y];rfl
    .rw[Qf y,Qf y];rfl
 .rintro σ G' ⟨ev,rN,rK,om,oj,oh,ds,P,s,e,cR,bD,rfl,hA⟩
  rw[am]at hA;refine⟨_,rfl,_,rfl,sm rfl,fun r hr=>?_⟩;have s3:=jb hr (.tup [V.ref bl,ev]);have cn:=hA.same s3;refine q r bl ev ds P s e cR bD _ (fun b o b1 b2 b3 z=>cn.kp b o b1 b2 b3 (gI _ _ z) (bL _ _ z)) ja cn.bl cn.held (by rw[cn.len];exact Lf) cn.inv cn.m cn.n ?_ cn.il cn.ev;rw[cn.inv.len,cn.len];exact cn.rows
end
abbrev Ki:au:=top 61
inductive spLaw(K:ai)(vs:List V)(H:Hp)(Q:VK)(E:XK):Prop
 | mk (a:aa) (ns:List Int) (_:vs=[.ref a]) (_:SqL K H a (ns.map V.int)) (_:ns.length<=63) (_:∀H',Q (.bl true) H')
theorem jhw(h:ws.length=7):∃a b c d e f g,ws=[a,b,c,d,e,f,g]:=by
 match ws,h with
 | [a,b,c,d,e,f,g],_=>exact⟨a,b,c,d,e,f,g,rfl⟩
theorem jdV(h:r ∉ L.map (·.1)):kM L r q=L++[(r,q)]:=by
 unfold kM;rw[Qf];intro z;obtain⟨x,hx,e⟩:=E7.mp z;exact h (bf.mpr ⟨x,hx,Qc e⟩)
theorem ZQ{P:jB->Prop}(h:∀z∈L,P z.2)(h0:P (0,[],[]))(r:Str):P (jR L r):=by
 induction L with
 | nil=>exact h0
 | cons z L ih=>
  rw[kS];split
  .exact h z bQ
  .exact ih fun y hy=>h y (bK _ hy)
theorem jcP(h:∀z∈L,z.2.2.2=[]):qH L=0:=by
 induction L with
 | nil=>rfl
 | cons z L ih=>
  unfold qH;rw[h z bQ,ih fun y hy=>h y (bK _ hy)];rfl
def EAt(K:ai)(G:Hp)(ev:V)(en:En)(u:Nat):Prop:=∃t b,ev=.ref t/\G t=some (.tup [b,.int u])/\EndAt K G en b
theorem EAt.mono{en:En}{u:Nat}(s:Same G G')(h:EAt K G ev en u):EAt K G' ev en u:=by
 obtain⟨t,b,h1,h2,h3⟩:=h;exact⟨t,b,h1,s _ _ h2,h3.mono s⟩
structure Fin(c:LC)(ds:List Dx)(P:List Int)(en:En)(u:Nat):Prop where
 run:∀more,(c.lack < P.length->more=[])->RX (c.P ds) (P.take c.lack++more) c.s0 (en,u)
 dn:Ky en=true->u=ds.length
theorem jd5{P:List Int}{en:En}{u:Nat}(h:BInv c ds P s (some (en,u))):Fin c ds P en u:=by
 obtain⟨h1,h2,h3⟩:=h.end_ en u rfl;exact⟨fun more hm=>by have:=h3 [] more hm;rw[dj]at this;exact this,fun z=>by rw[h2]at z;cases z⟩
theorem jd6{P:List Int}(h:BInv c ds P s none):Fin c ds P (.done (kr s.N "out") (c.rs.map (jR s.L))) ds.length:=by
 obtain⟨h1,h2⟩:=h.go rfl;refine⟨fun more hm=>?_,fun _=>rfl⟩;rw[iH h1];have bN:(c.P ds).ds[s.i]?=none:=xX (mG h.len.symm);have:=h2 [] more (.done (kr s.N "out") (c.rs.map (jR s.L)),s.i) ⟨0,.stop (fun d z=>by rw[dj,bN]at z;cases z) (by rw[dj];unfold mst;rw[bN];rfl)⟩;rw[dj,h.len]at this;exact this
theorem EndAt.hd:∀{e:En} {v:V},EndAt K H e v->∃t k xs,v=.ref t/\H t=some (.tup (.str k :: xs))/\(k = "done"->Ky e=true)
 | .done o h,_,⟨t,hl,vs,h1,h2,_⟩=>⟨t,_,_,h1,h2,fun _=>rfl⟩
 | .spent,_,⟨t,h1,h2⟩=>⟨t,_,_,h1,h2,fun z=>absurd z (by decide)⟩
 | .asks,_,⟨t,h1,h2⟩=>⟨t,_,_,h1,h2,fun z=>absurd z (by decide)⟩
 | .untrue _ _,_,⟨t,vp,h1,h2,_⟩=>⟨t,_,_,h1,h2,fun z=>absurd z (by decide)⟩
theorem Yl(xs:List Int)(n:Nat):LikeL K H n (xs.map V.int) (xs.map V.int):=⟨rfl,fun j x y e1 e2=>by
 rw[e1]at e2
 cases e2
 obtain⟨i,_,rfl⟩:=bf.mp (EU e1);exact qv _ _⟩
theorem Y2{K:ai}{H:Hp}{x y:V}{n:Nat}:∀{m:Nat},n<=m->LikeV K H n x y->LikeV K H m x y
 | 0,h,l=>by cases Nat.le_zero.mp h;exact l
 | m+1,h,l=>by
  rcases EO h with c | c
  .exact .inl (Y2 (Nat.le_of_lt_succ c) l)
  .subst c;exact l
theorem jdR:∀{e:En} {v v':V},EndAt K H e v->EndAt K H e v'->LikeV K H 5 v v'
 | .done out held,v,v',⟨t,hl,vs,h1,h2,h3,h4⟩,⟨t',sN,fM,cz,b9,h3',h4'⟩=>by
  subst h1 cz;have l0:=Ku _ _ _ h4 h4';have l:=LikeL.cons (K:=K) (qN "done" 4) (.cons (qv out 4) (.cons (LikeV.lst h3 h3' l0.1 l0.2) .nil));exact LikeV.tup h2 b9 l.1 l.2
 | .spent,v,v',⟨t,h1,h2⟩,⟨t',cz,b9⟩=>by
  subst h1 cz;have l:=LikeL.cons (K:=K) (H:=H) (qN "spent" 4) .nil;exact LikeV.tup h2 b9 l.1 l.2
 | .asks,v,v',⟨t,h1,h2⟩,⟨t',cz,b9⟩=>by
  subst h1 cz;have l:=LikeL.cons (K:=K) (H:=H) (qN "asks" 4) .nil;exact LikeV.tup h2 b9 l.1 l.2
 | .untrue f k,v,v',⟨t,vp,h1,h2,h3⟩,⟨t',vp',cz,b9,h3'⟩=>by
  subst h1 cz;have hd:(Jd [(k:Int)]).depth<=4:=by show 1<=4;decide
  have l:=LikeL.cons (qN "untrue" 4) (.cons (qN f 4) (.cons (qN "claim" 4) (.cons (L2.held_like (K:=K) hd h3 h3') (.cons (qv 0 4) .nil))));exact LikeV.tup h2 b9 l.1 l.2
theorem ZP:∀{L:List (Str×jB)} {z:Str×jB},(L.map (·.1)).Nodup->z∈L->jR L z.1=z.2
 | y :: L,z,nd,h=>by
  rw[bW]at nd;have iP:=gz.mp nd;rw[kS];rcases bg.mp h with rfl | h
  .rw[Qg rfl]
  .rw[Qf (fun e=>iP.1 (by rw[e];exact bf.mpr ⟨z,h,rfl⟩))]
   exact ZP iP.2 h
theorem jcL(h:L.map (·.1)=ks)(nd:ks.Nodup):ks.zip (ks.map (jR L))=L:=by
 rw[<- h]at nd |-;rw[Pl,List.zip_eq_zipWith,List.zipWith_self,ln,ln];refine (EW fun z hz=>?_).trans (List.map_id L);show (z.1,jR L z.1)=z;rw[ZP nd hz]
theorem jgt{y:Str}{m n:Int}(h:x≠y):yM [] [((Sum.inr x:Key),V.int m),(Sum.inr y,V.int n)]=nKV [(x,m),(y,n)]:=by
 unfold yM;rw[ue,ue,List.foldl_nil];have e1:kW ([]:List (Key×V)) (Sum.inr x) (.int m)=[(Sum.inr x,.int m)]:=rfl;rw[e1];unfold kW;rw[Qf (by simp[h])];rfl
section
variable {P:av}
theorem jgp(F:Fun K "law" "law" Ki f fd)(B:Free0 mg)(eC:Fn P w K mg base 1 "_law_cell_at" ["_law_script","_law_k"] (spCell K))(wv:Fn P w K mg base 1 "_law_words" ["_law_cell","_law_many"] spWords)(cP:Fn P w K mg base 1 "_law_mix" ["_law_seed","_law_k"] spMix)(wD:Fn P w K mg base 2 "_law_made" ["_law_seed","_law_near"] spMade)
  (wR:Fn P w K mg base 5 "_law_body" ["_law_script","_law_w","_law_near","_law_numbers","_law_rows","_law_inputs","_law_lacking"] (spBody K)) (nH:Fn P w K mg base 2 "_law_stairs" ["_law_row"] (spStairsL K)) (wz:Fn P w K mg base 11 "run" ["program","f","numbers","rows","inputs","most"] (spRun K)):FnOk P w K mg base CX0 12 f fd ["_law_script"] (spLaw K):=by
 have sc:FnScope ["_law_script","_law_w","_law_near","_law_numbers","_law_given","_law_rows","_law_k","_law_held","_law_inputs","_law_lacking","_law_body_here","_law_end_here","_law_most","_law_program","_law_handed","_law_found"] ["_law_script"] (jn Ki):=fQ
 refine F.okZ sc (fun az A outer s H vs Q E hr h=>?_);obtain⟨a,ns,rfl,hS,sJ,q⟩:=h
 have hu:=qO hr
 have AW:(A.deeper (xJ "law" (jn Ki) s.heap.objs.size f az)).units+1+6 < cLine:=by have:=hr.units;omega
 have hu3:(A.deeper (xJ "law" (jn Ki) s.heap.objs.size f az)).units+1+5 < cLine:=by have:=hr.units;omega
 refine⟨_,(jh (jF (i:=1) sc.nd rfl oQ (jQ wv hr (jd (jQ eC hr (jd (zpv 0) (jd jf jj))) (jd jf jj))))
   (jh (jF (i:=2) sc.nd rfl oQ (jK kO (jK jM (jK kP (jQ eC hr (jd (zpv 0) (jd jf jj))) jf) (jK kP jf (jK ze jf jf))) (jK ze jf jf)))
   (jh (jF (i:=3) sc.nd rfl oQ (jcI (K9 (jC jG (zpv 1) jf (fun _ _=>rfl)) (jK kO (jK jU (zpv 2) (jK jM (jQ eC hr (jd (zpv 0) (jd jf jj))) jf)) jf) (K9 (jC jG (zpv 1) jf (fun _ _=>rfl)) (jK kO (jK jU (zpv 2) (jK jM (jK jS (jQ eC hr (jd (zpv 0) (jd jf jj))) jf) jf)) jf) jcE)) rfl rfl (by simp) (by decide)))
   (jh (jF (i:=4) sc.nd rfl oQ (qj (jd (qk hu (zpv 3) (jC jG (zpv 1) jf (fun _ _=>rfl)) (fun _ _=>rfl)) (jd (qk hu (zpv 3) (jC jG (zpv 1) jf (fun _ _=>rfl)) (fun _ _=>rfl)) jj))))
   (jh (jF (i:=5) sc.nd rfl oQ jbE)
   (jh (JT dS rfl (jag (by rfl) B.range_ (jd jf jj)) (ke (i:=6) sc.nd rfl oQ) (jt (qX hu (zpv 5) (jC jG (zpv 1) (jK jU jf (zpv 6)) (fun _ _=>rfl)) (jQ wD hr (jd (jQ cP hr (jd (jK jM (jQ eC hr (jd (zpv 0) (jd jf jj))) jf) (jd (zpv 6) jj))) (jd (zpv 2) jj))) rfl)))
   (jh (JG (i:=7) sc.nd rfl oQ ["_law_r"] [5] rfl (kz (sc:=jn Ki) (N:=["_law_script","_law_w","_law_near","_law_numbers","_law_given","_law_rows","_law_k","_law_held","_law_inputs","_law_lacking","_law_body_here","_law_end_here","_law_most","_law_program","_law_handed","_law_found"]) rfl rfl (by decide +kernel)) (Zi (qz JW (zpv 1) (kQ jf) (kQ jf))) (fun s H ex=>⟨(ke (i:=0) (show bG (["_law_r","_law_rows"]:List Str) by decide +kernel) rfl oQ),zX,(jQ nH hr (jd (qk hu (zpv 1) (zpv 0) (fun _ _=>rfl)) jj))⟩))
   (jh (jF (i:=8) sc.nd rfl oQ (qj jj))
   (jh (jF (i:=9) sc.nd rfl oQ (jC jG (qj (jd jf (jd jf (jd jf jj)))) (jK jM (jQ eC hr (jd (zpv 0) (jd jf jj))) jf) (fun _ _=>rfl)))
   (jh (JU (jQ wR hr (jd (zpv 0) (jd (zpv 1) (jd (zpv 2) (jd (zpv 3) (jd (zpv 5) (jd (zpv 8) (jd (zpv 9) jj)))))))) (zG rfl (kn (ke (i:=10) sc.nd rfl oQ) (kn (ke (i:=11) sc.nd rfl oQ) qY))))
   (jh (jF (i:=12) sc.nd rfl oQ (yG (jcx rfl) (by rfl) B.max_ jeh (jd jf (jd (jK jU (yG kl (by rfl) B.len_ zi (jd (zpv 10) jj)) (jC jG (qj (jd jf (jd jf (jd (J5 J9 jf) jj)))) (jK jM (jK jS (jQ eC hr (jd (zpv 0) (jd jf jj))) jf) jf) (fun _ _=>rfl))) jj))))
   (jh (qi (j9 (jL Jx (zpv 11) kD (ju _)) (jt (jF (i:=11) sc.nd rfl oQ (jO (jd (jO (jd jJ (jd (jbF hu (zpv 3) jJ jf ⟨rfl,rfl,rfl,rfl⟩) (jd (jcJ ["_law_r"] [5] rfl (kz (sc:=jn Ki) (N:=["_law_script","_law_w","_law_near","_law_numbers","_law_given","_law_rows","_law_k","_law_held","_law_inputs","_law_lacking","_law_body_here","_law_end_here","_law_most","_law_program","_law_handed","_law_found"]) rfl rfl (by decide +kernel)) (Zi (qz JW (zpv 1) (kQ jf) (kQ jf))) (fun s H ex=>⟨(ke (i:=0) (show bG (["_law_r","_law_rows"]:List Str) by decide +kernel) rfl oQ),zX,(jQ nH hr (jd (qk hu (zpv 1) (zpv 0) (fun _ _=>rfl)) jj))⟩)) jj)))) (jd (yG kl (by rfl) B.len_ zi (jd (zpv 10) jj)) jj))))) jX))
   (jh (qi (j9 (jcC (jL jdx (jC jq (zpv 11) jf (fun _ _=>rfl)) (zpv 12) (ju _)) (ja3 (yo (jL j5 (jC jq (jC jq (zpv 11) jf (fun _ _=>rfl)) jf (fun _ _=>rfl)) jJ (ju _)) (zt (jL jdx (yG kl (by rfl) B.len_ zi (jd (zpv 10) jj)) (zpv 12) (ju _)))).pt)).pt (jt (jF (i:=11) sc.nd rfl oQ (jO (jd (jO (jd jJ jj)) (jd (zpv 12) jj))))) jX))
   (jh (qi (j9 (yo (jL j5 (jK jM (jK jS (jQ eC hr (jd (zpv 0) (jd jf jj))) jf) jf) jf (ju _)) (zt (jL j5 (zpv 9) jf (ju _)))).pt (jt (jF (i:=8) sc.nd rfl oQ (jK jgj (zpv 8) (qj (jd jf (jd jf jj)))))) jX))
   (jh (jF (i:=13) sc.nd rfl oQ (jO (jd (jO (jd jJ (jd (jC jG (zpv 1) jf (fun _ _=>rfl)) (jd (jO (jd (jC jG (zpv 1) jf (fun _ _=>rfl)) (jd (jC jG (zpv 1) jf (fun _ _=>rfl)) jj))) (jd (jO (jd (jC jG (zpv 1) jf (fun _ _=>rfl)) (jd (jC jG (zpv 1) jf (fun _ _=>rfl)) (jd (jC jG (zpv 1) jf (fun _ _=>rfl)) jj)))) (jd (jO jj) (jd (jO jj) (jd (J7 qF (by rfl) B.tuple_ ym (jd (zpv 10) jj)) jj)))))))) jj)))
   (jh (jF (i:=14) sc.nd rfl oQ (jO (jd (J7 qy (by rfl) B.list_ Jj (jd (zpv 4) jj)) (jd (J7 qy (by rfl) B.list_ Jj (jd (zpv 7) jj)) (jd (J7 qy (by rfl) B.list_ Jj (jd (zpv 8) jj)) jj)))))
   (jh (jF (i:=15) sc.nd rfl oQ (jQ wz hr (jd (zpv 13) (jd (jC jG (zpv 1) jf (fun _ _=>rfl)) (jd (zpv 4) (jd (zpv 7) (jd (zpv 8) (jd (zpv 12) jj))))))))
   (jt (j8 (ja4 (J6 (jbl 6 AW) (jO (jd (zpv 4) (jd (zpv 7) (jd (zpv 8) jj)))) (zpv 14) (ju _)) (ja4 (yG jad (by rfl) B.isinstance_ K8 (jd (zpv 15) (jd (jcK (v:=.ty "tuple") (by rfl) B.tuple_ ym (by rfl)) jj))) (jer (J6 (jbl 6 AW) (zpv 15) (zpv 11) (ju _)))))))))))))))))))))))),?_⟩
 refine zU (σ':=[some (.ref a),none,none,none,none,none,none,none,none,none,none,none,none,none,none,none]) rfl ?_
 try dsimp only[JQ]
 refine⟨_,rfl,a,ns,0,rfl,hS,by decide,by decide,fun c0=>⟨c0,7,rfl,by decide,fun lw ws H1 Wk s1 vh pj=>?_⟩⟩
 refine gQ ?_
 have cy:=s1.seq hS
 refine⟨_,rfl,a,ns,0,rfl,cy,by decide,by decide,fun c1=>?_⟩
 refine⟨_,_,rfl,rfl,.inr ⟨by decide,by decide⟩,_,_,rfl,rfl,⟨by decide,by decide,by decide⟩,_,_,rfl,rfl,.inl ⟨by decide,by decide⟩,_,_,rfl,rfl,(by show (0:Int) < _;decide),_,_,rfl,rfl,⟨by decide,by decide,by decide⟩,_,_,rfl,rfl,?_⟩
 dsimp only
 have Bf:-(10 ^ 18) < c1 * 998244353 % (2 * 10 ^ aL 17) - 10 ^ aL 17/\c1 * 998244353 % (2 * 10 ^ aL 17) - 10 ^ aL 17 < 10 ^ 18:=by
  have Mp:(10:Int) ^ aL 17=100000000000000000:=by decide
  rw[Mp];have z0:=bR (c1 * 998244353) (b:=2 * 100000000000000000) (by decide);have z1:=cr (c1 * 998244353) (b:=2 * 100000000000000000) (by decide);omega
 generalize c1 * 998244353 % (2 * 10 ^ aL 17) - 10 ^ aL 17=near at *
 refine gQ ?_
 have hx:∀j:Nat,j < 7->atI (ws.map V.str) (j:Int)=some (.str (ws.getD j "")):=fun j hj=>kH (xs:=ws) (i:=(j:Int)) (by omega) (by rw[Wk.len];omega)
 have hw:∀j:Nat,j < 7->ws.getD j ""∈ws:=fun j hj=>by
  rw[eK,aC (by rw[Wk.len];exact hj)];exact eW _
 have bp:∀i j:Nat,i < 7->j < 7->i≠j->ws.getD i ""≠ws.getD j "":=fun i j hi hj i4 z=>by
  rw[eK,eK,aC (by rw[Wk.len];exact hi),aC (by rw[Wk.len];exact hj)]at z;exact i4 (jaH Wk.nd _ _ z)
 refine fun p hp=>?_
 have s2:=jb hp (.dK [])
 have e2:upd H1 p (.dK []) p=some (.dK []):=ja
 generalize upd H1 p (.dK [])=H2 at *
 have bc:=s1.trans s2
 have vg:=s2 _ _ pj
 refine⟨_,rfl,lw,_,_,_,rfl,rfl,SqL.of vg,hx 0 (by decide),_,rfl,_,rfl,a,ns,1,rfl,bc.seq hS,by decide,by decide,fun c2=>?_⟩
 refine⟨_,_,rfl,rfl,(by show (0:Int) < _;decide),_,_,rfl,rfl,_,_,rfl,rfl,?_⟩
 dsimp only
 generalize near+c2 % 5 - 2=n0 at *
 refine⟨_,rfl,lw,_,_,_,rfl,rfl,SqL.of vg,hx 1 (by decide),_,rfl,_,rfl,a,ns,1,rfl,bc.seq hS,by decide,by decide,fun c3=>?_⟩
 refine⟨_,_,rfl,rfl,⟨by decide,by decide⟩,_,_,rfl,rfl,(by show (0:Int) < _;decide),_,_,rfl,rfl,_,_,rfl,rfl,?_⟩
 dsimp only
 generalize near+c3 / 5 % 5 - 2=n1 at *
 refine⟨e2,[(Sum.inr (ws.getD 0 ""),.int n0),(Sum.inr (ws.getD 1 ""),.int n1)],rfl,Pi rfl,?_⟩
 rw[jgt (bp 0 1 (by decide) (by decide) (by decide))]
 generalize hN0:[(ws.getD 0 "",n0),(ws.getD 1 "",n1)]=N0 at *
 have s3:Same H1 (upd H2 p (.dK (nKV N0))):=fun b o z=>by rw[jl (fun y=>by rw[y,hp]at z;cases z)];exact s2 _ _ z
 have ph:upd H2 p (.dK (nKV N0)) p=some (.dK (nKV N0)):=ja
 generalize upd H2 p (.dK (nKV N0))=H3 at *
 clear e2 s2 bc vg
 have sF:=s3 _ _ pj
 refine gQ ?_
 have hg:∀(j:Nat) (n:Int),j < 7->lkA N0 (ws.getD j "")=some n->DGet H3 p (kV (Sum.inr (ws.getD j ""))) (some (.int n)):=fun j n _ hj=>by
  have h:=DGet.k (k:=Sum.inr (ws.getD j "")) ph;rw[JY,hj]at h;exact h
 have IE:lkA N0 (ws.getD 0 "")=some n0:=by rw[<- hN0,yz,Qg rfl]
 have vw:lkA N0 (ws.getD 1 "")=some n1:=by rw[<- hN0,yz,Qf (bp 0 1 (by decide) (by decide) (by decide)),yz,Qg rfl]
 refine⟨_,rfl,_,rfl,lw,_,_,_,rfl,rfl,SqL.of sF,hx 0 (by decide),p,_,rfl,hg 0 n0 (by decide) IE,_,rfl,_,rfl,lw,_,_,_,rfl,rfl,SqL.of sF,hx 1 (by decide),p,_,rfl,hg 1 n1 (by decide) vw,sm rfl,fun gl sR=>?_⟩
 have s4:=jb sR (.lst [V.int n0,V.int n1])
 have e4:upd H3 gl (.lst [V.int n0,V.int n1]) gl=some (.lst [V.int n0,V.int n1]):=ja
 generalize upd H3 gl (.lst [V.int n0,V.int n1])=H4 at *
 refine gQ ?_
 have lS:=s4 _ _ sF
 have ni:=s4 _ _ ph
 have cH:=s3.trans s4
 refine fun rd sB=>?_
 have s5:=jb sB (.dK [])
 have e5:upd H4 rd (.dK []) rd=some (.dK []):=ja
 generalize upd H4 rd (.dK [])=H5 at *
 refine gQ ?_
 have ee:∀b o,H4 b=some o->b≠rd:=fun b o z y=>by rw[y,sB]at z;cases z
 let ks:List Str:=[ws.getD 3 "",ws.getD 4 "",ws.getD 5 ""]
 refine⟨3,rfl,by decide,by decide,?_⟩
 refine JE (n:=3) (fun i σ G=>∃(u6:Option V) (L:List (Str×jB)) (aA:List (Key×V)),σ=[some (.ref a),some (.ref lw),some (.int near),some (.ref p),some (.ref gl),some (.ref rd),u6,none,none,none,none,none,none,none,none,none]/\(∀b o,b≠rd->H5 b=some o->G b=some o)/\G rd=some (.dK aA)/\RP (LF G 0) aA L/\L.map (·.1)=ks.take i/\∀z∈L,z.2.2.1.length<=3/\z.2.2.2=[]) ⟨none,[],[],rfl,fun b o _ z=>z,e5,trivial,rfl,fun z hz=>by cases hz⟩ ?_ ?_
 .rintro i σ G hi ⟨u6,L,aA,rfl,kG,hG,pK,lT,hL⟩
  have sY:∀{H':Hp},Same G H'->SqL K H' a (ns.map V.int):=fun z=>by
   refine z.seq ?_;rcases hS with (h | ⟨o,h⟩) | h
   .exact .inl (.inl (kG _ _ (ee _ _ (cH _ _ (s1 _ _ h))) (s5 _ _ (cH _ _ (s1 _ _ h)))))
   .exact .inl (.inr ⟨o,kG _ _ (ee _ _ (cH _ _ (s1 _ _ h))) (s5 _ _ (cH _ _ (s1 _ _ h)))⟩)
   .exact .inr h
  have pi:=kG _ _ (ee _ _ lS) (s5 _ _ lS)
  have uO:atI (ws.map V.str) (3+(0+(i:Int)))=some (.str (ws.getD (3+i) "")):=by rw[show (3+(0+(i:Int)))=((3+i:Nat):Int) by omega];exact hx (3+i) (by omega)
  refine⟨_,rfl,a,ns,1,rfl,sY (Same.refl _),by decide,by decide,fun c4=>?_⟩
  refine⟨_,_,rfl,rfl,(by show (0:Int) < _;decide),_,rfl,_,_,rfl,fun c5=>?_⟩
  refine⟨_,rfl,_,_,rfl,fun v b ps G2 sG fe bC hv=>?_⟩
  refine⟨_,rfl,_,rfl,_,rfl,_,_,rfl,rfl,lw,_,_,_,rfl,rfl,SqL.of (sG _ _ pi),uO,rd,_,rfl,DPut.k (k:=Sum.inr (ws.getD (3+i) "")) (sG _ _ hG) (jw (by have:=Qi lz lT;rw[am,a_]at this;rw[pK.len];omega)),?_⟩
  have HU:ws.getD (3+i) "" ∉ L.map (·.1):=fun z=>by
   rw[lT]at z;obtain⟨j,hj,e⟩:=di.mp z;rw[a_]at hj;have IG:j < 3:=by omega
   rw[rE]at e;have i4:j < i:=by omega
   have e':ws.getD (3+j) "" = ws.getD (3+i) "":=by
    rw[<- e];match j,IG with
    | 0,_=>rfl
    | 1,_=>rfl
    | 2,_=>rfl
   exact bp (3+j) (3+i) (by omega) (by omega) (by omega) e'
  have tk:TK G2 (upd G2 rd (.dK (kW aA (Sum.inr (ws.getD (3+i) "")) v))):=TK.upd (sG _ _ hG) (by intro xs z;cases z)
  have Cc:=jdV (q:=(b,ps,[])) HU
  refine⟨_,kM L (ws.getD (3+i) "") (b,ps,[]),_,rfl,fun b' o hb z=>by rw[jl hb];exact sG _ _ (kG b' o hb z),ja,RP.put (RP.imp (fun lq v h=>(h.tk (TK.same sG)).tk tk) pK) ⟨tk.held hv,fe,bC,ay _⟩,?_,?_⟩
  .rw[Cc,aX,lT]
   match i,hi with
   | 0,_=>rfl
   | 1,_=>rfl
   | 2,_=>rfl
  .intro z hz
   rw[Cc]at hz
   rcases cZ.mp hz with g | g
   .exact hL z g
   .rw[bu.mp g];exact⟨bC,rfl⟩
 rintro σ G ⟨u6,L0,aA,rfl,kG,hG,pK,lT,hL⟩
 have vt:L0.map (·.1)=ks:=lT
 have pi:=kG _ _ (ee _ _ lS) (s5 _ _ lS)
 have nh:=kG _ _ (ee _ _ ni) (s5 _ _ ni)
 have BD:=kG _ _ (ee _ _ e4) (s5 _ _ e4)
 have sY:SqL K G a (ns.map V.int):=by
  rcases hS with (h | ⟨o,h⟩) | h
  .exact .inl (.inl (kG _ _ (ee _ _ (cH _ _ (s1 _ _ h))) (s5 _ _ (cH _ _ (s1 _ _ h)))))
  .exact .inl (.inr ⟨o,kG _ _ (ee _ _ (cH _ _ (s1 _ _ h))) (s5 _ _ (cH _ _ (s1 _ _ h)))⟩)
  .exact .inr h
 have FT:p≠rd:=ee _ _ ni
 have lE:∀b o,H b=some o->G b=some o/\b≠p/\b≠rd:=fun b o z=>⟨kG _ _ (ee _ _ (cH _ _ (s1 _ _ z))) (s5 _ _ (cH _ _ (s1 _ _ z))),fun y=>(by have:=s1 _ _ z;rw[y,hp]at this;cases this),ee _ _ (cH _ _ (s1 _ _ z))⟩
 have Az:lw≠p/\lw≠rd:=⟨j6 lS ni (by intro y;cases y),ee _ _ lS⟩
 have AE:gl≠p/\gl≠rd:=⟨j6 e4 ni (by intro y;cases y),ee _ _ e4⟩
 clear lT kG e5 s5 ee sB e4 sR s4 cH hg ni lS ph sF s3 cy
 have BN:kN (ws.map V.str) (some 3) (some 6)=ks.map V.str:=by
  rw[jfS Wk.len];obtain⟨w0,w1,w2,w3,w4,w5,w6,rfl⟩:=jhw Wk.len;rfl
 have da:∀r∈ks,(lkA L0 r).isSome=true:=fun r hr=>some_of vt hr
 refine⟨_,rfl,3,rfl,6,rfl,lw,_,rfl,SqL.of pi,fun sp dB=>?_⟩
 rw[BN]
 have s2:=jb dB (.lst (ks.map V.str))
 have e2:upd G sp (.lst (ks.map V.str)) sp=some (.lst (ks.map V.str)):=ja
 generalize upd G sp (.lst (ks.map V.str))=G2 at *
 refine⟨sp,rfl,⟨_,SqL.of e2⟩,fun hl nq=>?_⟩
 have s3:=jb nq (.lst [])
 refine qh (xs:=ks.map V.str) (fun i σ' G'=>∃u vs,σ'=[u,some (.ref rd)]/\Same G2 G'/\G' hl=some (.lst vs)/\RowsAt K G' ((ks.take i).map (jR L0)) vs/\vs.length=i) ⟨none,[],rfl,s3,ja,trivial,rfl⟩ ?_ ?_ ?_
 .rintro i σ' G' _ ⟨u,vs,rfl,sG,_⟩
  exact SqL.of (sG _ _ e2)
 .rintro i x σ' G' gJ ⟨u,vs,rfl,sG,gO,hR,fb⟩
  have hi:i < ks.length:=by have:=(aV.mp gJ).1;rwa [am]at this
  rw[bA,aC hi]at gJ
  cases gJ
  unfold kU yH
  refine kL ?_
  have db:=da ks[i] (eW hi)
  rcases pK.val ks[i] with⟨_,bN⟩ | ⟨v,q',dq,dm,h_⟩
  .rw[bN]at db;cases db
  have iq:DGet G' rd (kV (Sum.inr ks[i])) (some v):=by
   have h:=DGet.k (k:=Sum.inr ks[i]) ((s2.trans sG) _ _ hG);rw[dq]at h;exact h
  have hZ:=h_.tk (TK.same (s2.trans sG))
  refine⟨_,rfl,_,rfl,rd,v,rfl,iq,v,q',rfl,hZ.1,hZ.2.1,hZ.2.2.1,aZ hZ.2.2.2 (by decide),fun u1 R G4 s4 uU hc sN vI=>?_⟩
  have tk:TKF G4 (upd G4 hl (.lst (vs++[u1]))):=TKF.updL (s4 _ _ gO)
  refine⟨_,s4 _ _ gO,jw (by have:ks.length=3:=rfl;omega),_,vs++[u1],rfl,fun b o e=>?_,ja,?_,by rw[aP,fb];rfl⟩
  .rw[jl (jo e nq)];exact s4 _ _ (sG _ _ e)
  .rw[cq,aC hi,aX]
   have eq:jR L0 ks[i]=q':=by unfold jR;rw[dm];rfl
   show RowsAt K _ ((ks.take i).map (jR L0)++[jR L0 ks[i]]) (vs++[u1])
   rw[eq]
   exact ((hR.tk (TKF.same s4)).tk tk).snoc (RowIs.tk tk ⟨R,yc uU,hc,sN,vI⟩)
 rintro σ' G' ⟨u,vs,rfl,sG,gO,hR,fb⟩
 rw[am,ce]at hR
 clear e2 nq dB s3
 have eY:=s2.trans sG
 refine gQ ?_
 refine⟨sm rfl,fun il cV=>?_⟩
 have s3:=jb cV (.lst [])
 have e3:upd G' il (.lst []) il=some (.lst []):=ja
 generalize upd G' il (.lst [])=G3 at *
 refine gQ ?_
 refine⟨sm rfl,fun l3 fW=>?_⟩
 have s4:=jb fW (.lst [V.int 60,V.int 2,V.int 60])
 have e4:upd G3 l3 (.lst [V.int 60,V.int 2,V.int 60]) l3=some (.lst [V.int 60,V.int 2,V.int 60]):=ja
 generalize upd G3 l3 (.lst [V.int 60,V.int 2,V.int 60])=G4 at *
 have dZ:=eY.trans (s3.trans s4)
 refine⟨_,rfl,a,ns,3,rfl,dZ.seq sY,by decide,by decide,fun c6=>?_⟩
 obtain⟨lack,hlk1,Bl⟩:∃n:Nat,(n=60\/n=2)/\atI [V.int 60,V.int 2,V.int 60] (c6 % 3)=some (.int (n:Int)):=by
  have z0:=bR c6 (b:=3) (by decide);have z1:=cr c6 (b:=3) (by decide);generalize c6 % 3=i at *;obtain rfl | rfl | rfl:i=0\/i=1\/i=2:=by omega
  .exact⟨60,.inl rfl,rfl⟩
  .exact⟨2,.inr rfl,rfl⟩
  .exact⟨60,.inl rfl,rfl⟩
 refine⟨_,_,rfl,rfl,(by show (0:Int) < _;decide),l3,_,_,_,rfl,rfl,SqL.of e4,Bl,?_⟩
 refine gQ ?_
 have hI:LInv ks ws near N0 ⟨N0,L0,0,0⟩:=by
  have hz:∀r,(jR L0 r).2.1.length<=3/\(jR L0 r).2.2=[]:=fun r=>ZQ (P:=fun q=>q.2.1.length<=3/\q.2.2=[]) hL ⟨bE _,rfl⟩ r
  have GM:qH L0=0:=jcP fun z h=>(hL z h).2
  exact⟨vt,fun r=>(hz r).1,by rw[<- hN0];exact ay 2,mG GM,fun _=>⟨rfl,fun r z h=>by rw[(hz r).2]at h;cases h⟩⟩
 have hK:KR ks ws:=by
  refine⟨?_,fun j hj=>?_⟩
  .show bG [ws.getD 3 "",ws.getD 4 "",ws.getD 5 ""]
   simp only[gz,bg,t_,or_false,not_or,xV,and_true];exact⟨⟨bp 3 4 (by decide) (by decide) (by decide),bp 3 5 (by decide) (by decide) (by decide)⟩,bp 4 5 (by decide) (by decide) (by decide),fun z=>z.elim⟩
  .match j,hj with
   | 0,_=>exact bQ
   | 1,_=>exact bK _ bQ
   | 2,_=>exact bK _ (bK _ bQ)
 have hpil:p≠il:=j6 ((eY.trans s3) _ _ nh) e3 (by intro y;cases y)
 refine⟨_,rfl,_,rfl,_,rfl,_,rfl,_,rfl,_,rfl,_,rfl,⟨ws.getD 6 "",[ws.getD 0 "",ws.getD 1 ""],ks,ks,ws,near,N0,L0,lack⟩,a,lw,p,rd,il,ns,aA,rfl,dZ.seq sY,⟨dZ _ _ pi,Wk.len,Bf.1,Bf.2⟩,rfl,dZ _ _ nh,dZ _ _ hG,RP.imp (fun _ _ y=>LF.tk (TK.same dZ) y) pK,s4 _ _ e3,FT,hI,ay 3,hK,fun r bl ev ds Pk s e cR bD G5 kb hr gg vL ir pP Ij HZ Lz i3 vH=>?_⟩
 have AM:∀b o,b≠p->b≠rd->b≠il->G4 b=some o->G5 b=some o:=kb
 have gD:TK G4 G5:=fun b xs z=>kb b _ (j6 z (dZ _ _ nh) (by intro y;cases y)) (j6 z (dZ _ _ hG) (by intro y;cases y)) (j6 z (s4 _ _ e3) (by intro y;cases y)) z
 refine⟨r,_,rfl,SqT.of hr,rfl,_,_,rfl,_,_,rfl,rfl,?_⟩
 refine zU (σ':=[some (.ref a),some (.ref lw),some (.int near),some (.ref p),some (.ref gl),some (.ref rd),u6,some (.ref hl),some (.ref il),some (.int lack),some (.ref bl),some ev,none,none,none,none]) rfl ?_
 have nil:∀b o,G' b=some o->b≠il:=fun b o z y=>by rw[y,cV]at z;cases z
 have mW:∀b o,b≠p->b≠rd->G' b=some o->G5 b=some o:=fun b o b1 b2 z=>AM b o b1 b2 (nil _ _ z) ((s3.trans s4) _ _ z)
 have B5:SqL K G5 a (ns.map V.int):=by
  have k:∀o,H a=some o->G5 a=some o:=fun o z=>by obtain⟨z1,z2,z3⟩:=lE _ _ z;exact mW _ _ z2 z3 (eY _ _ z1)
  rcases hS with (h | ⟨o,h⟩) | h
  .exact .inl (.inl (k _ h))
  .exact .inl (.inr ⟨o,k _ h⟩)
  .exact .inr h
 have ve:=mW _ _ Az.1 Az.2 (eY _ _ pi)
 have BF:=mW _ _ AE.1 AE.2 (eY _ _ BD)
 have AD:hl≠p/\hl≠rd:=⟨j6 gO (eY _ _ nh) (by intro y;cases y),j6 gO (eY _ _ hG) (by intro y;cases y)⟩
 have BB:=mW _ _ AD.1 AD.2 gO
 have B9:=hR.tk (H':=G5) ⟨fun b xs z=>mW b _ (j6 z (eY _ _ nh) (by intro y;cases y)) (j6 z (eY _ _ hG) (by intro y;cases y)) z,fun b o u z=>mW b _ (j6 z (eY _ _ nh) (by intro y;cases y)) (j6 z (eY _ _ hG) (by intro y;cases y)) z⟩
 have nhil:hl≠il/\gl≠il:=⟨nil _ _ gO,nil _ _ (eY _ _ BD)⟩
 clear AM kb e3 e4 s3 s4 cV fW Bl nil
 have BL:=vL.length
 rw[am]at BL
 refine⟨_,rfl,bl,_,rfl,.inl (SqL.of gg),?_⟩
 refine⟨_,rfl,sm rfl,fun l4 du=>?_⟩
 have s6:=jb du (.lst [V.int 0,V.int 5,V.int (-3)])
 have e6:upd G5 l4 (.lst [V.int 0,V.int 5,V.int (-3)]) l4=some (.lst [V.int 0,V.int 5,V.int (-3)]):=ja
 generalize upd G5 l4 (.lst [V.int 0,V.int 5,V.int (-3)])=G6 at *
 refine⟨_,rfl,a,ns,3,rfl,s6.seq B5,by decide,by decide,fun c7=>?_⟩
 obtain⟨r_,HM⟩:=Ka 0 5 (-3) (i:=c7 / 3 % 3) (bR _ (by decide)) (cr _ (by decide))
 refine⟨_,_,rfl,rfl,⟨by decide,by decide⟩,_,_,rfl,rfl,(by show (0:Int) < _;decide),l4,_,_,_,rfl,rfl,SqL.of e6,HM,_,_,rfl,rfl,_,_,rfl,?_⟩
 obtain⟨most,Ic⟩:∃most:Nat,(if (bD.length:Int)+r_ > 0 then (bD.length:Int)+r_ else 0)=(most:Int):=by
  refine⟨(if (bD.length:Int)+r_ > 0 then (bD.length:Int)+r_ else 0).toNat,(PZ ?_).symm⟩;split <;> omega
 rw[Ic]
 refine gQ ?_
 have h56:=s6
 refine⟨fun σ G=>∃dE en u,σ=[some (.ref a),some (.ref lw),some (.int near),some (.ref p),some (.ref gl),some (.ref rd),u6,some (.ref hl),some (.ref il),some (.int lack),some (.ref bl),some dE,some (.int most),none,none,none]/\Same G6 G/\EAt K G dE en u/\Fin ⟨ws.getD 6 "",[ws.getD 0 "",ws.getD 1 ""],ks,ks,ws,near,N0,L0,lack⟩ ds Pk en u,?_,?_⟩
 .refine⟨_,rfl,rfl,_,rfl,j7 (fun z=>?_) (fun z=>?_)⟩
  .have he:e=none:=vH.non.mp (Qc z)
   subst he
   have Bh:=s6 _ _ Ij
   refine⟨_,rfl,p,rfl,.inl ⟨_,.inl Bh⟩,_,DGet.k (k:=Sum.inr "out") Bh,?_⟩
   rw[JY,show (((lkA s.N "out").map V.int).getD (V.int 0))=V.int (kr s.N "out") by unfold kr;rw[Qf (by decide)];cases lkA s.N "out" <;> rfl]
   refine⟨_,rfl,3,rfl,6,rfl,lw,_,rfl,SqL.of (s6 _ _ ve),fun sp dB=>?_⟩
   rw[BN]
   have s7:=jb dB (.lst (ks.map V.str))
   have e7:upd G6 sp (.lst (ks.map V.str)) sp=some (.lst (ks.map V.str)):=ja
   generalize upd G6 sp (.lst (ks.map V.str))=G7 at *
   refine⟨sp,rfl,⟨_,SqL.of e7⟩,fun h2 lU=>?_⟩
   have s8:=jb lU (.lst [])
   have Ap:=s6.trans s7
   have Ha:∀r∈ks,(lkA s.L r).isSome=true:=fun r hr=>some_of pP.inv.keys hr
   have iS:s.i<=30:=by rw[pP.len];exact ir
   refine qh (xs:=ks.map V.str) (fun i σ' G'=>∃u vs,σ'=[u,some (.ref rd)]/\Same G7 G'/\G' h2=some (.lst vs)/\RowsAt K G' ((ks.take i).map (jR s.L)) vs/\vs.length=i) ⟨none,[],rfl,s8,ja,trivial,rfl⟩ ?_ ?_ ?_
   .rintro i σ' G' _ ⟨u,vs,rfl,sG,_⟩
    exact SqL.of (sG _ _ e7)
   .rintro i x σ' G' gJ ⟨u,vs,rfl,sG,gO,hR,fb⟩
    have hi:i < ks.length:=by have:=(aV.mp gJ).1;rwa [am]at this
    rw[bA,aC hi]at gJ
    cases gJ
    unfold kU yH
    refine kL ?_
    have db:=Ha ks[i] (eW hi)
    rcases Lz.val ks[i] with⟨_,bN⟩ | ⟨v,q',dq,dm,h_⟩
    .rw[bN]at db;cases db
    have iq:DGet G' rd (kV (Sum.inr ks[i])) (some v):=by
     have h:=DGet.k (k:=Sum.inr ks[i]) ((Ap.trans sG) _ _ HZ);rw[dq]at h;exact h
    have hZ:=h_.tk (TK.same (Ap.trans sG))
    refine⟨_,rfl,_,rfl,rd,v,rfl,iq,v,q',rfl,hZ.1,hZ.2.1,hZ.2.2.1,aZ hZ.2.2.2 iS,fun u1 R G4 s4 uU hc sN vI=>?_⟩
    have tk:TKF G4 (upd G4 h2 (.lst (vs++[u1]))):=TKF.updL (s4 _ _ gO)
    refine⟨_,s4 _ _ gO,jw (by have:ks.length=3:=rfl;omega),_,vs++[u1],rfl,fun b o e=>?_,ja,?_,by rw[aP,fb];rfl⟩
    .rw[jl (jo e lU)];exact s4 _ _ (sG _ _ e)
    .rw[cq,aC hi,aX]
     have eq:jR s.L ks[i]=q':=by unfold jR;rw[dm];rfl
     show RowsAt K _ ((ks.take i).map (jR s.L)++[jR s.L ks[i]]) (vs++[u1])
     rw[eq]
     exact ((hR.tk (TKF.same s4)).tk tk).snoc (RowIs.tk tk ⟨R,yc uU,hc,sN,vI⟩)
   rintro σ' G8 ⟨u,vs,rfl,s8,pk,B8,fb⟩
   rw[am,ce]at B8
   refine⟨sm rfl,fun t1 cL=>?_⟩
   have s9:=jb cL (.tup [V.str "done",V.int (kr s.N "out"),V.ref h2])
   have e9:upd G8 t1 (.tup [V.str "done",V.int (kr s.N "out"),V.ref h2]) t1=some (.tup [V.str "done",V.int (kr s.N "out"),V.ref h2]):=ja
   generalize upd G8 t1 (.tup [V.str "done",V.int (kr s.N "out"),V.ref h2])=G9 at *
   have Ao:=s7.trans (s8.trans s9)
   refine⟨_,rfl,bl,_,rfl,.inl (SqL.of ((s6.trans Ao) _ _ gg)),sm rfl,fun t2 ie=>?_⟩
   have gH:=jb ie (.tup [V.ref t1,V.int (bD.length:Int)])
   refine⟨_,.done (kr s.N "out") (ks.map (jR s.L)),ds.length,rfl,Ao.trans gH,⟨t2,.ref t1,rfl,by rw[ja,BL],t1,h2,vs,rfl,gH _ _ e9,gH _ _ (s9 _ _ pk),B8.tk (TKF.same (s9.trans gH))⟩,jd6 pP⟩
  .have HV:e≠none:=fun y=>z (Qd (vH.non.mpr y))
   cases e with
   | none=>exact absurd rfl HV
   | some x=>
    obtain⟨en,u⟩:=x
    obtain⟨hd,t,b,h1,h2,h3⟩:=vH
    exact⟨ev,en,u,rfl,Same.refl _,⟨t,b,h1,s6 _ _ h2,h3.mono s6⟩,jd5 pP⟩
 rintro σ G7 ⟨dE,en,u,rfl,s7,LR,hF⟩
 obtain⟨t,b,rfl,ht,vZ⟩:=LR
 obtain⟨tb,kb,xb,rfl,AY,ID⟩:=vZ.hd
 refine⟨fun σ G=>∃fu md u2,σ=[some (.ref a),some (.ref lw),some (.int near),some (.ref p),some (.ref gl),some (.ref rd),u6,some (.ref hl),some (.ref il),some (.int lack),some (.ref bl),some fu,some (.int most),none,none,none]/\Same G7 G/\EAt K G fu md u2/\(∀more,(lack < Pk.length->more=[])->∃k,Runs ⟨ws.getD 6 "",[ws.getD 0 "",ws.getD 1 ""],ks,ds⟩ (Pk.take lack++more) most k ⟨N0,L0,0,0⟩ (md,u2)),?_,?_⟩
 .have stay:¬most < u->∃fu md u2,[some (V.ref a),some (.ref lw),some (.int near),some (.ref p),some (.ref gl),some (.ref rd),u6,some (.ref hl),some (.ref il),some (.int lack),some (.ref bl),some (.ref t),some (.int most),none,none,none]=[some (.ref a),some (.ref lw),some (.int near),some (.ref p),some (.ref gl),some (.ref rd),u6,some (.ref hl),some (.ref il),some (.int lack),some (.ref bl),some fu,some (.int most),none,none,none]/\Same G7 G7/\EAt K G7 fu md u2/\(∀more,(lack < Pk.length->more=[])->∃k,Runs ⟨ws.getD 6 "",[ws.getD 0 "",ws.getD 1 ""],ks,ds⟩ (Pk.take lack++more) most k ⟨N0,L0,0,0⟩ (md,u2)):=fun fV=>
   ⟨.ref t,en,u,rfl,Same.refl _,⟨t,_,rfl,ht,vZ⟩,fun more hm=>by obtain⟨k,hk⟩:=hF.run more hm;exact (ZA hk most (bE _)).1 (by show u<=most;omega)⟩
  refine⟨_,rfl,t,_,_,_,rfl,rfl,SqT.of ht,rfl,_,rfl,_,_,rfl,rfl,_,rfl,j7 (fun z1=>?_) (fun z1=>?_)⟩
  .have aG:most < u:=by have:=Qc z1;omega
   refine kL ?_
   refine⟨sm rfl,fun t1 cL=>?_⟩
   have s8:=jb cL (.tup [V.str "spent"])
   have e8:upd G7 t1 (.tup [V.str "spent"]) t1=some (.tup [V.str "spent"]):=ja
   generalize upd G7 t1 (.tup [V.str "spent"])=G8 at *
   refine⟨_,rfl,sm rfl,fun t2 ie=>?_⟩
   have s9:=jb ie (.tup [V.ref t1,V.int (most:Int)])
   exact⟨.ref t2,.spent,most,rfl,s8.trans s9,⟨t2,_,rfl,ja,t1,rfl,s9 _ _ e8⟩,fun more hm=>by obtain⟨k,hk⟩:=hF.run more hm;exact (ZA hk most (bE _)).2 aG⟩
  .have fV:¬most < u:=fun y=>z1 (Qd (by omega))
   refine⟨_,rfl,t,_,_,_,rfl,rfl,SqT.of ht,rfl,tb,_,_,_,rfl,rfl,SqT.of AY,J4,rfl,_,rfl,j7 (fun z2=>?_) (fun z2=>kT (stay fV))⟩
   have hdone:=hF.dn (ID (by have:=Qc z2;injection this))
   refine⟨_,rfl,bl,_,rfl,.inl (SqL.of ((s6.trans s7) _ _ gg)),_,rfl,_,_,rfl,rfl,_,rfl,j7 (fun z3=>?_) (fun z3=>stay fV)⟩
   have:=Qc z3
   omega
 rintro σ G8 ⟨fu,md,u2,rfl,s8,Cn,sy⟩
 clear hF vZ AY ht
 have rW:=s6.trans (s7.trans s8)
 have sQ:=rW _ _ i3
 refine⟨fun σ G=>∃hW more,σ=[some (.ref a),some (.ref lw),some (.int near),some (.ref p),some (.ref gl),some (.ref rd),u6,some (.ref hl),some (.ref hW),some (.int lack),some (.ref bl),some fu,some (.int most),none,none,none]/\Same G8 G/\G hW=some (.lst ((Pk.take lack++more).map V.int))/\(lack < Pk.length->more=[]),?_,?_⟩
 .refine⟨_,rfl,a,ns,3,rfl,rW.seq B5,by decide,by decide,fun c8=>?_⟩
  refine⟨_,_,rfl,rfl,⟨by decide,by decide⟩,_,_,rfl,rfl,(by show (0:Int) < _;decide),rfl,_,rfl,j7 (fun z1=>?_) (fun z1=>kT ⟨il,[],rfl,Same.refl _,by rw[dj];exact sQ,fun _=>rfl⟩)⟩
  refine⟨_,rfl,rfl,_,rfl,j7 (fun z2=>?_) (fun z2=>⟨il,[],rfl,Same.refl _,by rw[dj];exact sQ,fun _=>rfl⟩)⟩
  have hl60:lack=60:=by have:=Qc z2;injection this with this;omega
  refine⟨_,rfl,sm rfl,fun l2 aQ=>?_⟩
  have s9:=jb aQ (.lst [V.int 7,V.int 8])
  have e9:upd G8 l2 (.lst [V.int 7,V.int 8]) l2=some (.lst [V.int 7,V.int 8]):=ja
  generalize upd G8 l2 (.lst [V.int 7,V.int 8])=G9 at *
  have fm:=pP.tki
  refine⟨il,l2,_,_,rfl,rfl,s9 _ _ sQ,e9,Kd (by rw[am,a_,bi,bi,lv];omega),fun l9 vo=>?_⟩
  refine⟨l9,[7,8],rfl,s9.trans (jb vo _),by rw[ja,aX];rfl,fun y=>by omega⟩
 rintro σ G9 ⟨hW,more,rfl,s9,By,Ie⟩
 have mP:=rW.trans s9
 have Cm:=Cn.mono s9
 have nj:=mP _ _ ve
 have BE:=mP _ _ BF
 have BA:=mP _ _ BB
 have BX:=mP _ _ gg
 have BM:=vL.mono mP
 have B7:=B9.tk (TKF.same mP)
 have nP:∀b o,G9 b=some o->True:=fun _ _ _=>trivial
 generalize hI9:Pk.take lack++more=inp at *
 have sA:=sy more Ie
 rw[hI9]at sA
 clear Cn ve BF BB gg vL B9 rW s8 s7 s6 sQ i3 sy
 refine⟨_,rfl,lw,_,_,_,rfl,rfl,SqL.of nj,hx 6 (by decide),_,rfl,lw,_,_,_,rfl,rfl,SqL.of nj,hx 0 (by decide),_,rfl,lw,_,_,_,rfl,rfl,SqL.of nj,hx 1 (by decide),sm rfl,fun q1 m8=>?_⟩
 have z1:=jb m8 (.tup [V.str (ws.getD 0 ""),V.str (ws.getD 1 "")])
 have f1:upd G9 q1 (.tup [V.str (ws.getD 0 ""),V.str (ws.getD 1 "")]) q1=some (.tup [V.str (ws.getD 0 ""),V.str (ws.getD 1 "")]):=ja
 generalize upd G9 q1 (.tup [V.str (ws.getD 0 ""),V.str (ws.getD 1 "")])=G10 at *
 have sM:=z1 _ _ nj
 refine⟨_,rfl,lw,_,_,_,rfl,rfl,SqL.of sM,hx 3 (by decide),_,rfl,lw,_,_,_,rfl,rfl,SqL.of sM,hx 4 (by decide),_,rfl,lw,_,_,_,rfl,rfl,SqL.of sM,hx 5 (by decide),sm rfl,fun q2 gL=>?_⟩
 have z2:=jb gL (.tup [V.str (ws.getD 3 ""),V.str (ws.getD 4 ""),V.str (ws.getD 5 "")])
 have f2:upd G10 q2 (.tup [V.str (ws.getD 3 ""),V.str (ws.getD 4 ""),V.str (ws.getD 5 "")]) q2=some (.tup [V.str (ws.getD 3 ""),V.str (ws.getD 4 ""),V.str (ws.getD 5 "")]):=ja
 generalize upd G10 q2 (.tup [V.str (ws.getD 3 ""),V.str (ws.getD 4 ""),V.str (ws.getD 5 "")])=G11 at *
 refine⟨sm rfl,fun q3 sC=>?_⟩
 have z3:=jb sC (.tup [])
 have f3:upd G11 q3 (.tup []) q3=some (.tup []):=ja
 generalize upd G11 q3 (.tup [])=G12 at *
 refine⟨sm rfl,fun q4 Hv=>?_⟩
 have z4:=jb Hv (.tup [])
 have f4:upd G12 q4 (.tup []) q4=some (.tup []):=ja
 generalize upd G12 q4 (.tup [])=G13 at *
 have c9:=z1.trans (z2.trans (z3.trans z4))
 refine⟨_,rfl,bl,bD,rfl,.inl ⟨SqL.of (c9 _ _ BX),fun q5 Hu=>?_⟩⟩
 have z5:=jb Hu (.tup bD)
 have f5:upd G13 q5 (.tup bD) q5=some (.tup bD):=ja
 generalize upd G13 q5 (.tup bD)=G14 at *
 refine⟨sm rfl,fun q6 Ht=>?_⟩
 have z6:=jb Ht (.tup [V.str "proc",V.str (ws.getD 6 ""),V.ref q1,V.ref q2,V.ref q3,V.ref q4,V.ref q5])
 have f6:upd G14 q6 (.tup [V.str "proc",V.str (ws.getD 6 ""),V.ref q1,V.ref q2,V.ref q3,V.ref q4,V.ref q5]) q6=some (.tup [V.str "proc",V.str (ws.getD 6 ""),V.ref q1,V.ref q2,V.ref q3,V.ref q4,V.ref q5]):=ja
 generalize upd G14 q6 (.tup [V.str "proc",V.str (ws.getD 6 ""),V.ref q1,V.ref q2,V.ref q3,V.ref q4,V.ref q5])=G15 at *
 refine⟨sm rfl,fun q7 Hr=>?_⟩
 have z7:=jb Hr (.tup [V.ref q6])
 have f7:upd G15 q7 (.tup [V.ref q6]) q7=some (.tup [V.ref q6]):=ja
 generalize upd G15 q7 (.tup [V.ref q6])=G16 at *
 have mN:=z5.trans (z6.trans z7)
 have lC:=c9.trans mN
 have Hx:Held G16 (Pr.toD ⟨ws.getD 6 "",[ws.getD 0 "",ws.getD 1 ""],ks,ds⟩) (.ref q6):=by
  refine jv (z7 _ _ f6) (jc jy (jc jy (jc (jv ((z2.trans (z3.trans (z4.trans mN))) _ _ f1) (jc jy (jc jy jp))) (jc (jv ((z3.trans (z4.trans mN)) _ _ f2) (jc jy (jc jy (jc jy jp)))) (jc (jv ((z4.trans mN) _ _ f3) jp) (jc (jv (mN _ _ f4) jp) (jc (jv ((z6.trans z7) _ _ f5) (BM.mono lC)) jp)))))))
 clear f1 f2 f3 f4 f5 f6 z1 z2 z3 z4 z5 z6 z7 c9 mN sM
 refine gQ ?_
 have vC:=lC _ _ BE
 have vB:=lC _ _ BA
 have vA:=lC _ _ By
 have LQ:=Cm.mono lC
 have Cb:=B7.tk (TKF.same lC)
 have Ip:=lC _ _ nj
 clear BE BA By Cm B7 nj BM BX
 refine⟨_,rfl,gl,_,rfl,.inl (SqL.of vC),fun g2 vD=>?_⟩
 have z1:=jb vD (.lst [V.int n0,V.int n1])
 have f1:upd G16 g2 (.lst [V.int n0,V.int n1]) g2=some (.lst [V.int n0,V.int n1]):=ja
 generalize upd G16 g2 (.lst [V.int n0,V.int n1])=G17 at *
 refine⟨_,rfl,hl,_,rfl,.inl (SqL.of (z1 _ _ vB)),fun h2 lU=>?_⟩
 have z2:=jb lU (.lst vs)
 have f2:upd G17 h2 (.lst vs) h2=some (.lst vs):=ja
 generalize upd G17 h2 (.lst vs)=G18 at *
 refine⟨_,rfl,hW,_,rfl,.inl (SqL.of ((z1.trans z2) _ _ vA)),fun i2 IL=>?_⟩
 have z3:=jb IL (.lst (inp.map V.int))
 have f3:upd G18 i2 (.lst (inp.map V.int)) i2=some (.lst (inp.map V.int)):=ja
 generalize upd G18 i2 (.lst (inp.map V.int))=G19 at *
 refine⟨sm rfl,fun hd IN=>?_⟩
 have z4:=jb IN (.tup [V.ref g2,V.ref h2,V.ref i2])
 have f4:upd G19 hd (.tup [V.ref g2,V.ref h2,V.ref i2]) hd=some (.tup [V.ref g2,V.ref h2,V.ref i2]):=ja
 generalize upd G19 hd (.tup [V.ref g2,V.ref h2,V.ref i2])=G20 at *
 refine gQ ?_
 have c9:=z1.trans (z2.trans (z3.trans z4))
 have L9:=(z2.trans (z3.trans z4)) _ _ f1
 have L1:=(z3.trans z4) _ _ f2
 have Gx:=z4 _ _ f3
 clear f1 f2 f3 z1 z2 z3 z4
 obtain⟨kk,sA⟩:=sA
 refine⟨_,rfl,_,rfl,lw,_,_,_,rfl,rfl,SqL.of (c9 _ _ Ip),hx 6 (by decide),_,rfl,_,rfl,_,rfl,_,rfl,q7,gl,hl,hW,⟨ws.getD 6 "",[ws.getD 0 "",ws.getD 1 ""],ks,ds⟩,[n0,n1],ks.map (jR L0),inp,most,rfl,⟨⟨[.ref q6],c9 _ _ f7,jc (Hx.mono c9) jp⟩,c9 _ _ vC,⟨vs,c9 _ _ vB,Cb.tk (TKF.same c9)⟩,c9 _ _ vA,(by show ds.length<=40;omega),rfl,rfl,?_,hK.1,(by show 2<=100;decide),(by show 3<=100;decide),?_⟩,kk,md,u2,?_,fun ft fv Dt z5 IV BG=>?_⟩
 .simp only[gz,bg,t_,or_false,not_or,xV,and_true]
  exact⟨bp 0 1 (by decide) (by decide) (by decide),fun z=>z.elim⟩
 .intro q' ig
  obtain⟨r',_,rfl⟩:=bf.mp ig
  rw[ZQ (P:=fun q=>q.2.2=[]) (fun z h=>(hL z h).2) rfl r']
  exact ay 0
 .have e1:yP ⟨ws.getD 6 "",[ws.getD 0 "",ws.getD 1 ""],ks,ds⟩ [n0,n1] (ks.map (jR L0))=⟨N0,L0,0,0⟩:=by
   unfold yP;rw[<- hN0];show (⟨_,ks.zip (ks.map (jR L0)),0,0⟩:Fm)=_;rw[jcL vt hK.1];rfl
  rw[e1];exact sA
 refine gQ ?_
 have LP:=(LQ.mono c9).mono z5
 have IQ:=(c9.trans z5) _ _ vC
 have IM:=(c9.trans z5) _ _ vB
 have IJ:=(c9.trans z5) _ _ vA
 have Ca:=Cb.tk (TKF.same (c9.trans z5))
 have Cr:=z5 _ _ f4
 have L8:=z5 _ _ L9
 have LZ:=z5 _ _ L1
 have Gw:=z5 _ _ Gx
 refine⟨_,rfl,_,rfl,_,rfl,sm rfl,fun tt GU=>?_⟩
 have z6:=jb GU (.tup [V.ref gl,V.ref hl,V.ref hW])
 have f6:upd Dt tt (.tup [V.ref gl,V.ref hl,V.ref hW]) tt=some (.tup [V.ref gl,V.ref hl,V.ref hW]):=ja
 generalize upd Dt tt (.tup [V.ref gl,V.ref hl,V.ref hW])=G22 at *
 refine⟨_,rfl,tt,hd,_,_,rfl,rfl,SqT.of f6,SqT.of (z6 _ _ Cr),?_,?_⟩
 .exact .cons (.lst (z6 _ _ IQ) (z6 _ _ L8) rfl (Yl [n0,n1] _).2) (.cons (.lst (z6 _ _ IM) (z6 _ _ LZ) rfl (fun j x y e1 e2=>by
   have:=(Ku _ _ _ (Ca.tk (TKF.same z6)) (Ca.tk (TKF.same z6))).2 j x y e1 e2;exact Y2 (by decide) this)) (.cons (.lst (z6 _ _ IJ) (z6 _ _ Gw) rfl (Yl inp _).2) .nil))
 refine⟨true,rfl,kL ?_⟩
 obtain⟨te,be,rfl,GW,LO⟩:=LP
 refine⟨_,rfl,.ref ft,.type "tuple","tuple",true,rfl,?_,rfl,⟨true,rfl,kL ?_⟩⟩
 .exact .tup (z6 _ _ BG)
 refine⟨_,rfl,_,rfl,ft,te,_,_,rfl,rfl,SqT.of (z6 _ _ BG),SqT.of (z6 _ _ GW),.cons (Y2 (by decide) (jdR (IV.mono z6) (LO.mono z6))) (.cons (qv _ _) .nil),?_⟩
 exact q _
end
theorem el0{P:List ac->Prop}(h:P []):∀us:List ac,us.length=0->P us
 | [],_=>h
theorem el1{P:List ac->Prop}(h:∀a0,P [a0]):∀us:List ac,us.length=1->P us
 | a :: v,e=>el0 (P:=fun v=>P (a :: v)) (h a) v (nZ e)
theorem el2{P:List ac->Prop}(h:∀a0 a1,P [a0,a1]):∀us:List ac,us.length=2->P us
 | a :: v,e=>el1 (P:=fun v=>P (a :: v)) (h a) v (nZ e)
theorem el3{P:List ac->Prop}(h:∀a0 a1 a2,P [a0,a1,a2]):∀us:List ac,us.length=3->P us
 | a :: v,e=>el2 (P:=fun v=>P (a :: v)) (h a) v (nZ e)
theorem el4{P:List ac->Prop}(h:∀a0 a1 a2 a3,P [a0,a1,a2,a3]):∀us:List ac,us.length=4->P us
 | a :: v,e=>el3 (P:=fun v=>P (a :: v)) (h a) v (nZ e)
theorem el5{P:List ac->Prop}(h:∀a0 a1 a2 a3 a4,P [a0,a1,a2,a3,a4]):∀us:List ac,us.length=5->P us
 | a :: v,e=>el4 (P:=fun v=>P (a :: v)) (h a) v (nZ e)
theorem el6{P:List ac->Prop}(h:∀a0 a1 a2 a3 a4 a5,P [a0,a1,a2,a3,a4,a5]):∀us:List ac,us.length=6->P us
 | a :: v,e=>el5 (P:=fun v=>P (a :: v)) (h a) v (nZ e)
theorem el7{P:List ac->Prop}(h:∀a0 a1 a2 a3 a4 a5 a6,P [a0,a1,a2,a3,a4,a5,a6]):∀us:List ac,us.length=7->P us
 | a :: v,e=>el6 (P:=fun v=>P (a :: v)) (h a) v (nZ e)
abbrev LkF(K:ai)(f:aa)(x n:Str)(st:au)(oc:ac)(od:Option aa)(kV dc pm:ac)(an:Option aa)(cd ct:ac)(sl:Array (Option ac)):Prop:=K.lookup f=some ⟨oc,od,.func (iE x n (zm st) (qE st) (jn st) .none kV dc pm an cd ct),sl⟩
structure DefK(K:ai)(f:aa)(fd:aH)(x:Str)(st:au):Prop where
 a:cD K br x=some (some (.ref f))
 u:Fun K x x st f fd
theorem DefK.m{st:au}{oc kV dc pm cd ct:ac}{od an:Option aa}{sl:Array (Option ac)}(a:cD K br x=some (some (.ref f)))(l:LkF K f x x st oc od kV dc pm an cd ct sl)(c:nW K cd x=true)(k:gX K (.ref f)=true):DefK K f (iE x x (zm st) (qE st) (jn st) .none kV dc pm an cd ct) x st:=⟨a,Za l c k⟩
theorem mk2{P:av}{w:ar}{K:ai}{mg:Str->Option ac}{base h:aq}(X:K.In h)(G:h.Ns br mg){k:Nat}{x:Str}{st:au}{f:aa}{fd:aH}{ps:List Str}{sp:Sp}(a:DefK K f fd x st)(ok:FnOk P w K mg base CX0 k f fd ps sp)(b:∀(kV cN pm:ac) (an:Option aa) (az ct:ac) (us:List ac),us.length=ps.length->bindArgs (iE x x (zm st) (qE st) (jn st) .none kV cN pm an az ct) ⟨us,[]⟩=pure (ps.zip us):=by exact fun _ _ _ _ _ _=>by first | exact el0 rfl | exact el1 fun _=>rfl | exact el2 fun _ _=>rfl | exact el3 fun _ _ _=>rfl | exact el4 fun _ _ _ _=>rfl | exact el5 fun _ _ _ _ _=>rfl | exact el6 fun _ _ _ _ _ _=>rfl | exact el7 fun _ _ _ _ _ _ _=>rfl ):Fn P w K mg base k x ps sp:=Fn.mk' a.u (a.u.binds b) (tR X G a.a) ok
set_option autoImplicit true in
theorem all_mk{l:D_}{w:ar}{K:ai}{h:aq}{mg:Str->Option ac}{fa:aa}(X:K.In h)(G:h.Ns br mg)(fk:mg "law" = some (.ref fa))
  (a0:DefK K f0 d0 "steps_up_to" zI)
  (a1:DefK K f1 d1 "entry" jat)
  (a2:DefK K f2 d2 "stairs" YL)
  (a3:DefK K f3 d3 "written" Kg)
  (a4:DefK K f4 d4 "number_at" yJ)
  (a5:DefK K f5 d5 "place_at" Js)
  (a6:DefK K f6 d6 "row_at" YM)
  (a7:DefK K f7 d7 "term_at" Kh)
  (a8:DefK K f8 d8 "run_places" qI)
  (a9:DefK K f9 d9 "bounded" Kl)
  (Dq:DefK K f10 d10 "compared_row" zr)
  (Dp:DefK K f11 d11 "least_holds" zJ)
  (Do:DefK K f12 d12 "each_holds" yb)
  (Dn:DefK K f13 d13 "rise_holds" zj)
  (Dm:DefK K f14 d14 "holds" YO)
  (Dl:DefK K f15 d15 "lay_body" Jt)
  (Dk:DefK K f16 d16 "steps_of" Jr)
  (Dj:DefK K f17 d17 "procs_by_name" qm)
  (Di:DefK K f18 d18 "first_untrue" zq)
  (Dh:DefK K f19 d19 "look" jc7)
  (Dg:DefK K f20 d20 "take_input" zZ)
  (Df:DefK K Cr d21 "do" sDo)
  (De:DefK K f22 d22 "come_back" zK)
  (Dd:DefK K f23 d23 "gone_on" Kj)
  (Dc:DefK K f24 d24 "run" jf1)
  (Db:DefK K f25 d25 "_law_cell_at" Kk)
  (Da:DefK K f26 d26 "_law_words" yI)
  (C_:DefK K f27 d27 "_law_mix" jf3)
  (C9:DefK K f28 d28 "_law_made" jc6)
  (C8:DefK K f29 d29 "_law_holds" jas)
  (C7:DefK K f30 d30 "_law_stairs" y7)
  (C6:DefK K f31 d31 "_law_place" jar)
  (C3:DefK K f32 d32 "_law_term" jc4)
  (CZ:DefK K f33 d33 "_law_number" YN)
  (CY:DefK K f34 d34 "_law_worth" jaq)
  (CW:DefK K f35 d35 "_law_points" yu)
  (CV:DefK K f36 d36 "_law_gaps" jbc)
  (CU:DefK K f37 d37 "_law_true" Zz)
  (CT:DefK K f38 d38 "_law_end" jf5)
  (CS:DefK K f39 d39 "_law_claim" YQ)
  (CQ:DefK K f40 d40 "_law_fitted" JX)
  (CP:DefK K f41 d41 "_law_put" jf2)
  (CO:DefK K f42 d42 "_law_statement" jc5)
  (CN:DefK K f43 d43 "_law_done" jc8)
  (CM:DefK K f44 d44 "_law_body" jc9)
  (MI:cD K br "law" = some (some (.ref f45)))
  (Gi:LkF K f45 "law" "law" Ki oc45 od45 kV45 dc45 pm45 an45 cd45 ct45 sl45) (Mv:nW K cd45 "law" = true) (Gq:gX K (.ref f45)=true)
  (MF:cD K br "Course" = some (some (.ref C0))) (MH:cp K (.ref C0) "__init__" = some (some (.ref f46))) (Gv:W.isFn K (.ref f46)=true)
  (Gh:LkF K f46 "__init__" "Course.__init__" zv oc46 od46 kV46 dc46 pm46 an46 cd46 ct46 sl46) (Mu:nW K cd46 "Course.__init__" = true) (Gp:gX K (.ref f46)=true)
  (ME:cD K br "Frame" = some (some (.ref C1))) (MG:cp K (.ref C1) "__init__" = some (some (.ref f47))) (Gu:W.isFn K (.ref f47)=true)
  (Gg:LkF K f47 "__init__" "Frame.__init__" qo oc47 od47 kV47 dc47 pm47 an47 cd47 ct47 sl47) (Mt:nW K cd47 "Frame.__init__" = true) (Go:gX K (.ref f47)=true)
  (FN:tQ K C0 Ec=true) (Lb:tS K C0=true) (FL:xj K C0=true) (Fw:cp K (.ref C0) "__setattr__" = some (some (.builtin "object.__setattr__"))) (Ga:xk K C0=true) (Gn:gX K (.ref C0)=true)
  (F8:cp K (.ref C0) "procs" = some none)
  (F7:cp K (.ref C0) "steps" = some none)
  (F6:cp K (.ref C0) "inputs" = some none)
  (F5:cp K (.ref C0) "taken" = some none)
  (F4:cp K (.ref C0) "most" = some none)
  (F3:cp K (.ref C0) "used" = some none)
  (F2:cp K (.ref C0) "frames" = some none)
  (FM:tQ K C1 Ec=true) (i5:tS K C1=true) (FK:xj K C1=true) (Fv:cp K (.ref C1) "__setattr__" = some (some (.builtin "object.__setattr__"))) (F_:xk K C1=true) (Gm:gX K (.ref C1)=true)
  (F1:cp K (.ref C1) "proc" = some none)
  (F0:cp K (.ref C1) "called_by" = some none)
  (FZ:cp K (.ref C1) "numbers" = some none)
  (FY:cp K (.ref C1) "rows" = some none)
  (FX:cp K (.ref C1) "at" = some none)
  {ba eb:aa} {FR FQ:Option aa} {Ft Fs:Array (Option ac)} {Ac:Tok} {nb ne:Nat} (Mx:cD K br "BARE_ROW" = some (some (.ref ba))) (Mw:K.lookup ba=some ⟨.type "tuple",FR,.seq #[.int 0 Ac,.ref eb] nb,Ft⟩) (ble:K.lookup eb=some ⟨.type "tuple",FQ,.seq #[] ne,Fs⟩)
  (z0:cD K br "len" = some none) (z1:cD K br "max" = some none) (z2:cD K br "min" = some none) (z3:cD K br "all" = some none) (z4:cD K br "isinstance" = some none) (z5:cD K br "abs" = some none) (z6:cD K br "sorted" = some none) (z7:cD K br "int" = some none) (z8:cD K br "str" = some none) (z9:cD K br "bool" = some none) (Fi:cD K br "tuple" = some none) (Fh:cD K br "list" = some none) (Fg:cD K br "dict" = some none) (Ff:cD K br "range" = some none) (c9:cD K br "set" = some none) (Fe:cD K br "zip" = some none) (Fd:cD K br "enumerate" = some none) :
  ∃fd:aH,(∀(s:ae) (v:ac),ro s fd ⟨[v],[]⟩ [("_law_script",v)])/\∀base:aq,K.In base->base.Ns br mg->FnOk l.prog w K mg base CX0 12 fa fd ["_law_script"] (spLaw K):=by
 have e:=fk.symm.trans (tR X G MI)
 cases e
 have B:Free0 mg:=⟨dH X G z0,dH X G z1,dH X G z2,dH X G z3,dH X G z4,dH X G z5,dH X G z6,dH X G z7,dH X G z8,dH X G z9,dH X G Fi,dH X G Fh,dH X G Fg,dH X G Ff,dH X G c9⟩
 have tF:mg "zip" = none:=dH X G Fe
 have iw:mg "enumerate" = none:=dH X G Fd
 have R:Bare K mg:=⟨ba,eb,tR X G Mx,fun H=>.inr ⟨_,_,_,Mw,rfl,rfl,sm rfl,.cons ⟨Ac,rfl⟩ (.cons rfl .nil)⟩,fun H=>.inr ⟨_,_,_,ble,rfl,rfl,sm rfl,.nil⟩⟩
 have MJ:=Za (st:=Ki) Gi Mv Gq
 have Ds:=Za (st:=zv) Gh Mu Gp
 have Mz:=Ds.binds (ps:=["self","program","inputs","most"]) fun _ _ _ _ _ _=>el4 (fun _ _ _ _=>rfl)
 have Dr:=Za (st:=qo) Gg Mt Go
 have My:=Dr.binds (ps:=["self","proc","numbers","rows","called_by"]) fun _ _ _ _ _ _=>el5 (fun _ _ _ _ _=>rfl)
 have nE:ClsC K C0:=⟨⟨FN,Lb,FL,Fw⟩,F8,F7,F6,F5,F4,F3,F2⟩
 have mh:ClsF K C1:=⟨⟨FM,i5,FK,Fv⟩,F1,F0,FZ,FY,FX⟩
 refine⟨iE "law" "law" (zm Ki) (qE Ki) (jn Ki) .none kV45 dc45 pm45 an45 cd45 ct45,fun s v=>.of_eq rfl,fun base _ _=>?_⟩
 have MK:=@mk2 l.prog w K mg base h X G
 have mn:=MK a0 (jdB a0.u B)
 have eT:=MK a1 (jdG a1.u mn)
 have nH:=MK a2 (jbY a2.u B)
 have wu:=MK a3 (jaB a3.u B mn eT nH)
 have fC:=MK a4 (YW a4.u)
 have eB:=MK a5 (ZG a5.u fC)
 have fA:=MK a6 (jbZ a6.u R)
 have mj:=MK a7 (jaC a7.u fC eB fA eT)
 have nI:=MK a8 (jb1 a8.u B)
 have wQ:=MK a9 (jaF a9.u)
 have wN:=MK Dq (ZI Dq.u fA fC)
 have wF:=MK Dp (jdE Dp.u mj)
 have wK:=MK Do (je7 Do.u fA wN nI eB wQ eT)
 have wA:=MK Dn (je3 Dn.u B fA nI eB eT)
 have fD:=MK Dm (jb3 Dm.u wF wK wA)
 have wG:=MK Dl (ZH Dl.u B iw)
 have wx:=MK Dk (ZF Dk.u wG)
 have wC:=MK Dj (jdC Dj.u)
 have nO:=MK Di (JN mh iw Di.u fD)
 have nK:=MK Dh (je5 Dh.u nO)
 have ww:=MK Dg (K3 nE mh Dg.u B)
 have wM:=MK Df (jhb nE mh Df.u nK ww mj wu eB)
 have wO:=MK De (YX nE mh De.u nK fC)
 have wH:=MK Dd (jaE B nE mh Dd.u wO wM)
 have wt:MkFn l.prog w K mg base _ "Course" C0 _ _:=⟨f46,_,⟨Ga,MH,Gv,Gn⟩,jb6 (P:=l.prog) (w:=w) (base:=base) nE Ds wC wx,Mz,tR X G MF⟩
 have wq:MkFn l.prog w K mg base _ "Frame" C1 _ _:=⟨f47,_,⟨F_,MG,Gu,Gm⟩,jdF (P:=l.prog) (w:=w) (base:=base) mh Dr B tF,My,tR X G ME⟩
 have wz:=MK Dc (jgm nE mh Dc.u wt wq nO wH)
 have eC:=MK Db (je9 Db.u B)
 have wv:=MK Da (jdA Da.u B)
 have cP:=MK C_ (jgo C_.u)
 have wD:=MK C9 (je4 C9.u B cP)
 have tH:=MK C8 (jb4 C8.u)
 have MM:=MK C7 (jaD C7.u B tH)
 have fB:=MK C6 (jdD C6.u B)
 have ml:=MK C3 (je1 C3.u B fB)
 have dF:=MK CZ (jb2 CZ.u)
 have fw:=MK CY (jdz CY.u dF tH)
 have nJ:=MK CW (jb0 CW.u B)
 have nN:=MK CV (je6 CV.u dF tH nJ)
 have tG:=MK CU (je0 CU.u B dF fw tH nJ nN)
 have wJ:=MK CT (jgq CT.u fB)
 have wP:=MK CS (jdH CS.u B cP fB ml wJ)
 have wI:=MK CQ (jb5 CQ.u B fw nN)
 have wB:=MK CP (jgn CP.u)
 have wy:=MK CO (je2 CO.u B cP wP wI tG fB ml)
 have wL:=MK CN (je8 CN.u fw dF wB)
 have wR:=MK CM (jfa CM.u B iw eC cP wy wL)
 exact jgp MJ B eC wv cP wD wR MM wz
theorem walk{l:D_}{q:av}{mU:List Str}{XP:(Str->Option ac)->aq->Prop}{YP:ar->aq->Prop}{d:DefRec}{K:Params->ai}(hn:l.most=some 63)(pC:d.params.defaults=[])
  (hY:∀(w:ar) (h:aq),YP w h->(K w.params).In h)
  (F:∀(w:ar) (mg:Str->Option ac) (fa:aa) (h:aq),(K w.params).In h->h.Ns br mg->mg d.name=some (.ref fa)->
   ∃fd:aH,(∀(s:ae) (u:ac),ro s fd ⟨[u],[]⟩ [("_law_script",u)])/\∀base:aq,(K w.params).In base->base.Ns br mg->FnOk l.prog w (K w.params) mg base CX0 12 fa fd ["_law_script"] (spLaw (K w.params))) :
  N1 q mU XP YP l.row.toRowW d [] (fun f vs=>D0 f vs):=
 L2.walk_of (n:=63) (k:=12) (x:="_law_script") (CX:=fun _=>CX0) (sp:=fun w=>spLaw (K w.params)) hn (by decide) pC ⟨rfl,by decide,by decide,rfl⟩ hY F (fun _ _ a ns hl _ hS=>⟨a,ns,rfl,hS,hl,fun _=>rfl⟩) fun _ _ _ _ _ z=>z
end LW
namespace PySem.W.Fast
def tw10017984819395462535:=()
def tw10084511513311399904:=()
def tw10163795012363425996:=()
def tw10233506077451959921:=()
def tw10258833560810354839:=()
def tw10526380593171263264:=()
def tw10529288254686792468:=()
def tw1059171548434235961:=()
def tw10698846562325778456:=()
def tw10721113834851210664:=()
def tw10747987502498520055:=()
def tw10883340952601919123:=()
def tw11029709765740431435:=()
def tw1109684955785756114:=()
def tw11193940966867165550:=()
def tw11312567901871189854:=()
def tw11362890609679636417:=()
def tw11429771651512496094:=()
def tw1155380462560786662:=()
def tw11602491697412724159:=()
def tw12167010700756254961:=()
def tw12234780239583934603:=()
def tw1255247755455542104:=()
def tw12739772303628818660:=()
def tw12865766938643360676:=()
def tw12947959135821315244:=()
def tw13008355421360738729:=()
def tw13075920253134575342:=()
def tw13169555279492760734:=()
def tw13353921883371508751:=()
def tw13356351662929573083:=()
def tw13392250455946111846:=()
def tw13438030667478643599:=()
def tw13556265835828885357:=()
def tw13723388807180099014:=()
def tw13773466709444547266:=()
def tw13892463271609688646:=()
def tw13998024256687672777:=()
def tw14218060272299792283:=()
def tw14337685271616093533:=()
def tw14342866634593418212:=()
def tw14391387698214850775:=()
def tw14547958974305882492:=()
def tw14591657941848690790:=()
def tw14654686162863468947:=()
def tw1475769373318558296:=()
def tw14785208863820495745:=()
def tw15078897514174958133:=()
def tw15197388459264671371:=()
def tw15199522586809374970:=()
def tw15383698326674728392:=()
def tw15500859031704434420:=()
def tw15513299106010451478:=()
def tw157920897409019704:=()
def tw15842598388971399067:=()
def tw15848501978135465943:=()
def tw15927048622205680178:=()
def tw15940864959625413228:=()
def tw16132619021627451619:=()
def tw16158577104173535227:=()
def tw16276334057166871411:=()
def tw16303097196266962245:=()
def tw16382647024944008054:=()
def tw1643766232120652274:=()
def tw16909476689141668187:=()
def tw16985371276334435425:=()
def tw17070191414380442251:=()
def tw17476517687994018599:=()
def tw1754373572529021629:=()
def tw17599047531899888635:=()
def tw17616418179850868960:=()
def tw17631992519239363158:=()
def tw1768723092611829070:=()
def tw17799723410937045574:=()
def tw1780592462679993385:=()
def tw1784971015815369971:=()
def tw17855682190554902155:=()
def tw17864498828224492590:=()
def tw17913646337815414722:=()
def tw18171163665816749229:=()
def tw18204297371094445037:=()
def tw18252031826482615141:=()
def tw18312316381987503733:=()
def tw1889551713556553870:=()
def tw2095004943988022487:=()
def tw2327287431656584114:=()
def tw2391376969423291863:=()
def tw2573175138218425045:=()
def tw2736893233488584475:=()
def tw2757806833150631649:=()
def tw2777177193374425534:=()
def tw2959410218378569834:=()
def tw2995120476814002271:=()
def tw301691243507592382:=()
def tw3122862746892602217:=()
def tw3187266196202839083:=()
def tw3193277488838731680:=()
def tw3355842401021364698:=()
def tw3529517043530044966:=()
def tw3600652852852338374:=()
def tw3636125884826368695:=()
def tw3738129736877943112:=()
def tw3775913300481367142:=()
def tw377948360755840664:=()
def tw3853530174828599366:=()
def tw4106090455546945650:=()
def tw4168782589240043638:=()
def tw4242385561703885597:=()
def tw4399328473163637009:=()
def tw4609966693940090255:=()
def tw4656448820283042267:=()
def tw4667733321426498823:=()
def tw4720451883194875767:=()
def tw4955223183179875047:=()
def tw4998726675092343197:=()
def tw5179602566552873599:=()
def tw5247244461355621636:=()
def tw5336393974746280235:=()
def tw5377672713634383003:=()
def tw5515550822870236136:=()
def tw561550178964847239:=()
def tw564357277049323517:=()
def tw5988697417107228108:=()
def tw6030999750754125663:=()
def tw6182541434598396857:=()
def tw6349404073589834437:=()
def tw6519143006135788738:=()
def tw6613740814376906374:=()
def tw6638478593246771784:=()
def tw6816416678513232415:=()
def tw6915772720739157287:=()
def tw6922302628812129151:=()
def tw6994831575692507676:=()
def tw7094600842593799294:=()
def tw710124599291524701:=()
def tw7159438694910892549:=()
def tw7204207662148594363:=()
def tw7313390236941621650:=()
def tw7365521303864744865:=()
def tw7379008301715387823:=()
def tw7444602037505398685:=()
def tw7475122965626028383:=()
def tw7743812970731399948:=()
def tw8021100685989673606:=()
def tw8145399119015177776:=()
def tw8205358273933945717:=()
def tw8300063527487568017:=()
def tw8391911695039355111:=()
def tw853975579474427302:=()
def tw8643842416508657861:=()
def tw8693367079330592519:=()
def tw8869622094754349497:=()
def tw8890982003823795915:=()
def tw8923648033566309885:=()
def tw9217506048914758421:=()
def tw9309887282027273313:=()
def tw9421087327770618178:=()
end PySem.W.Fast
open PySem PySem.W PyProof.Rows
set_option maxRecDepth 100000 in
set_option maxHeartbeats 0 in
theorem PySem.Challenge.cw_outlineward_k71_procedures_gone_through_holds : PySem.Challenge.rw_outlineward_k71_procedures_gone_through.Holds := by
 w_on;o_law;k_head;(case hw=>w_witness2);k_fill;refine LW.walk (l:=Ox) rfl rfl (fun w h Y=>W.kIn_of Y) ?F
 case F=>
  intro w mg fa h KX G pf
  refine' LW.all_mk KX G pf ..
  all_goals try apply LW.DefK.m
  all_goals try ((try unfold LW.LkF);k_is)
